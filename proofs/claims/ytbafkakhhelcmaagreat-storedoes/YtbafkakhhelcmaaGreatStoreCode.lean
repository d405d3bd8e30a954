/-
  The code of layer 11 (store), as it landed: a store in memory (SBox, StAt); slices.Contains, ready, tell, Lebs, Cap, Has, spare, Open.
-/
import Derived.Test.YtbafkakhhelcmaaGreatStorePlain2
import Derived.Test.YtbafkakhhelcmaaGreatPackV
namespace Go.Proofs.YtbafkakhhelcmaaGreat
open Go.RowKit Go.Maps
set_option linter.unusedVariables false
set_option maxRecDepth 8192

/-- A store lies in the block s: its drive in d, which blocks stand in the block g. -/
structure SBox (w : World) (s d g : Nat) (st : List Int) (nu : Int) (dn : Bool) : Prop where
  box : w.heap[s]? = some (.cells #[.pointer (some ⟨d, 0, none⟩), .slice (some ⟨g, 0, none⟩) st.length st.length, .int .i64 nu, .bool dn] 78 (0, 0))
  row : w.heap[g]? = some (.cells (st.map (Value.int .i64)).toArray 3 (0, 0))
  ne : s ≠ g
  len : 1 ≤ st.length ∧ st.length ≤ 64
section
variable {w w' : World} {s d g : Nat} {st : List Int} {nu : Int} {dn : Bool}
theorem SBox.same (h : SBox w s d g st nu dn) (hs : w'.heap[s]? = w.heap[s]?) (hg : w'.heap[g]? = w.heap[g]?) : SBox w' s d g st nu dn := ⟨hs.trans h.box, hg.trans h.row, h.ne, h.len⟩
theorem SBox.slt (h : SBox w s d g st nu dn) : s < w.heap.size := (Array.getElem?_eq_some_iff.1 h.box).1
theorem SBox.glt (h : SBox w s d g st nu dn) : g < w.heap.size := (Array.getElem?_eq_some_iff.1 h.row).1
theorem SBox.below (h : SBox w s d g st nu dn) {B : Nat} (q : Below B w w') (hB : w.heap.size ≤ B) : SBox w' s d g st nu dn := h.same (q.block s (by have := h.slt; omega)) (q.block g (by have := h.glt; omega))
theorem SBox.turned {F : Nat → Prop} (h : SBox w s d g st nu dn) (t : Turned F w w') (hs : ¬ F s) (hg : ¬ F g) : SBox w' s d g st nu dn := h.same (t.block s h.slt hs) (t.block g h.glt hg)
theorem SBox.c0 (h : SBox w s d g st nu dn) : w.cell? ⟨s, 0, none⟩ = some (.pointer (some ⟨d, 0, none⟩)) := by simp [World.cell?, h.box]
theorem SBox.c1 (h : SBox w s d g st nu dn) : w.cell? ⟨s, 1, none⟩ = some (.slice (some ⟨g, 0, none⟩) st.length st.length) := by simp [World.cell?, h.box]
theorem SBox.c2 (h : SBox w s d g st nu dn) : w.cell? ⟨s, 2, none⟩ = some (.int .i64 nu) := by simp [World.cell?, h.box]
theorem SBox.c3 (h : SBox w s d g st nu dn) : w.cell? ⟨s, 3, none⟩ = some (.bool dn) := by simp [World.cell?, h.box]
theorem SBox.soft (h : SBox w s d g st nu dn) (i : Nat) : w.frozen? ⟨s, i, none⟩ = false := by simp [World.frozen?, h.box]
theorem SBox.softg (h : SBox w s d g st nu dn) (i : Nat) : w.frozen? ⟨g, i, none⟩ = false := by simp [World.frozen?, h.row]
theorem SBox.at (h : SBox w s d g st nu dn) (i : Nat) (hi : i < st.length) : w.cell? ⟨g, i, none⟩ = some (.int .i64 (st[i]?.getD 0)) := by simp [World.cell?, h.row, hi]
theorem SBox.ints (h : SBox w s d g st nu dn) : Row .i64 w (some ⟨g, 0, none⟩) st.length st.length st := by
  have hl := h.len
  refine ⟨rfl, Nat.le_refl _, by unfold maxLen; omega, fun e => (by cases e), fun _ => ⟨g, 0, rfl, h.glt, fun i hi => ?_⟩⟩
  rw [Nat.zero_add]; exact h.at i hi
theorem SBox.setNum (h : SBox w s d g st nu dn) (v : Int) : SBox (w.setCell ⟨s, 2, none⟩ (.int .i64 v)) s d g st v dn := by
  refine ⟨?_, (Below.heap_setCell w ⟨s, 2, none⟩ _ g (Ne.symm h.ne)).trans h.row, h.ne, h.len⟩
  have := block_setC (i := 2) h.box (.int .i64 v)
  simpa using this
theorem SBox.setDown (h : SBox w s d g st nu dn) (v : Bool) : SBox (w.setCell ⟨s, 3, none⟩ (.bool v)) s d g st nu v := by
  refine ⟨?_, (Below.heap_setCell w ⟨s, 3, none⟩ _ g (Ne.symm h.ne)).trans h.row, h.ne, h.len⟩
  have := block_setC (i := 3) h.box (.bool v)
  simpa using this
theorem SBox.setAt (h : SBox w s d g st nu dn) (i : Nat) (v : Int) : SBox (w.setCell ⟨g, i, none⟩ (.int .i64 v)) s d g (st.set i v) nu dn := by
  refine ⟨?_, ?_, h.ne, by rw [List.length_set]; exact h.len⟩
  · rw [List.length_set]; exact (Below.heap_setCell w ⟨g, i, none⟩ _ s h.ne).trans h.box
  · have := block_setC (i := i) h.row (.int .i64 v)
    rw [List.map_set]
    simpa using this
end

/-- A store, its drive and its chip. -/
structure StAt (G : Geo) (B : CB) (F : Nat → Prop) (N : Nat) (S : CS) (d s g : Nat) (st : List Int) (nu : Int) (dn : Bool) (w : World) : Prop where
  chip : ChipAt G B F N S w
  db : DBox w d B.c
  sb : SBox w s d g st nu dn
  fd : ¬ F d
  fs : ¬ F s
  fg : ¬ F g
  sd : s ≠ d
  gd : g ≠ d
/-- What a store's calls may turn. -/
def SetF (F : Nat → Prop) (s g : Nat) : Nat → Prop := fun x => F x ∨ x = s ∨ x = g
/-- What a call of a store turned: its chip, its own blocks; what is new of the chip is new. -/
structure SDoes (F : Nat → Prop) (s g : Nat) (w : World) (F' : Nat → Prop) (w' : World) : Prop where
  tn : Turned (SetF F s g) w w'
  nw : ∀ x, F' x → F x ∨ w.heap.size ≤ x
section
variable {G : Geo} {B : CB} {F F' F'' : Nat → Prop} {N N' : Nat} {S S' : CS} {d s g : Nat} {st : List Int} {nu : Int} {dn : Bool} {w w' w'' : World}
theorem SDoes.refl (F : Nat → Prop) (s g : Nat) (w : World) : SDoes F s g w F w := ⟨Turned.refl _ _, fun _ h => .inl h⟩
theorem SDoes.trans (h : SDoes F s g w F' w') (k : SDoes F' s g w' F'' w'') : SDoes F s g w F'' w'' := by
  refine ⟨h.tn.andThen k.tn (fun i hi => ?_), fun x hx => ?_⟩
  · rcases hi with hi | hi
    · exact (h.nw i hi).imp .inl id
    · exact .inl (.inr hi)
  · rcases k.nw x hx with h1 | h1
    · exact h.nw x h1
    · exact .inr (Nat.le_trans h.tn.size h1)
theorem SDoes.of_below (q : Below w.heap.size w w') : SDoes F s g w F w' := ⟨Turned.of_below _ q, fun _ h => .inl h⟩
theorem SDoes.of_turned (t : Turned F w w') (f : ∀ x, F' x → F x ∨ w.heap.size ≤ x) : SDoes F s g w F' w' := ⟨t.mono (fun _ _ h => .inl h), f⟩
theorem SDoes.below {W : World} (h : SDoes F s g w F' w') (hW : Below W.heap.size W w) (hF : ∀ x, F x → W.heap.size ≤ x) (hs : W.heap.size ≤ s) (hg : W.heap.size ≤ g) : Below W.heap.size W w' ∧ ∀ x, F' x → W.heap.size ≤ x := by
  refine ⟨hW.trans (h.tn.below hW.size (fun k hk => ?_)), fun x hx => ?_⟩
  · rcases hk with hk | rfl | rfl
    · exact hF k hk
    · exact hs
    · exact hg
  · rcases h.nw x hx with h1 | h1
    · exact hF x h1
    · exact Nat.le_trans hW.size h1
theorem StAt.below (h : StAt G B F N S d s g st nu dn w) (q : Below w.heap.size w w') : StAt G B F N S d s g st nu dn w' :=
  ⟨h.chip.below q, h.db.below q (Nat.le_refl _), h.sb.below q (Nat.le_refl _), h.fd, h.fs, h.fg, h.sd, h.gd⟩
theorem StAt.drew (h : StAt G B F N S d s g st nu dn w) : StAt G B F N S d s g st nu dn w.drew := h.below ((Below.refl _ _).drew)
theorem StAt.mono (h : StAt G B F N S d s g st nu dn w) (hN : N ≤ N') : StAt G B F N' S d s g st nu dn w :=
  ⟨h.chip.mono hN, h.db, h.sb, h.fd, h.fs, h.fg, h.sd, h.gd⟩
theorem StAt.does (h : StAt G B F N S d s g st nu dn w) (dd : Does G B F N' w S' w') : ∃ F', StAt G B F' N' S' d s g st nu dn w' ∧ SDoes F s g w F' w' ∧ Turned F w w' := by
  obtain ⟨F', h1, t, f⟩ := dd
  have hn : ∀ x, x < w.heap.size → ¬ F x → ¬ F' x := fun x hx hf hf' => (f x hf').elim hf (fun e => by omega)
  exact ⟨F', ⟨h1, h.db.turned t h.fd, h.sb.turned t h.fs h.fg, hn d h.db.lt h.fd, hn s h.sb.slt h.fs, hn g h.sb.glt h.fg, h.sd, h.gd⟩, SDoes.of_turned t f, t⟩
theorem StAt.chipTo (h : StAt G B F N S d s g st nu dn w) (hc : ChipAt G B F N' S' w') (t : Turned F w w') : StAt G B F N' S' d s g st nu dn w' ∧ SDoes F s g w F w' :=
  ⟨⟨hc, h.db.turned t h.fd, h.sb.turned t h.fs h.fg, h.fd, h.fs, h.fg, h.sd, h.gd⟩, SDoes.of_turned t (fun _ h => .inl h)⟩
/-- A store into one of its own blocks. -/
theorem StAt.setCell (h : StAt G B F N S d s g st nu dn w) {p : Addr} (hp : p.block = s ∨ p.block = g) (v : Value) {st' : List Int} {nu' : Int} {dn' : Bool} (hb : SBox (w.setCell p v) s d g st' nu' dn') :
    StAt G B F N S d s g st' nu' dn' (w.setCell p v) ∧ SDoes F s g w F (w.setCell p v) := by
  have t : Turned (fun x => x = s ∨ x = g) w (w.setCell p v) := (Turned.refl _ _).setCell (.inl hp) v
  refine ⟨⟨h.chip.turned t (fun x hx e => ?_), h.db.turned t (fun e => ?_), hb, h.fd, h.fs, h.fg, h.sd, h.gd⟩, t.mono (fun _ _ e => .inr e), fun _ h => .inl h⟩
  · rcases e with rfl | rfl
    · exact h.fs hx
    · exact h.fg hx
  · rcases e with e | e
    · exact h.sd e.symm
    · exact h.gd e.symm
theorem StAt.setNum (h : StAt G B F N S d s g st nu dn w) (v : Int) : StAt G B F N S d s g st v dn (w.setCell ⟨s, 2, none⟩ (.int .i64 v)) ∧ SDoes F s g w F (w.setCell ⟨s, 2, none⟩ (.int .i64 v)) := h.setCell (.inl rfl) _ (h.sb.setNum v)
theorem StAt.setDown (h : StAt G B F N S d s g st nu dn w) (v : Bool) : StAt G B F N S d s g st nu v (w.setCell ⟨s, 3, none⟩ (.bool v)) ∧ SDoes F s g w F (w.setCell ⟨s, 3, none⟩ (.bool v)) := h.setCell (.inl rfl) _ (h.sb.setDown v)
theorem StAt.setAt (h : StAt G B F N S d s g st nu dn w) (i : Nat) (v : Int) : StAt G B F N S d s g (st.set i v) nu dn (w.setCell ⟨g, i, none⟩ (.int .i64 v)) ∧ SDoes F s g w F (w.setCell ⟨g, i, none⟩ (.int .i64 v)) := h.setCell (.inr rfl) _ (h.sb.setAt i v)
/-- A row that lies in none of them. -/
structure OffS (F : Nat → Prop) (s g : Nat) (k : IntKind) (w : World) (a : Option Addr) (len cap : Nat) (z : List Int) : Prop where
  row : Row k w a len cap z
  off : 0 < len → ∀ x, a = some x → ¬ SetF F s g x.block
theorem OffS.step {k : IntKind} {a : Option Addr} {len cap : Nat} {z : List Int} (h : OffS F s g k w a len cap z) (q : SDoes F s g w F' w') : OffS F' s g k w' a len cap z := by
  refine ⟨⟨h.row.hlen, h.row.hcap, h.row.hmax, h.row.hnil, fun h0 => ?_⟩, fun h0 x hx hf => ?_⟩
  · obtain ⟨b, off, rfl, hb, hc⟩ := h.row.hcell h0
    refine ⟨b, off, rfl, Nat.lt_of_lt_of_le hb q.tn.size, fun i hi => ?_⟩
    rw [q.tn.cell (p := ⟨b, off + i, none⟩) hb (h.off h0 ⟨b, off, none⟩ rfl)]
    exact hc i hi
  · rcases hf with hf | hf
    · rcases q.nw _ hf with h1 | h1
      · exact h.off h0 x hx (.inl h1)
      · have := h.row.blk_lt h0 x hx; omega
    · exact h.off h0 x hx (.inr hf)
theorem OffS.chip {k : IntKind} {a : Option Addr} {len cap : Nat} {z : List Int} (h : OffS F s g k w a len cap z) : Off F k w a len cap z := ⟨h.row, fun h0 x hx hf => h.off h0 x hx (.inl hf)⟩
end

theorem indexI_any (a : Option Addr) (len cap : Nat) (zs : List Int) (x : Int) (w : World) (hr : Row .i64 w a len cap zs) (hlen : len ≤ 100000) :
    Calls Tryz.prog 88 #[.slice a len cap, .int .i64 x] w fun e w' => (∃ i : Int, e = .returned (.int .i64 i) ∧ (0 ≤ i ↔ x ∈ zs)) ∧ w = w' := by
  have hl := hr.hlen
  have HL : Hid (zs.length = len) := hl
  clear hl
  go_enter Tryz.func88, Tryz.ntmps88
  go_wp2
  go_loop [8] (fun i => ∃ k : Nat, k ≤ len ∧ i = .int .i64 (k : Int) ∧ Hid (x ∉ zs.take k)) (fun i => len - (RowKit.intOf i).toNat)
  case atStart => exact ⟨0, Nat.zero_le _, rfl, by show _ ∉ _; simp⟩
  case round =>
    obtain ⟨k, hk, rfl, HN⟩ := hrel
    by_cases hlt : k < len
    · have hlt' : (k : Int) < (len : Int) := by omega
      obtain ⟨b, off, rfl, _, hcell⟩ := hr.hcell (by omega)
      have hc := hcell k hlt
      have HM : Hid (zs[k]?.getD 0 ∈ zs) := mem_getD zs k (by have := HL.out; omega)
      have HT : Hid (zs.take (k + 1) = zs.take k ++ [zs[k]?.getD 0]) := take_snocB zs k (by have := HL.out; omega)
      clear hcell
      generalize zs[k]?.getD 0 = y at *
      by_cases hxy : x = y
      · subst hxy
        go_wp2
        go_ret
        exact ⟨⟨k, rfl, ⟨fun _ => HM.out, fun _ => by omega⟩⟩, rfl⟩
      · have hne : (x == y) = false := by simp [hxy]
        have HN2 : Hid (x ∉ zs.take (k + 1)) := by show _ ∉ _; rw [HT.out]; simp [HN.out, hxy]
        clear hxy
        go_wp2
        go_round
        case rel => exact ⟨k + 1, by omega, by go_num, HN2⟩
        case measure => simp [RowKit.intOf]; omega
    · obtain rfl : k = len := by omega
      have HN2 : Hid (x ∉ zs) := by have := HN.out; rw [List.take_of_length_le (by have := HL.out; omega)] at this; exact this
      go_wp2
      go_ret
      exact ⟨⟨-1, rfl, ⟨fun h => by omega, fun h => absurd h HN2.out⟩⟩, rfl⟩
theorem contI_any (a : Option Addr) (len cap : Nat) (zs : List Int) (x : Int) (w : World) (hr : Row .i64 w a len cap zs) (hlen : len ≤ 100000) :
    Calls Tryz.prog 64 #[.slice a len cap, .int .i64 x] w fun e w' => e = .returned (.bool (decide (x ∈ zs))) ∧ w = w' := by
  go_enter Tryz.func64, Tryz.ntmps64
  go_wp2_with fail
  refine (indexI_any a len cap zs x w hr hlen).mono ?_
  rintro e w1 ⟨⟨i, rfl, hi⟩, rfl⟩
  have HI : Hid (0 ≤ i ↔ x ∈ zs) := hi
  clear hi
  go_wp2_with fail
  go_ret
  exact ⟨ret_bool (by rw [decide_eq_decide]; exact HI.out), rfl⟩

/-- What keeps a call from a logical block. -/
def rdyS (dn : Bool) (L : Nat) (j : Int) : Int := if dn = true then 70 else if 0 ≤ j ∧ j < (L : Int) then 0 else 1
theorem rdyS_ok {dn : Bool} {L : Nat} {j : Int} (h : rdyS dn L j = 0) : dn = false ∧ 0 ≤ j ∧ j < (L : Int) := by
  unfold rdyS at h
  cases dn
  · rw [if_neg (by simp)] at h
    split at h
    · rename_i h2; exact ⟨rfl, h2⟩
    · cases h
  · cases h
theorem rdyS_in {L : Nat} {j : Int} (h : 0 ≤ j ∧ j < (L : Int)) : rdyS false L j = 0 := by unfold rdyS; rw [if_neg (by simp), if_pos h]
section
variable {G : Geo} {B : CB} {F : Nat → Prop} {N : Nat} {S : CS} {d s g : Nat} {st : List Int} {nu : Int} {dn : Bool}
theorem stReady_nil (j : Int) (w : World) : Calls Tryz.prog 48 #[.pointer none, .int .i64 j] w fun e w' => e = .returned (.int .i64 3) ∧ w = w' := by
  go_enter Tryz.func48, Tryz.ntmps48
  go_wp2
  go_ret
  exact ⟨rfl, rfl⟩
theorem stReady_any (j : Int) (w : World) (h : SBox w s d g st nu dn) : Calls Tryz.prog 48 #[.pointer (some ⟨s, 0, none⟩), .int .i64 j] w fun e w' => e = .returned (.int .i64 (rdyS dn st.length j)) ∧ w = w' := by
  have c1 := h.c1
  have c3 := h.c3
  have hl := h.len
  have HR : Hid (∀ r, r = rdyS dn st.length j → r = rdyS dn st.length j) := fun _ h => h
  have HE : Hid (rdyS dn st.length j = if dn = true then 70 else if 0 ≤ j ∧ j < (st.length : Int) then 0 else 1) := rfl
  clear h
  generalize st.length = L at *
  cases dn
  · by_cases h0 : j < 0
    · have e : rdyS false L j = 1 := by rw [HE.out, if_neg (by simp), if_neg (by omega)]
      rw [e]
      go_enter Tryz.func48, Tryz.ntmps48
      go_wp2
      go_ret
      exact ⟨rfl, rfl⟩
    · by_cases h1 : (L : Int) ≤ j
      · have e : rdyS false L j = 1 := by rw [HE.out, if_neg (by simp), if_neg (by omega)]
        rw [e]
        go_enter Tryz.func48, Tryz.ntmps48
        go_wp2
        go_ret
        exact ⟨rfl, rfl⟩
      · have e : rdyS false L j = 0 := by rw [HE.out, if_neg (by simp), if_pos (by omega)]
        rw [e]
        go_enter Tryz.func48, Tryz.ntmps48
        go_wp2
        go_ret
        exact ⟨rfl, rfl⟩
  · have e : rdyS true L j = 70 := by rw [HE.out, if_pos rfl]
    rw [e]
    go_enter Tryz.func48, Tryz.ntmps48
    go_wp2
    go_ret
    exact ⟨rfl, rfl⟩
theorem stTell_no (r : Int) (hr : r ≠ 70) (w : World) : Calls Tryz.prog 51 #[.pointer (some ⟨s, 0, none⟩), .int .i64 r] w fun e w' => e = .returned (.int .i64 r) ∧ w = w' := by
  have hr' : (r == 70) = false := by simp [hr]
  go_enter Tryz.func51, Tryz.ntmps51
  go_wp2
  go_ret
  exact ⟨rfl, rfl⟩
theorem stTell_yes (w : World) (h : StAt G B F N S d s g st nu dn w) : Calls Tryz.prog 51 #[.pointer (some ⟨s, 0, none⟩), .int .i64 70] w fun e w' => e = .returned (.int .i64 70) ∧ StAt G B F N S d s g st nu true w' ∧ SDoes F s g w F w' := by
  have c3 := h.sb.c3
  have hf := h.sb.soft 3
  have HD : Hid _ := h.setDown true
  clear h
  go_enter Tryz.func51, Tryz.ntmps51
  go_wp2
  go_ret
  exact ⟨rfl, HD.out⟩
theorem stLebs_nil (w : World) : Calls Tryz.prog 14 #[.pointer none] w fun e w' => e = .returned (.int .i64 0) ∧ w = w' := by
  go_enter Tryz.func14, Tryz.ntmps14
  go_wp2
  go_ret
  exact ⟨rfl, rfl⟩
theorem stLebs_any (w : World) (h : SBox w s d g st nu dn) : Calls Tryz.prog 14 #[.pointer (some ⟨s, 0, none⟩)] w fun e w' => e = .returned (.int .i64 (st.length : Int)) ∧ w = w' := by
  have c1 := h.c1
  have hl := h.len
  clear h
  generalize st.length = L at *
  go_enter Tryz.func14, Tryz.ntmps14
  go_wp2
  go_ret
  exact ⟨rfl, rfl⟩
theorem stCap_nil (w : World) : Calls Tryz.prog 15 #[.pointer none] w fun e w' => e = .returned (.int .i64 0) ∧ w = w' := by
  go_enter Tryz.func15, Tryz.ntmps15
  go_wp2_with fail
  go_ret
  exact ⟨rfl, rfl⟩
theorem stCap_any (w : World) (h : StAt G B F N S d s g st nu dn w) : Calls Tryz.prog 15 #[.pointer (some ⟨s, 0, none⟩)] w fun e w' => e = .returned (.int .i64 (G.C : Int)) ∧ Below w.heap.size w w' := by
  have c0 := h.sb.c0
  have hgm := drvGeometry_any w h.db h.chip.cell h.chip.lt
  have hcp := fun w1 => hCap_yes G.gmay w1
  generalize G.C = C at *
  clear h
  go_enter Tryz.func15, Tryz.ntmps15
  go_wp2_with fail
  refine hgm.mono ?_
  rintro e w1 ⟨rfl, q1⟩
  clear hgm
  go_wp2_with fail
  refine (hcp _).mono ?_
  rintro e w2 ⟨rfl, q2⟩
  clear hcp
  go_wp2_with fail
  go_ret
  exact ⟨rfl, btrans q1 q2⟩
theorem stHas_nil (j : Int) (w : World) : Calls Tryz.prog 34 #[.pointer none, .int .i64 j] w fun e w' => e = .returned (.bool false) ∧ w = w' := by
  go_enter Tryz.func34, Tryz.ntmps34
  go_wp2_with fail
  refine (stReady_nil j _).mono ?_
  rintro e w1 ⟨rfl, rfl⟩
  go_wp2_with fail
  go_ret
  exact ⟨rfl, rfl⟩
theorem stHas_no (j : Int) (w : World) (h : SBox w s d g st nu dn) (hr : rdyS dn st.length j ≠ 0) : Calls Tryz.prog 34 #[.pointer (some ⟨s, 0, none⟩), .int .i64 j] w fun e w' => e = .returned (.bool false) ∧ w = w' := by
  have hr' : (rdyS dn st.length j == 0) = false := by simp [hr]
  have hrd := stReady_any j w h
  clear h hr
  generalize rdyS dn st.length j = r at *
  go_enter Tryz.func34, Tryz.ntmps34
  go_wp2_with fail
  refine hrd.mono ?_
  rintro e w1 ⟨rfl, rfl⟩
  go_wp2_with fail
  go_ret
  exact ⟨rfl, rfl⟩
theorem stHas_any (j : Nat) (w : World) (h : SBox w s d g st nu false) (hj : j < st.length) : Calls Tryz.prog 34 #[.pointer (some ⟨s, 0, none⟩), .int .i64 (j : Int)] w fun e w' => e = .returned (.bool (st[j]?.getD 0 != -1)) ∧ w = w' := by
  have hrd := stReady_any (j : Int) w h
  rw [rdyS_in (by omega)] at hrd
  have c1 := h.c1
  have ca := h.at j hj
  have hl := h.len
  clear h
  generalize st[j]?.getD 0 = v at *
  generalize st.length = L at *
  go_enter Tryz.func34, Tryz.ntmps34
  go_wp2_with fail
  refine hrd.mono ?_
  rintro e w1 ⟨rfl, rfl⟩
  clear hrd
  go_wp2_with fail
  go_ret
  exact ⟨rfl, rfl⟩
theorem spare_any (w : World) : Calls Tryz.prog 49 #[.pointer (some ⟨s, 0, none⟩)] w fun e w' => e = .returned (.func (.func 63) #[] #[.pointer (some ⟨w.heap.size, 0, none⟩)]) ∧ w' = w.alloc (.cells #[.pointer (some ⟨s, 0, none⟩)] 33) := by
  go_enter Tryz.func49, Tryz.ntmps49
  go_wp2_with fail
  go_ret
  exact ⟨rfl, rfl⟩
theorem open_nil (n : Int) (w : World) : Calls Tryz.prog 33 #[.pointer none, .int .i64 n] w fun e w' => e = .returned (.tuple #[.pointer none, .int .i64 3]) ∧ w = w' := by
  go_enter Tryz.func33, Tryz.ntmps33
  go_wp2_with fail
  go_ret2
  exact ⟨rfl, rfl⟩
theorem open_arg (n : Int) (w : World) (hn : lebsB n = false) : Calls Tryz.prog 33 #[.pointer (some ⟨d, 0, none⟩), .int .i64 n] w fun e w' => e = .returned (.tuple #[.pointer none, .int .i64 1]) ∧ w = w' := by
  go_enter Tryz.func33, Tryz.ntmps33
  go_wp2_with fail
  refine (attPick_no n _ _ hn).mono ?_
  rintro e w1 ⟨rfl, rfl⟩
  go_wp2_with fail
  go_ret2
  exact ⟨rfl, rfl⟩
theorem frow_nil (w : World) : FRow w none 0 0 [] := ⟨rfl, Nat.le_refl _, Nat.zero_le _, fun _ => rfl, fun h => absurd h (by omega)⟩
theorem open_down (L : Nat) (h1 : 1 ≤ L) (hL : L ≤ 64) (w : World) (db : DBox w d B.c) (h : ChipAt G B F N S w) (hup : S.up = false) :
    Calls Tryz.prog 33 #[.pointer (some ⟨d, 0, none⟩), .int .i64 (L : Int)] w fun e w' => e = .returned (.tuple #[.pointer none, .int .i64 70]) ∧ Below w.heap.size w w' := by
  have hp := attPick_yes L h1 hL none 0 0 [] w (frow_nil w) (by omega) (fun f hf => absurd hf (by simp))
  go_enter Tryz.func33, Tryz.ntmps33
  go_wp2_with fail
  refine hp.mono ?_
  rintro e w1 ⟨g0, rfl, _, q1⟩
  clear hp
  go_wp2_with fail
  refine (scan_down w1 (db.below q1 (Nat.le_refl _)) (h.below q1) hup).mono ?_
  rintro e w2 ⟨rfl, q2⟩
  go_wp2_with fail
  go_ret2
  exact ⟨rfl, btrans q1 q2⟩
set_option maxHeartbeats 800000 in
theorem open_yes (L : Nat) (h1 : 1 ≤ L) (hL : L ≤ 64) (w : World) (db : DBox w d B.c) (h : ChipAt G B F N S w) (hd : ¬ F d) (hup : S.up = true) (K : Int → BK) (hK : CInv G S K) :
    Calls Tryz.prog 33 #[.pointer (some ⟨d, 0, none⟩), .int .i64 (L : Int)] w fun e w' => ∃ s g, (w.heap.size ≤ s ∧ w.heap.size ≤ g) ∧ e = .returned (.tuple #[.pointer (some ⟨s, 0, none⟩), .int .i64 0]) ∧ StAt G B F N S d s g (pickL L (fndL G S K)) (nextL (fndL G S K)) false w' ∧ Below w.heap.size w w' := by
  have hp := attPick_yes L h1 hL none 0 0 [] w (frow_nil w) (by omega) (fun f hf => absurd hf (by simp))
  have hlen := fndL_len G S K
  have hnum := fndL_num hK hup
  have hpl := pickL_length L (fndL G S K)
  have hscan := fun w1 (q1 : Below w.heap.size w w1) => scan_yes w1 (db.below q1 (Nat.le_refl _)) (h.below q1) hup (fun x => foundOf x (K x)) (fun x hx o' ho => by
    obtain ⟨i, rfl, hi, _, hb⟩ := goodTo_mem hx
    exact look_is ⟨by omega, by omega⟩ hup hb (hK i (by omega) (by omega)) ho)
  have HD : Hid (DBox w d B.c) := db
  have HC : Hid (ChipAt G B F N S w) := h
  have hdl := db.lt
  have hfr : Hid (∀ x, F x → x < w.heap.size) := h.fresh
  clear db h hK
  change ∀ w1, Below w.heap.size w w1 → Calls Tryz.prog 59 #[.pointer (some ⟨d, 0, none⟩)] w1 fun e w' => ∃ v, e = .returned (.tuple #[v, .int .i64 0]) ∧ w'.ownsRow w1.heap.size 124 5 v (fndL G S K).length (fcells (fndL G S K)) ∧ Below w1.heap.size w1 w' at hscan
  generalize fndL G S K = fs at *
  go_enter Tryz.func33, Tryz.ntmps33
  go_wp2_with fail
  refine hp.mono ?_
  rintro e w1 ⟨g0, rfl, _, q1⟩
  clear hp
  go_wp2_with fail
  refine (hscan w1 q1).mono ?_
  rintro e w2 ⟨v, rfl, own, q2⟩
  obtain ⟨a, cap, rfl, fr⟩ := frow_of_owns own
  clear own hscan
  have hn := attPick_own L h1 hL a fs.length cap fs w2 fr (by omega) hnum
  have q3 := btrans q1 q2
  clear fr q1 q2 hnum
  generalize fs.length = n at *
  go_wp2_with fail
  refine hn.mono ?_
  rintro e w3 ⟨g, rfl, _, own, q4⟩
  clear hn
  have hg : w2.heap.size ≤ g := (owns_lt own rfl).1
  have hrow := heap_of_owns own
  have hglt : g < w3.heap.size := (owns_lt own rfl).2
  have HQ : Hid (Below w.heap.size w w3) := btrans q3 q4
  have HS2 := q3.size
  have HS3 := q4.size
  clear own q3 q4
  have q5 := below_one w3 (.cells #[.pointer (some ⟨d, 0, none⟩), .slice (some ⟨g, 0, none⟩) L L, .int .i64 (nextL fs), .bool false] 78)
  have hsb : SBox (w3.alloc (.cells #[.pointer (some ⟨d, 0, none⟩), .slice (some ⟨g, 0, none⟩) L L, .int .i64 (nextL fs), .bool false] 78)) w3.heap.size d g (pickL L fs) (nextL fs) false := by
    refine ⟨?_, (q5.block g hglt).trans hrow, by omega, by rw [hpl]; omega⟩
    rw [hpl]
    exact (MapKept.heap_alloc w3 _).1
  have HF : Hid (StAt G B F N S d w3.heap.size g (pickL L fs) (nextL fs) false (w3.alloc (.cells #[.pointer (some ⟨d, 0, none⟩), .slice (some ⟨g, 0, none⟩) L L, .int .i64 (nextL fs), .bool false] 78))) := by
    refine ⟨(HC.out.below HQ.out).below q5, (HD.out.below HQ.out (Nat.le_refl _)).below q5 (Nat.le_refl _), hsb, hd, fun hf => ?_, fun hf => ?_, ?_, ?_⟩
    · have := hfr.out _ hf; omega
    · have := hfr.out _ hf; omega
    · omega
    · omega
  have HQ5 : Hid (Below w.heap.size w (w3.alloc (.cells #[.pointer (some ⟨d, 0, none⟩), .slice (some ⟨g, 0, none⟩) L L, .int .i64 (nextL fs), .bool false] 78))) := btrans HQ.out q5
  clear hsb q5 hrow HQ
  go_wp2_with fail
  go_ret2
  exact ⟨_, g, ⟨by omega, by omega⟩, rfl, HF.out, HQ5.out⟩
end
end Go.Proofs.YtbafkakhhelcmaaGreat
