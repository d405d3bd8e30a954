/-
  The code of layer 10 (attach), as it landed: others, Stale, whatever was found.
-/
import Derived.Test.YtbafkakhhelcmaaGreatAttSort2
namespace Go.Proofs.YtbafkakhhelcmaaGreat
open Go.RowKit
set_option linter.unusedVariables false
set_option maxRecDepth 8192

theorem len64_nought (w : World) : Calls Tryz.prog 160 #[.int .u64 0] w fun e w' => (∃ l : Int, e = .returned (.int .i64 l)) ∧ w = w' := by
  go_enter Tryz.func160, Tryz.ntmps160
  go_wp2
  go_ret
  exact ⟨⟨_, rfl⟩, rfl⟩
theorem len_nought (w : World) : Calls Tryz.prog 139 #[.int .u64 0] w fun e w' => (∃ l : Int, e = .returned (.int .i64 l)) ∧ w = w' := by
  go_enter Tryz.func139, Tryz.ntmps139
  go_wp2_with fail
  refine (len64_nought _).mono ?_
  rintro e w' ⟨⟨l, rfl⟩, rfl⟩
  go_wp2_with fail
  go_ret
  exact ⟨⟨_, rfl⟩, rfl⟩
theorem insertion_nil (v : Value) (w : World) :
    Calls Tryz.prog 151 #[.slice none 0 0, .int .i64 0, .int .i64 0, v] w fun e w' => e = .returned (.tuple #[]) ∧ w = w' := by
  go_enter Tryz.func151, Tryz.ntmps151
  go_wp2_with fail
  refine wp_loop_rounds 1 ?_
  rw [rounds_succ]
  go_wp2_with fail
  go_end0
  exact ⟨rfl, rfl⟩
theorem pdq_nil (v : Value) (lim : Int) (w : World) :
    Calls Tryz.prog 138 #[.slice none 0 0, .int .i64 0, .int .i64 0, .int .i64 lim, v] w fun e w' => e = .returned (.tuple #[]) ∧ w = w' := by
  go_enter Tryz.func138, Tryz.ntmps138
  go_wp2_with fail
  refine wp_loop_rounds 1 ?_
  rw [rounds_succ]
  go_wp2_with fail
  refine (insertion_nil v _).mono ?_
  rintro e w' ⟨rfl, rfl⟩
  go_wp2_with fail
  refine bodyPost_ret (results_none rfl _ _ _) rfl ?_
  exact ⟨rfl, rfl⟩
theorem sort_nil (v : Value) (w : World) : Calls Tryz.prog 120 #[.slice none 0 0, v] w fun e w' => e = .returned (.tuple #[]) ∧ w = w' := by
  go_enter Tryz.func120, Tryz.ntmps120
  go_wp2_with fail
  refine (len_nought _).mono ?_
  rintro e w' ⟨⟨l, rfl⟩, rfl⟩
  go_wp2_with fail
  refine (pdq_nil v l _).mono ?_
  rintro e w' ⟨rfl, rfl⟩
  go_wp2_with fail
  go_end0
  exact ⟨rfl, rfl⟩
/-- A row of one logical block, nil too. -/
theorem sort_any (w : World) (B n bx : Nat) (v : Value) (E : TypeId) (j : Int) (l : List Fnd) (hl : ∀ f ∈ l, f.leb = j) (hn : n ≤ 100000) (own : w.ownsRow B E 5 v n (fcells l)) (hbx : v.ownBlock ≠ some bx) (hb : w.cell? ⟨bx, 0, none⟩ = some (.func (.func 98) #[] #[])) :
    Calls Tryz.prog 120 #[v, .func (.func 121) #[] #[.pointer (some ⟨bx, 0, none⟩)]] w
      fun e w' => e = .returned (.tuple #[]) ∧ ∃ T, T.Perm l ∧ RisesF T ∧ w'.ownsRow B E 5 v n (fcells T) ∧ Turned (fun k => v.ownBlock = some k) w w' := by
  rcases own.2 with ⟨rfl, rfl⟩ | ⟨g, cap, cur, rfl, _⟩
  · have h0 : l = [] := by have := own.1; rw [fcells_len] at this; exact List.eq_nil_of_length_eq_zero (by omega)
    subst h0
    refine (sort_nil _ w).mono ?_
    rintro e w' ⟨rfl, rfl⟩
    exact ⟨rfl, [], List.Perm.refl _, fun i k _ hk => by simp at hk, own, Turned.refl _ _⟩
  · refine (sort_some w B g n cap bx E j l hl hn own (fun e => hbx (by rw [e]; rfl)) hb).mono ?_
    rintro e w' ⟨rfl, T, h1, h2, h3, h4⟩
    exact ⟨rfl, T, h1, h2, h3, h4.mono fun k _ hk => by rw [hk]; rfl⟩
/-- The blocks of a row but for one. -/
def othersL (T : List Fnd) (s : Int) : List Int := (T.filter fun f => decide (f.block ≠ s)).map Fnd.block
theorem othersL_yes {T : List Fnd} {s : Int} {x : Fnd} (h : x.block ≠ s) : othersL (T ++ [x]) s = othersL T s ++ [x.block] := by simp [othersL, h]
theorem othersL_no {T : List Fnd} {s : Int} {x : Fnd} (h : x.block = s) : othersL (T ++ [x]) s = othersL T s := by simp [othersL, h]
theorem othersL_le (T : List Fnd) (s : Int) : (othersL T s).length ≤ T.length := by
  unfold othersL
  rw [List.length_map]
  exact List.length_filter_le _ _
theorem standsL_perm {j : Int} {l T : List Fnd} (hl : ∀ f ∈ l, f.leb = j) (h : T.Perm l) : standsL T = standsL l :=
  stands_same (fun x => h.mem_iff) (standsL_is T j fun f hf => hl f (h.mem_iff.1 hf)) (standsL_is l j hl)
set_option maxHeartbeats 3200000 in
theorem others_any (w : World) (B n bx : Nat) (v : Value) (j : Int) (l : List Fnd) (hl : ∀ f ∈ l, f.leb = j) (hn : n ≤ 100000) (own : w.ownsRow B 124 5 v n (fcells l)) (hbx : v.ownBlock ≠ some bx) (hb : w.cell? ⟨bx, 0, none⟩ = some (.func (.func 98) #[] #[])) :
    Calls Tryz.prog 96 #[v, .func (.func 121) #[] #[.pointer (some ⟨bx, 0, none⟩)]] w
      fun e w' => ∃ T u, T.Perm l ∧ RisesF T ∧ e = .returned u ∧ w'.ownsRow w.heap.size 3 1 u (othersL T (standsL l)).length ((othersL T (standsL l)).map (Value.int .i64)) ∧ w'.ownsRow B 124 5 v n (fcells T) ∧ Turned (fun k => v.ownBlock = some k) w w' := by
  obtain ⟨iq, hiq, hiq'⟩ : ∃ i, Tryz.prog.info? 3 = some i ∧ (i.zero, i.size, i.bytes) = (some (.int .i64 0), 1, 8) := by
    have := Tryz.infoInt10
    rw [Option.map_eq_some_iff] at this
    exact this
  simp only [Prod.mk.injEq] at hiq'
  obtain ⟨hiq0, hiq1, hiq2⟩ := hiq'
  go_enter Tryz.func96, Tryz.ntmps96
  go_wp2_with fail
  refine (sort_any w B n bx v _ j l hl hn own hbx hb).mono ?_
  rintro e w1 ⟨rfl, T, hp, hri, own1, t1⟩
  have hst := standsL_perm hl hp
  obtain ⟨a, cap, rfl, r1⟩ := frow_of_owns own1
  clear own hb hbx
  go_wp2_with fail
  refine (stands_any a n cap T w1 r1).mono ?_
  rintro e w2 ⟨rfl, q2⟩
  rw [hst]
  clear hst
  have OW2 : Hid (w2.ownsRow B 124 5 (.slice a n cap) n (fcells T)) := owns_same own1 fun b hb => q2.block b (owns_lt own1 hb).2
  have T2 : Hid (Turned (fun k => (Value.slice a n cap).ownBlock = some k) w w2) := t1.trans (Turned.of_below _ q2)
  have R2 : Hid (FRow w2 a n cap T) := r1.below q2 (Nat.le_refl _)
  have HL : Hid (T.length = n) := r1.hlen
  have hm := r1.hmax
  have hcp := r1.hcap
  unfold maxLen at hm
  have HP : Hid (T.Perm l) := hp
  have HRI : Hid (RisesF T) := hri
  have HEND : Hid (T.take n = T) := List.take_of_length_le (by rw [HL.out]; exact Nat.le_refl _)
  clear own1 t1 r1 q2 hp hri hl
  obtain ⟨s, hs⟩ : ∃ s, s = standsL l := ⟨_, rfl⟩
  rw [← hs]
  have HS : Hid (s = standsL l) := hs
  clear hs
  have hw2 := T2.out.size
  go_wp2_with fail
  go_loopw [6, 16] (fun u i wr => ∃ k : Nat, k ≤ n ∧ i = .int .i64 (k : Int) ∧ Hid (wr.ownsRow w2.heap.size 3 1 u (othersL (T.take k) s).length ((othersL (T.take k) s).map (Value.int .i64))) ∧ Hid (Below w2.heap.size w2 wr)) (fun _ i _ => n - (RowKit.intOf i).toNat)
  case atStart => exact ⟨0, by omega, rfl, World.ownsRow_nil _ _ _ _, Below.refl _ _⟩
  case round =>
    obtain ⟨k, hk, rfl, OW, Q⟩ := hrel
    have hsz := Q.out.size
    by_cases hlt : k < n
    · have hlt' : (k : Int) < (n : Int) := by omega
      obtain ⟨b, off, rfl, _, hcc⟩ := (R2.out.below Q.out (Nat.le_refl _)).hcell (by omega)
      have hx := hcc k hlt
      have HT : Hid (T.take (k + 1) = T.take k ++ [T[k]?.getD default]) := take_snocF T k (by rw [HL.out]; exact hlt)
      have hle : (othersL (T.take k) s).length ≤ 100000 := by
        have h1 := othersL_le (T.take k) s
        have h2 : (T.take k).length ≤ k := List.length_take_le _ _
        omega
      clear hcc
      generalize T[k]?.getD default = x at *
      have Q1 : Hid (Below w2.heap.size w2 (wr.alloc (.cells #[.int .i64 x.block, .int .i64 x.leb, .int .i64 x.bytes, .int .i64 x.number, .bool x.whole] 124))) := Q.out.alloc hsz _
      have OW1 : Hid (World.ownsRow (wr.alloc (.cells #[.int .i64 x.block, .int .i64 x.leb, .int .i64 x.bytes, .int .i64 x.number, .bool x.whole] 124)) w2.heap.size 3 1 _ _ _) := OW.out.alloc _
      obtain ⟨c0, c1, c2, c3, c4⟩ := hx
      by_cases hxs : x.block = s
      · have HE : Hid (othersL (T.take (k + 1)) s = othersL (T.take k) s) := by show _ = _; rw [HT.out, othersL_no hxs]
        have hxs2 : (x.block != s) = false := by simp [hxs]
        clear hxs
        go_wp2_with fail
        go_roundw
        case rel => exact ⟨k + 1, by omega, by go_num, by show World.ownsRow _ _ _ _ _ _ _; rw [HE.out]; exact OW1.out, Q1⟩
        case measure => simp [RowKit.intOf]; omega
      · have HE : Hid (othersL (T.take (k + 1)) s = othersL (T.take k) s ++ [x.block]) := by show _ = _; rw [HT.out, othersL_yes hxs]
        have hxs2 : (x.block != s) = true := by simp [hxs]
        have HLEN : Hid ((othersL (T.take (k + 1)) s).length = (othersL (T.take k) s).length + 1) := by show _ = _; rw [HE.out]; simp
        generalize (othersL (T.take k) s).length = m at *
        have OWB : Hid _ := OW1.out.alloc (.cells #[.int .i64 x.block] 3)
        go_wp2_with (at_builtin; refine wpList_append_own _ rfl _ _ 24 rfl w2.heap.size 3 iq (.int .i64 0) 1 8 Tryz.underlying24 hiq hiq0 hiq1 hiq2 rfl (by decide) _ m _ rfl OWB.out ⟨wr.heap.size + 1, 0, none⟩ 1 1 [.int .i64 x.block] rfl rfl ?c1 ?c2 ?c3 ?c4 ?c5 ?_)
        case c1 =>
          have := cell_one_new (wr.alloc (.cells #[.int .i64 x.block, .int .i64 x.leb, .int .i64 x.bytes, .int .i64 x.number, .bool x.whole] 124)) (.int .i64 x.block) 3
          simpa using this
        case c2 => intro u hu; simp at hu; subst hu; rfl
        case c3 => unfold maxLen; omega
        case c4 => omega
        case c5 => simp; omega
        intro u' w3 own3 grow3 _
        have q3 : Below w2.heap.size w2 w3 := (Q1.out.alloc (by simp; omega) (.cells #[.int .i64 x.block] 3)).grown grow3 (by simp; omega) (fun i hi => (owns_lt OW.out hi).1)
        have HO : Hid (w3.ownsRow w2.heap.size 3 1 u' (othersL (T.take (k + 1)) s).length ((othersL (T.take (k + 1)) s).map (Value.int .i64))) := by
          show World.ownsRow _ _ _ _ _ _ _
          rw [HLEN.out, HE.out, List.map_append]
          exact own3
        have Q3 : Hid _ := q3
        clear q3 own3 grow3 OWB OW1 OW Q1 Q c0 c1 c2 c3 c4
        go_wp2_with fail
        go_roundw
        case rel => exact ⟨k + 1, by omega, by go_num, HO, Q3⟩
        case measure => simp [RowKit.intOf]; omega
    · obtain rfl : k = n := by omega
      rw [HEND.out] at OW
      have HF : Hid _ := owns_base OW.out hw2
      have HV : Hid (wr.ownsRow B 124 5 (.slice a k cap) k (fcells T)) := owns_same OW2.out fun b hb => Q.out.block b (owns_lt OW2.out hb).2
      have HTU : Hid (Turned (fun q => (Value.slice a k cap).ownBlock = some q) w wr) := T2.out.trans (Turned.of_below _ Q.out)
      clear OW
      go_wp2_with fail
      go_ret
      exact ⟨T, _, HP.out, HRI.out, rfl, by rw [← HS.out]; exact HF.out, HV.out, HTU.out⟩
/-- One of the rows is put in order. -/
theorem RowsAt.sorted {w w' : World} {B g L : Nat} {T E : TypeId} {R : Nat → List Fnd} {vs : Array Value} (h : RowsAt w B g L T E R vs) {j : Nat} (hj : j < L) {v : Value} (hv : vs[j]? = some v) {Tj : List Fnd} (hl : Tj.length = (R j).length) (own' : w'.ownsRow B E 5 v (R j).length (fcells Tj)) (t : Turned (fun k => v.ownBlock = some k) w w') :
    RowsAt w' B g L T E (fun i => if i = j then Tj else R i) vs := by
  refine ⟨(t.block g h.lt (h.apart j v hv)).trans h.blk, h.size, h.hg, fun i hi => ?_, h.apart, h.two⟩
  by_cases e : i = j
  · subst e
    rw [if_pos rfl]
    exact ⟨v, hv, by rw [hl]; exact own'⟩
  · rw [if_neg e]
    obtain ⟨u, e1, o⟩ := h.own i hi
    exact ⟨u, e1, owns_same o fun b hb => t.block b (owns_lt o hb).2 (fun hvb => h.two i j u v b e e1 hv hb hvb)⟩
/-- Rows of numbers behind a slice of slices: the first k are there. -/
structure IRows (w : World) (B g L : Nat) (T E : TypeId) (X : Nat → List Int) (k : Nat) (cs : Array Value) : Prop where
  blk : w.heap[g]? = some (.cells cs T (0, 0))
  size : cs.size = L
  own : ∀ j, j < k → ∃ u, cs[j]? = some u ∧ w.ownsRow B E 1 u (X j).length ((X j).map (Value.int .i64))
theorem IRows.lt {w : World} {B g L : Nat} {T E : TypeId} {X : Nat → List Int} {k : Nat} {cs : Array Value} (h : IRows w B g L T E X k cs) : g < w.heap.size := by
  rcases Nat.lt_or_ge g w.heap.size with h' | h'
  · exact h'
  · have := h.blk; rw [Array.getElem?_eq_none h'] at this; simp at this
theorem IRows.same {w w' : World} {B g L : Nat} {T E : TypeId} {X : Nat → List Int} {k : Nat} {cs : Array Value} (h : IRows w B g L T E X k cs) (hg : w'.heap[g]? = w.heap[g]?) (hs : ∀ b, B ≤ b → b < w.heap.size → w'.heap[b]? = w.heap[b]?) : IRows w' B g L T E X k cs := by
  refine ⟨hg.trans h.blk, h.size, fun j hj => ?_⟩
  obtain ⟨u, e, o⟩ := h.own j hj
  exact ⟨u, e, owns_same o fun b hb => hs b (owns_lt o hb).1 (owns_lt o hb).2⟩
theorem IRows.store {w : World} {B g L : Nat} {T E : TypeId} {X : Nat → List Int} {k : Nat} {cs : Array Value} (h : IRows w B g L T E X k cs) (hk : k < L) (hgB : g < B) {u : Value} {Y : List Int} (o : w.ownsRow B E 1 u Y.length (Y.map (Value.int .i64))) :
    IRows (w.setCell ⟨g, k, none⟩ u) B g L T E (fun i => if i = k then Y else X i) (k + 1) (cs.setIfInBounds k u) := by
  have hb : ∀ b, B ≤ b → (w.setCell ⟨g, k, none⟩ u).heap[b]? = w.heap[b]? := fun b hb => Below.heap_setCell w ⟨g, k, none⟩ u b (by show b ≠ g; omega)
  refine ⟨setCell_block h.blk k u, by simpa using h.size, fun j hj => ?_⟩
  by_cases e : j = k
  · subst e
    rw [if_pos rfl]
    exact ⟨u, by rw [Array.getElem?_setIfInBounds, if_pos rfl, if_pos (by rw [h.size]; exact hk)], owns_same o fun b hb' => hb b (owns_lt o hb').1⟩
  · rw [if_neg e]
    obtain ⟨u', e1, o'⟩ := h.own j (by omega)
    exact ⟨u', by rw [Array.getElem?_setIfInBounds, if_neg (fun e' => e e'.symm)]; exact e1, owns_same o' fun b hb' => hb b (owns_lt o' hb').1⟩
theorem IRows.congr {w : World} {B g L : Nat} {T E : TypeId} {X Y : Nat → List Int} {k : Nat} {cs : Array Value} (h : IRows w B g L T E X k cs) (e : ∀ j, j < k → X j = Y j) : IRows w B g L T E Y k cs :=
  ⟨h.blk, h.size, fun j hj => by rw [← e j hj]; exact h.own j hj⟩
theorem IRows.cell {w : World} {B g L : Nat} {T E : TypeId} {X : Nat → List Int} {k : Nat} {cs : Array Value} (h : IRows w B g L T E X k cs) (j : Nat) : w.cell? ⟨g, j, none⟩ = cs[j]? := by simp [World.cell?, h.blk]
theorem IRows.soft {w : World} {B g L : Nat} {T E : TypeId} {X : Nat → List Int} {k : Nat} {cs : Array Value} (h : IRows w B g L T E X k cs) (j : Nat) : w.frozen? ⟨g, j, none⟩ = false := by simp [World.frozen?, h.blk]
/-- What Stale tells: each row is in order. -/
def StaleIs (fs : List Fnd) (k : Nat) (X : Nat → List Int) : Prop := ∀ j, j < k → ∃ T, T.Perm (ofLeb (j : Nat) fs) ∧ RisesF T ∧ X j = othersL T (standsL (ofLeb (j : Nat) fs))
theorem Tryz.infoIntsS : (Tryz.prog.info? 24).map (fun i => (i.zero, i.size, i.bytes)) = some (some (.slice none 0 0), 1, 24) := by kernel_rfl
set_option maxHeartbeats 3200000 in
theorem attStale_yes (L : Nat) (h1 : 1 ≤ L) (hL : L ≤ 64) (a : Option Addr) (len cap : Nat) (fs : List Fnd) (w : World) (hr : FRow w a len cap fs) (hlen : len ≤ 100000) :
    Calls Tryz.prog 68 #[.int .i64 (L : Int), .slice a len cap] w fun e w' => ∃ g D X cs, e = .returned (.tuple #[.slice (some ⟨g, 0, none⟩) L L, .int .i64 0]) ∧ StaleIs fs L X ∧ IRows w' D g L 24 3 X L cs ∧ w.heap.size ≤ g ∧ g < D ∧ Below w.heap.size w w' := by
  obtain ⟨iq, hiq, hiq'⟩ : ∃ i, Tryz.prog.info? 24 = some i ∧ (i.zero, i.size, i.bytes) = (some (.slice none 0 0), 1, 24) := by
    have := Tryz.infoIntsS
    rw [Option.map_eq_some_iff] at this
    exact this
  simp only [Prod.mk.injEq] at hiq'
  obtain ⟨hiq0, hiq1, hiq2⟩ := hiq'
  have hmaxL : L ≤ maxLen := by unfold maxLen; omega
  have hlb : lebsB (L : Int) = true := by unfold lebsB; rw [decide_eq_true_iff]; omega
  have HFL : Hid (fs.length = len) := hr.hlen
  go_enter Tryz.func68, Tryz.ntmps68
  go_wp2_with fail
  refine (attMayBe_any (L : Int) _).mono ?_
  rintro e w' ⟨rfl, rfl⟩
  rw [hlb]
  go_wp2_with (at_make; refine wpList_make_full _ rfl _ _ 107 rfl w.heap.size 24 iq (.slice none 0 0) 1 Tryz.underlying107 hiq hiq0 hiq1 _ _ _ _ L rfl rfl rfl rfl (by rw [hiq2]; omega) hmaxL (Nat.le_refl _) ?_; intro w1 hown1 hgrow1)
  have q1 : Below w.heap.size w w1 := (Below.refl _ _).grown hgrow1 (Nat.le_refl _) (by simp)
  clear hgrow1
  refine (rows_any L hL a len cap fs w1 (hr.below q1 (Nat.le_refl _)) hlen).mono ?_
  rintro e w2 ⟨rfl, q2, vs, hR⟩
  have hg0 := (owns_lt hown1 rfl).2
  have hb1 := heap_of_owns hown1
  have hb2 := (q2.block _ hg0).trans hb1
  have I0 : IRows w2 w2.heap.size w.heap.size L 24 3 (fun _ => []) 0 _ := ⟨hb2, by simp [size_madeCells], fun j hj => by omega⟩
  have HR : Hid (RowsAt w2 w1.heap.size w1.heap.size L 93 124 (fun j => ofLeb (j : Nat) fs) vs) := hR
  have Q3 : Hid (Below w.heap.size w w2) := btrans q1 q2
  have hgw := q2.size
  simp only at hg0
  clear hR hr q1 q2 hown1 hb1 hb2
  generalize w1.heap.size = g1 at *
  generalize hB : w.heap.size = W at *
  generalize hD : w2.heap.size = D at *
  go_wp2_with fail
  go_loopw [18] (fun i wr => ∃ (k : Nat) (X : Nat → List Int) (cs : Array Value) (R : Nat → List Fnd), k ≤ L ∧ i = .int .i64 (k : Int) ∧ Hid (StaleIs fs k X) ∧ Hid (IRows wr D W L 24 3 X k cs) ∧ Hid (RowsAt wr g1 g1 L 93 124 R vs) ∧ Hid (∀ j, k ≤ j → j < L → R j = ofLeb (j : Nat) fs) ∧ Hid (Below W w wr) ∧ Hid (D ≤ wr.heap.size ∧ ∀ (j : Nat) (v : Value) (b : Nat), vs[j]? = some v → v.ownBlock = some b → b < D)) (fun i _ => L - (RowKit.intOf i).toNat)
  case atStart =>
    refine ⟨0, _, _, _, by omega, rfl, fun j hj => by omega, I0, HR, fun j _ _ => rfl, Q3, by rw [hD]; exact Nat.le_refl _, fun j v b hv hb => ?_⟩
    have hj : j < L := by
      rw [← HR.out.size]
      rcases Nat.lt_or_ge j vs.size with h' | h'
      · exact h'
      · rw [Array.getElem?_eq_none h'] at hv; simp at hv
    obtain ⟨v', e1, o⟩ := HR.out.own j hj
    rw [hv] at e1
    cases e1
    rw [← hD]
    exact (owns_lt o hb).2
  case round =>
    clear I0 HR Q3
    obtain ⟨k, X, cs, R, hk, rfl, HX, HI, HR, HRJ, Q, HD⟩ := hrel
    by_cases hlt : k < L
    · have hlt' : (k : Int) < (L : Int) := by omega
      obtain ⟨v, hv, own⟩ := HR.out.own k hlt
      have hRk := HRJ.out k (Nat.le_refl _) hlt
      rw [hRk] at own
      have hvc := (HR.out.cell k).trans hv
      have hvD := fun b => HD.out.2 k v b
      have hlk : (ofLeb (k : Nat) fs).length ≤ 100000 := by have h1 := ofLeb_le (k : Nat) fs; have h2 := HFL.out; omega
      have hva := HR.out.apart k v hv
      have hsz := HD.out.1
      go_wp2_with fail
      refine (by_any 98 _).mono ?_
      rintro e w3 ⟨rfl, q3, hbx⟩
      have hs3 := q3.size
      have own3 := owns_same (w' := w3) own fun b hb => q3.block b (owns_lt own hb).2
      have hbne : v.ownBlock ≠ some wr.heap.size := fun e => by have := (owns_lt own e).2; omega
      clear own hvc
      have HI3 : Hid (IRows w3 D W L 24 3 X k cs) := HI.out.same (w' := w3) (q3.block W HI.out.lt) fun b _ hb => q3.block b hb
      have HR3 : Hid (RowsAt w3 g1 g1 L 93 124 R vs) := HR.out.below q3 (Nat.le_refl _)
      have Q3 : Hid (Below W w w3) := Q.out.trans (q3.mono (by have := HI.out.lt; omega))
      have HVS := HD.out.2
      have hvg : ∀ b, v.ownBlock = some b → g1 ≤ b := fun b hb => (owns_lt own3 hb).1
      clear q3 HI HR Q HD
      generalize wr.heap.size = bx at *
      go_wp2_with fail
      refine (others_any w3 g1 _ bx v (k : Nat) (ofLeb (k : Nat) fs) (ofLeb_leb _ fs) hlk own3 hbne hbx).mono ?_
      rintro e w4 ⟨T, u, hp, hri, rfl, ou, ov, t4⟩
      have hD3 : D ≤ w3.heap.size := by omega
      have ou2 := owns_base ou hD3
      have hWD : W < D := by omega
      obtain ⟨ua, uc, hu, _⟩ := row_of_owns ou2
      obtain ⟨nu, hnu⟩ : ∃ q, q = (othersL T (standsL (ofLeb (k : Nat) fs))).length := ⟨_, rfl⟩
      rw [← hnu] at hu
      subst hu
      have HI4 := HI3.out.same (w' := w4) (t4.block W HI3.out.lt (fun e => by have := hvg W e; omega)) fun b hb1 hb2 => t4.block b hb2 (fun e => by have := hvD b hv e; omega)
      have HR4 := HR3.out.sorted (w' := w4) hlt hv (Tj := T) (by rw [hRk]; exact hp.length_eq) (by rw [hRk]; exact ov) t4
      have Q4 : Below W w w4 := Q3.out.trans (t4.below (Nat.le_of_lt HI3.out.lt) (fun b hb => by have := hvg b hb; omega))
      have hsz4 : D ≤ w4.heap.size := Nat.le_trans hD3 t4.size
      have hcell := HI4.cell k
      have hfr := HI4.soft k
      have hks : k < cs.size := by rw [HI4.size]; exact hlt
      rw [Array.getElem?_eq_getElem hks] at hcell
      have HIF : Hid _ := HI4.store hlt hWD ou2
      have HRF : Hid _ := HR4.same (w' := w4.setCell ⟨W, k, none⟩ (.slice ua nu uc)) fun b hb1 _ => Below.heap_setCell w4 ⟨W, k, none⟩ (.slice ua nu uc) b (by show b ≠ W; omega)
      have HQF : Hid (Below W w (w4.setCell ⟨W, k, none⟩ (.slice ua nu uc))) := Q4.setCell (p := ⟨W, k, none⟩) (Nat.le_refl _) _
      have HXF : Hid (StaleIs fs (k + 1) (fun i => if i = k then othersL T (standsL (ofLeb (k : Nat) fs)) else X i)) := fun i hi => by
        by_cases e : i = k
        · subst e
          exact ⟨T, hp, hri, by show (if _ then _ else _) = _; rw [if_pos rfl]⟩
        · obtain ⟨T', h1', h2', h3'⟩ := HX.out i (by omega)
          exact ⟨T', h1', h2', by show (if _ then _ else _) = _; rw [if_neg e]; exact h3'⟩
      have HJF : Hid (∀ i, k + 1 ≤ i → i < L → (if i = k then T else R i) = ofLeb (i : Nat) fs) := fun i h1' h2' => by rw [if_neg (by omega)]; exact HRJ.out i (by omega) h2'
      generalize cs[k] = oldv at *
      clear hnu HI4 HR4 Q4 ou ov t4 ou2 hp hri HI3 HR3 Q3 HX HRJ own3 hbx
      go_wp2_with fail
      go_roundw
      case rel => exact ⟨k + 1, _, _, _, by omega, by go_num, HXF, HIF, HRF, HJF, HQF, by simpa using hsz4, HVS⟩
      case measure => simp [RowKit.intOf]; omega
    · obtain rfl : k = L := by omega
      have HI2 := HI.out
      clear HI HR
      go_wp2_with fail
      go_ret2
      subst hB
      exact ⟨_, D, X, cs, rfl, HX.out, HI2, Nat.le_refl _, by omega, Q.out⟩
end Go.Proofs.YtbafkakhhelcmaaGreat
