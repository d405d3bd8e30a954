/-
  The code of layer 10 (attach), as it landed: next, rows. (Written by tools/gen/att_rows.py.)
-/
import Derived.Test.YtgamakejaknagaaGreatPackU
import Derived.Test.YtgamakejaknagaaGreatPackL
import Derived.Deep.AppendLies
import Derived.LoopN
namespace Go.Proofs.YtgamakejaknagaaGreat
open Go.RowKit
set_option linter.unusedVariables false
set_option maxRecDepth 8192

section
variable {P : Program} {ops : Array Oper} {Q : Exit → Act → World → Prop} {md : Region.Mode} {S : World → Prop}
/-- The beginning, whatever the condition. -/
theorem heldA_open (S : World → Prop) {id : Nat} {a : Act} {w : World} (hm : P.follows .mixedOrders = true)
    (h : wpAnyH P .any ops Q S ops.size (Array.replicate ops.size false) a w.drew) : (Code.region id ops true).wp P Q a w := wp_region_held hm h
/-- The one operation that may come up. -/
theorem heldA_op {i : Nat} {o : Oper} {fuel : Nat} {listed : Array Bool} {a : Act} {w : World} (hr : Region.ready md ops listed = [i]) (ho : ops[i]? = some o)
    (hw : Region.wanted o (yielded ops a.tmps) = true)
    (h : ∀ K' : Act → World → Prop, (∀ a w1, S w1 → wpAnyH P md ops Q S fuel (listed.setIfInBounds i true) a w1 → K' a w1) → Oper.wp P o a w K' Q) :
    wpAnyH P md ops Q S (fuel + 1) listed a w := by
  refine wpAnyH_all hr (by simp) fun j hj => ?_
  simp only [List.mem_singleton] at hj
  subst hj
  refine wpOp_step ho fun K' hK => ?_
  rw [if_pos hw]
  exact h K' fun a w1 hs hh => hK a w1 ⟨hs, hh⟩
/-- Two operations may come up. -/
theorem heldA_op2 {i j : Nat} {oi oj : Oper} {fuel : Nat} {listed : Array Bool} {a : Act} {w : World} (hr : Region.ready md ops listed = [i, j]) (hoi : ops[i]? = some oi)
    (hwi : Region.wanted oi (yielded ops a.tmps) = true) (hoj : ops[j]? = some oj) (hwj : Region.wanted oj (yielded ops a.tmps) = true)
    (hi : ∀ K' : Act → World → Prop, (∀ a w1, S w1 → wpAnyH P md ops Q S fuel (listed.setIfInBounds i true) a w1 → K' a w1) → Oper.wp P oi a w K' Q)
    (hj : ∀ K' : Act → World → Prop, (∀ a w1, S w1 → wpAnyH P md ops Q S fuel (listed.setIfInBounds j true) a w1 → K' a w1) → Oper.wp P oj a w K' Q) :
    wpAnyH P md ops Q S (fuel + 1) listed a w := by
  refine wpAnyH_all hr (by simp) fun k hk => ?_
  simp only [List.mem_cons, List.not_mem_nil, or_false] at hk
  rcases hk with rfl | rfl
  · refine wpOp_step hoi fun K' hK => ?_
    rw [if_pos hwi]
    exact hi K' fun a w1 hs hh => hK a w1 ⟨hs, hh⟩
  · refine wpOp_step hoj fun K' hK => ?_
    rw [if_pos hwj]
    exact hj K' fun a w1 hs hh => hK a w1 ⟨hs, hh⟩
end
theorem owns_same {w w' : World} {base n sz : Nat} {e : TypeId} {v : Value} {xs : List Value} (h : w.ownsRow base e sz v n xs) (hb : ∀ b, v.ownBlock = some b → w'.heap[b]? = w.heap[b]?) : w'.ownsRow base e sz v n xs := by
  refine ⟨h.1, ?_⟩
  rcases h.2 with h2 | ⟨g, cap, cur, rfl, hg, hh, r⟩
  · exact .inl h2
  · exact .inr ⟨g, cap, cur, rfl, hg, (hb g rfl).trans hh, r⟩
theorem owns_lt {w : World} {base n sz : Nat} {e : TypeId} {v : Value} {xs : List Value} (h : w.ownsRow base e sz v n xs) {b : Nat} (hb : v.ownBlock = some b) : base ≤ b ∧ b < w.heap.size := by
  rcases h.2 with ⟨rfl, _⟩ | ⟨g, cap, cur, rfl, hg, hh, r⟩
  · simp [Value.ownBlock] at hb
  · simp [Value.ownBlock] at hb
    subst hb
    refine ⟨hg, ?_⟩
    rcases Nat.lt_or_ge g w.heap.size with h' | h'
    · exact h'
    · rw [Array.getElem?_eq_none h'] at hh; simp at hh
theorem cells_new5 (w : World) (x : Fnd) (T : TypeId) : ∀ j u, ([.int .i64 x.block, .int .i64 x.leb, .int .i64 x.bytes, .int .i64 x.number, .bool x.whole] : List Value)[j]? = some u → (w.alloc (.cells #[.int .i64 x.block, .int .i64 x.leb, .int .i64 x.bytes, .int .i64 x.number, .bool x.whole] T)).cell? ((⟨w.heap.size, 0, none⟩ : Addr).add j) = some u := by
  intro j u hj
  exact World.news_of_block (heap_alloc_new w _) j u (by simpa using hj)

/-- Rows of found blocks behind a slice of slices that lies whole in the block g: each by itself. -/
structure RowsAt (w : World) (B g L : Nat) (T E : TypeId) (R : Nat → List Fnd) (vs : Array Value) : Prop where
  blk : w.heap[g]? = some (.cells vs T (0, 0))
  size : vs.size = L
  hg : B ≤ g
  own : ∀ j, j < L → ∃ v, vs[j]? = some v ∧ w.ownsRow B E 5 v (R j).length (fcells (R j))
  apart : ∀ (j : Nat) (v : Value), vs[j]? = some v → v.ownBlock ≠ some g
  two : ∀ (i j : Nat) (v u : Value) (b : Nat), i ≠ j → vs[i]? = some v → vs[j]? = some u → v.ownBlock = some b → u.ownBlock ≠ some b
section
variable {w : World} {B g L : Nat} {T E : TypeId} {R : Nat → List Fnd} {vs : Array Value}
theorem RowsAt.lt (h : RowsAt w B g L T E R vs) : g < w.heap.size := by
  rcases Nat.lt_or_ge g w.heap.size with h' | h'
  · exact h'
  · have := h.blk; rw [Array.getElem?_eq_none h'] at this; simp at this
theorem RowsAt.below (h : RowsAt w B g L T E R vs) {w' : World} {D : Nat} (q : Below D w w') (hD : w.heap.size ≤ D) : RowsAt w' B g L T E R vs := by
  refine ⟨(q.block g (by have := h.lt; omega)).trans h.blk, h.size, h.hg, fun j hj => ?_, h.apart, h.two⟩
  obtain ⟨v, e, o⟩ := h.own j hj
  exact ⟨v, e, owns_same o fun b hb => q.block b (by have := (owns_lt o hb).2; omega)⟩
theorem RowsAt.congr (h : RowsAt w B g L T E R vs) {R' : Nat → List Fnd} (e : ∀ j, j < L → R j = R' j) : RowsAt w B g L T E R' vs :=
  ⟨h.blk, h.size, h.hg, fun j hj => by rw [← e j hj]; exact h.own j hj, h.apart, h.two⟩
theorem RowsAt.cell (h : RowsAt w B g L T E R vs) (j : Nat) : w.cell? ⟨g, j, none⟩ = vs[j]? := by simp [World.cell?, h.blk]
theorem RowsAt.soft (h : RowsAt w B g L T E R vs) (j : Nat) : w.frozen? ⟨g, j, none⟩ = false := by simp [World.frozen?, h.blk]
/-- One more in one of the rows. -/
theorem RowsAt.step (h : RowsAt w B g L T E R vs) {wa w5 : World} (q : Below w.heap.size w wa) {j : Nat} (hj : j < L) {v : Value} (hv : vs[j]? = some v) {f : Fnd} {gg cp n H : Nat} (hn : (R j).length = n)
    (own5 : w5.ownsRow B E 5 (.slice (some ⟨gg, 0, none⟩) (n + 1) cp) (n + 1) (fcells (R j) ++ f.cells)) (hg5 : wa.grownBy w5 v.ownBlock) (hat : v.ownBlock = some gg ∨ gg = H) (hH : wa.heap.size = H) :
    RowsAt (w5.setCell ⟨g, j, none⟩ (.slice (some ⟨gg, 0, none⟩) (n + 1) cp)) B g L T E (fun i => if i = j then R j ++ [f] else R i) (vs.setIfInBounds j (.slice (some ⟨gg, 0, none⟩) (n + 1) cp)) := by
  have hgl := h.lt
  have hqs := q.size
  have b5 : w5.heap[g]? = some (.cells vs T (0, 0)) := (hg5.block g (by omega) (fun e => h.apart j v hv e.symm)).trans ((q.block g hgl).trans h.blk)
  have hother : ∀ b, b ≠ g → (w5.setCell ⟨g, j, none⟩ (.slice (some ⟨gg, 0, none⟩) (n + 1) cp)).heap[b]? = w5.heap[b]? := fun b hb => Below.heap_setCell w5 ⟨g, j, none⟩ _ b hb
  have hggg : gg ≠ g := by
    rcases hat with e | e
    · exact fun e' => h.apart j v hv (by rw [e, e'])
    · omega
  have hset : ∀ i u, (vs.setIfInBounds j (Value.slice (some ⟨gg, 0, none⟩) (n + 1) cp))[i]? = some u → (i = j ∧ u = .slice (some ⟨gg, 0, none⟩) (n + 1) cp) ∨ (i ≠ j ∧ vs[i]? = some u) := by
    intro i u hu
    rw [Array.getElem?_setIfInBounds] at hu
    by_cases e : j = i
    · subst e
      rw [if_pos rfl, if_pos (by rw [h.size]; exact hj)] at hu
      exact .inl ⟨rfl, (Option.some.inj hu).symm⟩
    · rw [if_neg e] at hu
      exact .inr ⟨fun e' => e e'.symm, hu⟩
  have far : ∀ i u b, i ≠ j → vs[i]? = some u → u.ownBlock = some b → b ≠ gg := by
    intro i u b hij hu hb e
    subst e
    rcases hat with e | e
    · exact h.two i j u v b hij hu hv hb e
    · have hi : i < L := by
        rw [← h.size]
        rcases Nat.lt_or_ge i vs.size with h' | h'
        · exact h'
        · rw [Array.getElem?_eq_none h'] at hu; simp at hu
      obtain ⟨u', e1, o⟩ := h.own i hi
      rw [hu] at e1
      cases e1
      have := (owns_lt o hb).2
      omega
  refine ⟨setCell_block b5 j _, by simpa using h.size, h.hg, fun i hi => ?_, fun i u hu => ?_, fun i k u x b hik hu hx hb => ?_⟩
  · by_cases e : i = j
    · subst e
      refine ⟨.slice (some ⟨gg, 0, none⟩) (n + 1) cp, by rw [Array.getElem?_setIfInBounds, if_pos rfl, if_pos (by rw [h.size]; exact hi)], ?_⟩
      simp only [if_pos]
      have e2 : (R i ++ [f]).length = n + 1 := by simp [hn]
      have e3 : fcells (R i ++ [f]) = fcells (R i) ++ f.cells := by rw [fcells_append]; simp [fcells]
      rw [e2, e3]
      exact owns_same own5 fun b hb => hother b (by simp [Value.ownBlock] at hb; omega)
    · obtain ⟨u, e1, o⟩ := h.own i hi
      refine ⟨u, by rw [Array.getElem?_setIfInBounds, if_neg (fun e' => e e'.symm)]; exact e1, ?_⟩
      simp only [if_neg e]
      refine owns_same o fun b hb => ?_
      have hbl := (owns_lt o hb).2
      have hbg : b ≠ g := fun e' => h.apart i u e1 (by rw [hb, e'])
      rw [hother b hbg, hg5.block b (by omega) (fun e' => h.two i j u v b e e1 hv hb e'.symm), q.block b hbl]
  · rcases hset i u hu with ⟨rfl, rfl⟩ | ⟨hij, hu'⟩
    · simp [Value.ownBlock]; exact hggg
    · exact h.apart i u hu'
  · rcases hset i u hu with ⟨rfl, rfl⟩ | ⟨hij, hu'⟩
    · rcases hset k x hx with ⟨rfl, rfl⟩ | ⟨hkj, hx'⟩
      · exact absurd rfl hik
      · simp [Value.ownBlock] at hb
        subst hb
        exact fun e => far k x _ hkj hx' e rfl
    · rcases hset k x hx with ⟨rfl, rfl⟩ | ⟨hkj, hx'⟩
      · have := far i u b hij hu' hb
        simp [Value.ownBlock]; omega
      · exact h.two i k u x b hik hu' hx' hb
end
theorem ofLeb_snoc_yes {j : Int} {fs : List Fnd} {x : Fnd} (h : isOf j x = true) : ofLeb j (fs ++ [x]) = ofLeb j fs ++ [x] := by simp [ofLeb, h]
theorem ofLeb_snoc_no {j : Int} {fs : List Fnd} {x : Fnd} (h : isOf j x = false) : ofLeb j (fs ++ [x]) = ofLeb j fs := by simp [ofLeb, h]
theorem take_snocF (fs : List Fnd) (k : Nat) (h : k < fs.length) : fs.take (k + 1) = fs.take k ++ [fs[k]?.getD default] := by
  rw [List.take_add_one, List.getElem?_eq_getElem h]; rfl
theorem ofLeb_le (j : Int) (fs : List Fnd) : (ofLeb j fs).length ≤ fs.length := List.length_filter_le _ _

set_option maxHeartbeats 1600000 in
theorem next_any (a : Option Addr) (len cap : Nat) (fs : List Fnd) (w : World) (hr : FRow w a len cap fs) (hn : ∀ f ∈ fs, -4611686018427387904 ≤ f.number ∧ f.number ≤ 4611686018427387904) : Calls Tryz.prog 53 #[.slice a len cap] w fun e w' => e = .returned (.int .i64 (nextL fs)) ∧ Below w.heap.size w w' := by
  have hl := hr.hlen
  have hm := hr.hmax
  have hcp := hr.hcap
  unfold maxLen at hm
  by_cases h0 : len = 0
  · subst h0
    obtain rfl : fs = [] := List.eq_nil_of_length_eq_zero hl
    clear hr hn
    go_enter Tryz.func53, Tryz.ntmps53
    go_wp2_with fail
    go_ret
    exact ⟨rfl, Below.refl _ _⟩
  · have hz : ((len : Int) == 0) = false := by simp; omega
    have hz2 : ¬ (len : Int) = 0 := by omega
    have h2 : (0 : Int) < (len : Int) := by omega
    have HS : Hid (mostNum fs len + 1 = nextL fs) := by
      show _ = _
      unfold nextL
      rw [if_neg (by intro e; rw [e] at hl; simp at hl; omega), hl]
    have HB : Hid (∀ k, k ≤ len → -4611686018427387904 ≤ mostNum fs k ∧ mostNum fs k ≤ 4611686018427387904) := fun k hk => by
      obtain ⟨f, hf, e⟩ := mostNum_mem fs k (by omega) (by omega)
      rw [e]; exact hn f hf
    obtain ⟨b, off, rfl, hb0, hc⟩ := hr.hcell (by omega)
    have HC : Hid (∀ i, i < len → FAt w b (off + i * 5) (fs[i]?.getD default)) := hc
    obtain ⟨c0, c1, c2, c3, c4⟩ := hc 0 (by omega)
    rw [Nat.zero_mul, Nat.add_zero] at c0 c1 c2 c3 c4
    have H0 : Hid ((fs[0]?.getD default).number = mostNum fs 0) := rfl
    have HL : Hid (fs.length = len) := hl
    clear hc hr hn hl
    generalize fs[0]?.getD default = f0 at *
    go_enter Tryz.func53, Tryz.ntmps53
    go_wp2_with fail
    clear c0 c1 c2 c3 c4
    go_loopw [3, 16] (fun m i wr => ∃ k : Nat, k ≤ len ∧ i = .int .i64 (k : Int) ∧ m = .int .i64 (mostNum fs k) ∧ Hid (Below w.heap.size w wr)) (fun _ i _ => len - (RowKit.intOf i).toNat)
    case atStart => exact ⟨0, by omega, rfl, by rw [← H0.out], Below.refl _ _⟩
    case round =>
      obtain ⟨k, hk, rfl, rfl, Q⟩ := hrel
      by_cases hlt : k < len
      · have hlt' : (k : Int) < (len : Int) := by omega
        obtain ⟨c0, c1, c2, c3, c4⟩ := (HC.out k hlt).below Q.out (Nat.le_refl _)
        have HM : Hid (mostNum fs (k + 1) = max (mostNum fs k) (fs[k]?.getD default).number) := rfl
        generalize fs[k]?.getD default = x at *
        generalize mostNum fs k = m at *
        have Q2 : Hid (Below w.heap.size w (wr.alloc (.cells #[.int .i64 x.block, .int .i64 x.leb, .int .i64 x.bytes, .int .i64 x.number, .bool x.whole] 103))) := Q.out.alloc Q.out.size _
        go_wp2_with fail
        all_goals
          go_roundw
          case rel => exact ⟨k + 1, by omega, by go_num, by rw [HM.out]; first | rfl | (congr 1; omega), Q2⟩
          case measure => simp [RowKit.intOf]; omega
      · obtain rfl : k = len := by omega
        have hb := HB.out k (Nat.le_refl _)
        generalize hmm : mostNum fs k = m at *
        go_wp2_with fail
        go_ret
        exact ⟨ret_int HS.out, Q.out⟩
theorem infoFound : (Tryz.prog.info? 103).map (fun i => (i.zero, i.size, i.bytes)) = some (some (.agg #[.int .i64 0, .int .i64 0, .int .i64 0, .int .i64 0, .bool false]), 5, 40) := by kernel_rfl
theorem infoFounds : (Tryz.prog.info? 75).map (fun i => (i.zero, i.size, i.bytes)) = some (some (.slice none 0 0), 1, 24) := by kernel_rfl
theorem rowsAt_new {w : World} {L g : Nat} (h : w.ownsRow g 75 1 (.slice (some ⟨g, 0, none⟩) L L) L (madeCells (Value.slice none 0 0).cells (L * 1)).toList) : RowsAt w g g L 75 103 (fun j => ofLeb (j : Nat) []) (Array.replicate L (Value.slice none 0 0)) := by
  have e : (madeCells (Value.slice none 0 0).cells (L * 1)).toList = List.replicate L (Value.slice none 0 0) := by
    rw [Nat.mul_one, show (Value.slice none 0 0).cells = #[Value.slice none 0 0] from rfl, toList_madeCells_one]
  rw [e] at h
  have hb := heap_of_owns h
  rw [show (List.replicate L (Value.slice none 0 0)).toArray = Array.replicate L (Value.slice none 0 0) by simp] at hb
  refine ⟨hb, by simp, Nat.le_refl _, fun j hj => ⟨.slice none 0 0, by simp [hj], World.ownsRow_nil _ _ _ _⟩, ?_, ?_⟩
  · intro j v hv
    rw [Array.getElem?_replicate] at hv
    split at hv
    · cases hv; simp [Value.ownBlock]
    · cases hv
  · intro i j v u b _ hv hu hb
    rw [Array.getElem?_replicate] at hv
    split at hv
    · cases hv; simp [Value.ownBlock] at hb
    · cases hv
set_option maxHeartbeats 6400000 in
theorem rows_any (L : Nat) (hL : L ≤ 64) (a : Option Addr) (len cap : Nat) (fs : List Fnd) (w : World) (hr : FRow w a len cap fs) (hlen : len ≤ 100000) :
    Calls Tryz.prog 51 #[.int .i64 (L : Int), .slice a len cap] w fun e w' => e = .returned (.slice (some ⟨w.heap.size, 0, none⟩) L L) ∧ Below w.heap.size w w' ∧ ∃ vs, RowsAt w' w.heap.size w.heap.size L 75 103 (fun j => ofLeb (j : Nat) fs) vs := by
  have hl := hr.hlen
  have hm := hr.hmax
  have hcp := hr.hcap
  unfold maxLen at hm
  obtain ⟨ip, hip, hip'⟩ : ∃ i, Tryz.prog.info? 103 = some i ∧ (i.zero, i.size, i.bytes) = (some (.agg #[.int .i64 0, .int .i64 0, .int .i64 0, .int .i64 0, .bool false]), 5, 40) := by
    have := infoFound
    rw [Option.map_eq_some_iff] at this
    exact this
  simp only [Prod.mk.injEq] at hip'
  obtain ⟨hip0, hip1, hip2⟩ := hip'
  obtain ⟨iq, hiq, hiq'⟩ : ∃ i, Tryz.prog.info? 75 = some i ∧ (i.zero, i.size, i.bytes) = (some (.slice none 0 0), 1, 24) := by
    have := infoFounds
    rw [Option.map_eq_some_iff] at this
    exact this
  simp only [Prod.mk.injEq] at hiq'
  obtain ⟨hiq0, hiq1, hiq2⟩ := hiq'
  have hmaxL : L ≤ maxLen := by unfold maxLen; omega
  have HC : Hid (∀ i, i < len → ∃ b off, a = some ⟨b, off, none⟩ ∧ b < w.heap.size ∧ FAt w b (off + i * 5) (fs[i]?.getD default)) := fun i hi => by
    obtain ⟨b, off, e, hb, hc⟩ := hr.hcell (by omega)
    exact ⟨b, off, e, hb, hc i hi⟩
  have HL : Hid (fs.length = len) := hl
  have HEND : Hid (fs.take len = fs) := List.take_of_length_le (by omega)
  clear hl
  clear hr
  have hl0 : ¬ (L : Int) < 0 := by omega
  go_enter Tryz.func51, Tryz.ntmps51
  go_wp2_with (at_make; refine wpList_make_full _ rfl _ _ 96 rfl w.heap.size 75 iq (.slice none 0 0) 1 Tryz.underlying96 hiq hiq0 hiq1 _ _ _ _ L rfl rfl rfl rfl (by rw [hiq2]; omega) hmaxL (Nat.le_refl _) ?_; intro w1 hown1 hgrow1)
  have R0 := rowsAt_new hown1
  have Q0 : Below w.heap.size w w1 := (Below.refl _ _).grown hgrow1 (Nat.le_refl _) (by simp)
  clear hown1 hgrow1
  generalize hB : w.heap.size = B at *
  go_loopw [13] (fun i wr => ∃ (k : Nat) (vs : Array Value), k ≤ len ∧ i = .int .i64 (k : Int) ∧ Hid (RowsAt wr B B L 75 103 (fun j => ofLeb (j : Nat) (fs.take k)) vs) ∧ Hid (Below B w wr)) (fun i _ => len - (RowKit.intOf i).toNat)
  case atStart => exact ⟨0, _, by omega, rfl, (show RowsAt _ _ _ _ _ _ _ _ by simpa using R0), Q0⟩
  case round =>
    clear R0 Q0
    obtain ⟨k, vs, hk, rfl, HR, Q⟩ := hrel
    by_cases hlt : k < len
    · have hlt' : (k : Int) < (len : Int) := by omega
      obtain ⟨b, off, rfl, hbl, hc⟩ := HC.out k hlt
      have hx := hc.below Q.out (by omega)
      have HT : Hid (fs.take (k + 1) = fs.take k ++ [fs[k]?.getD default]) := take_snocF fs k (by rw [HL.out]; exact hlt)
      generalize fs[k]?.getD default = x at *
      clear hc
      have hsz := Q.out.size
      have fx := fat_new wr 103 x
      have qa := below_one wr (.cells #[.int .i64 x.block, .int .i64 x.leb, .int .i64 x.bytes, .int .i64 x.number, .bool x.whole] 103)
      have HR2 : Hid (RowsAt (wr.alloc (.cells #[.int .i64 x.block, .int .i64 x.leb, .int .i64 x.bytes, .int .i64 x.number, .bool x.whole] 103)) B B L 75 103 (fun j => ofLeb (j : Nat) (fs.take k)) vs) := HR.out.below qa (Nat.le_refl _)
      have Q2 : Hid (Below B w (wr.alloc (.cells #[.int .i64 x.block, .int .i64 x.leb, .int .i64 x.bytes, .int .i64 x.number, .bool x.whole] 103))) := Q.out.alloc (by omega) _
      have hbx : B ≤ wr.heap.size := by omega
      have HSKIP : Hid ((∀ j : Nat, j < L → isOf (j : Nat) x = false) → RowsAt (wr.alloc (.cells #[.int .i64 x.block, .int .i64 x.leb, .int .i64 x.bytes, .int .i64 x.number, .bool x.whole] 103)) B B L 75 103 (fun j => ofLeb (j : Nat) (fs.take (k + 1))) vs) := fun hno => HR2.out.congr fun j hj => by rw [HT.out, ofLeb_snoc_no (hno j hj)]
      by_cases hin : x.whole = true ∧ 0 ≤ x.leb ∧ x.leb < (L : Int)
      · obtain ⟨hw, h1, h2⟩ := hin
        obtain ⟨j, hj⟩ := Int.eq_ofNat_of_zero_le h1
        have hjL : j < L := by omega
        obtain ⟨v, hv, own⟩ := HR2.out.own j hjL
        have hof : isOf (j : Nat) x = true := by simp [isOf, hw, hj]
        have hnof : ∀ i : Nat, i ≠ j → isOf (i : Nat) x = false := fun i hi => by simp [isOf, hj]; omega
        have HR3 : Hid (∀ w5 gg cp, World.ownsRow w5 B 103 5 (.slice (some ⟨gg, 0, none⟩) ((ofLeb (j : Nat) (fs.take k)).length + 1) cp) ((ofLeb (j : Nat) (fs.take k)).length + 1) (fcells (ofLeb (j : Nat) (fs.take k)) ++ x.cells) → ((wr.alloc (.cells #[.int .i64 x.block, .int .i64 x.leb, .int .i64 x.bytes, .int .i64 x.number, .bool x.whole] 103)).alloc (.cells #[.int .i64 x.block, .int .i64 x.leb, .int .i64 x.bytes, .int .i64 x.number, .bool x.whole] 103)).grownBy w5 v.ownBlock → (v.ownBlock = some gg ∨ gg = (wr.alloc (.cells #[.int .i64 x.block, .int .i64 x.leb, .int .i64 x.bytes, .int .i64 x.number, .bool x.whole] 103)).heap.size + 1) →
            Hid (RowsAt (w5.setCell ⟨B, j, none⟩ (.slice (some ⟨gg, 0, none⟩) ((ofLeb (j : Nat) (fs.take k)).length + 1) cp)) B B L 75 103 (fun j => ofLeb (j : Nat) (fs.take (k + 1))) (vs.setIfInBounds j (.slice (some ⟨gg, 0, none⟩) ((ofLeb (j : Nat) (fs.take k)).length + 1) cp))) ∧ Hid (Below B w (w5.setCell ⟨B, j, none⟩ (.slice (some ⟨gg, 0, none⟩) ((ofLeb (j : Nat) (fs.take k)).length + 1) cp)))) := by
          intro w5 gg cp own5 hg5 hat5
          refine ⟨(HR2.out.step (below_one _ _) hjL hv rfl own5 hg5 hat5 (by simp)).congr fun i hi => ?_, ?_⟩
          · by_cases e : i = j
            · subst e; rw [if_pos rfl, HT.out, ofLeb_snoc_yes hof]
            · rw [if_neg e, HT.out, ofLeb_snoc_no (hnof i e)]
          · have hq := (Q2.out.alloc (by simp; omega) (.cells #[.int .i64 x.block, .int .i64 x.leb, .int .i64 x.bytes, .int .i64 x.number, .bool x.whole] 103)).grown hg5 (by simp; omega) (fun i hi => (owns_lt own hi).1)
            exact hq.setCell (p := ⟨B, j, none⟩) (Nat.le_refl _) _
        have HB4 : Hid (∀ w5, ((wr.alloc (.cells #[.int .i64 x.block, .int .i64 x.leb, .int .i64 x.bytes, .int .i64 x.number, .bool x.whole] 103)).alloc (.cells #[.int .i64 x.block, .int .i64 x.leb, .int .i64 x.bytes, .int .i64 x.number, .bool x.whole] 103)).grownBy w5 v.ownBlock → w5.cell? ⟨B, j, none⟩ = some v ∧ w5.frozen? ⟨B, j, none⟩ = false) := fun w5 hg5 => by
          have hbl2 := HR2.out.lt
          have e := (hg5.block B (by simp at hbl2 ⊢; omega) (fun e => HR2.out.apart j v hv e.symm)).trans (((below_one (wr.alloc (.cells #[.int .i64 x.block, .int .i64 x.leb, .int .i64 x.bytes, .int .i64 x.number, .bool x.whole] 103)) (.cells #[.int .i64 x.block, .int .i64 x.leb, .int .i64 x.bytes, .int .i64 x.number, .bool x.whole] 103)).block B hbl2).trans HR2.out.blk)
          exact ⟨by simp [World.cell?, e, hv], by simp [World.frozen?, e]⟩
        have HV : Hid (∀ w', Below (wr.alloc (.cells #[.int .i64 x.block, .int .i64 x.leb, .int .i64 x.bytes, .int .i64 x.number, .bool x.whole] 103)).heap.size (wr.alloc (.cells #[.int .i64 x.block, .int .i64 x.leb, .int .i64 x.bytes, .int .i64 x.number, .bool x.whole] 103)) w' → w'.cell? ⟨B, j, none⟩ = some v) := fun w' q => ((HR2.out.below q (Nat.le_refl _)).cell j).trans hv
        have HX : Hid (∀ w', Turned (fun k => k = B ∨ v.ownBlock = some k) (wr.alloc (.cells #[.int .i64 x.block, .int .i64 x.leb, .int .i64 x.bytes, .int .i64 x.number, .bool x.whole] 103)) w' → FAt w' wr.heap.size 0 x) := fun w' q => fx.same (q.block _ (by simp) (by
          rintro (e | e)
          · have := HR.out.lt; omega
          · obtain ⟨u, e1, o⟩ := HR.out.own j hjL
            rw [hv] at e1; cases e1
            have := (owns_lt o e).2; omega))
        have hgl : B < (wr.alloc (.cells #[.int .i64 x.block, .int .i64 x.leb, .int .i64 x.bytes, .int .i64 x.number, .bool x.whole] 103)).heap.size := HR2.out.lt
        have hn : (ofLeb (j : Nat) (fs.take k)).length ≤ 100000 := by
          have h1 := ofLeb_le (j : Nat) (fs.take k)
          have h2 : (fs.take k).length ≤ k := List.length_take_le _ _
          omega
        generalize (ofLeb (j : Nat) (fs.take k)).length = n at *
        generalize ofLeb (j : Nat) (fs.take k) = Rj at *
        clear HSKIP HR HR2 hof hnof HT Q2 qa fx
        obtain ⟨xb, xl, xy, xn, xw⟩ := x
        simp only at hj hw h1 h2
        subst hj hw
        obtain ⟨c0, c1, c2, c3, c4⟩ := hx
        simp only at c0 c1 c2 c3 c4
        go_wp2_with fail
        clear c0 c1 c2 c3 c4
        try simp only at own HR3 HB4 HV HX hgl
        have HSTEP : Hid _ := HR3
        have HB5 : Hid _ := HB4
        clear HR3 HB4
        generalize wr.alloc (.cells #[.int .i64 xb, .int .i64 (j : Int), .int .i64 xy, .int .i64 xn, .bool true] 103) = wa at *
        generalize wr.heap.size = bb at *
        refine heldA_open (Turned (fun k => k = B ∨ v.ownBlock = some k) wa) (by kernel_rfl) ?_
        refine held_reads (rs := [0, 1, 2, 3, 4, 6]) (fuel := 5) (by kernel_rfl) (fun c d v a w h => by cases d <;> exact h) (by kernel_rfl) ((Turned.refl _ _).drew) (fun K hK => ?_)
        refine calm_move _ rfl (by rfl) rfl ?_
        go_simp
        refine calm_move _ rfl (by rfl) rfl ?_
        go_simp
        refine calm_move _ rfl (by rfl) rfl ?_
        go_simp
        refine calm_move _ rfl (by rfl) rfl ?_
        go_simp
        refine calm_do (.pointer (some ⟨B, j, none⟩)) rfl (by rfl) (fun w' hw' => ?_) ?_
        · go_simp
        go_simp
        refine calm_do (.agg #[.int .i64 xb, .int .i64 (j : Int), .int .i64 xy, .int .i64 xn, .bool true]) rfl (by rfl) (fun w' hw' => ?_) ?_
        · obtain ⟨c0, c1, c2, c3, c4⟩ := HX.out w' hw'
          go_simp
        go_simp
        refine calm_nil (hK.out _ ?_)
        clear hK K
        refine heldA_op2 (i := 5) (j := 7) (fuel := 4) (by kernel_rfl) rfl (by rfl) rfl (by rfl) (fun K hK => ?_) (fun K hK => ?_)
        · have hb0 := HV.out _ (Below.refl _ _)
          go_simp
          refine hK _ _ ((Turned.refl _ _).drew) ?_
          clear hK K hb0
          refine heldA_op (i := 7) (fuel := 3) (by kernel_rfl) rfl (by rfl) (fun K hK => ?_)
          have q4 := below_one wa (.cells #[.int .i64 xb, .int .i64 (j : Int), .int .i64 xy, .int .i64 xn, .bool true] 103)
          have s4 : Turned (fun k => k = B ∨ v.ownBlock = some k) wa (wa.alloc (.cells #[.int .i64 xb, .int .i64 (j : Int), .int .i64 xy, .int .i64 xn, .bool true] 103)).drew := (Turned.of_below _ q4).drew
          go_simp
          refine hK _ _ s4 ?_
          clear hK K
          refine heldA_op (i := 8) (fuel := 2) (by kernel_rfl) rfl (by rfl) (fun K hK => ?_)
          have own4 := (own.alloc (.cells #[.int .i64 xb, .int .i64 (j : Int), .int .i64 xy, .int .i64 xn, .bool true] 103)).drew
          have hsz4 := q4.size
          refine wp_append_lies _ (.tmp 36) (.tmp 38) 75 (by rfl) B 103 ip (.agg #[.int .i64 0, .int .i64 0, .int .i64 0, .int .i64 0, .bool false]) 5 40 Tryz.underlying75 hip hip0 hip1 hip2 (by rfl) (by omega) v n (fcells Rj) (by rfl) own4 ⟨wa.heap.size, 0, none⟩ 1 1 [.int .i64 xb, .int .i64 (j : Int), .int .i64 xy, .int .i64 xn, .bool true] (by rfl) (by rfl) (cells_new5 _ ⟨xb, (j : Int), xy, xn, true⟩ _) ?o1 (by omega) ?o2 ?o3 ?o4 (wa.heap.size + 1) ?o5 ?_
          case o1 => exact Fnd.cells_one ⟨xb, (j : Int), xy, xn, true⟩
          case o2 => unfold maxLen; omega
          case o3 => omega
          case o4 => show B ≤ (wa.alloc _).heap.size; simp; omega
          case o5 => show (wa.alloc _).heap.size = _; simp
          intro gg cp w5 own5 hg5 hat5 hlt5
          replace hg5 : (wa.alloc (.cells #[.int .i64 xb, .int .i64 (j : Int), .int .i64 xy, .int .i64 xn, .bool true] 103)).grownBy w5 v.ownBlock := ⟨hg5.os, hg5.tape, hg5.output, hg5.size, hg5.block⟩
          have s5 : Turned (fun k => k = B ∨ v.ownBlock = some k) wa w5 := (Turned.of_below _ q4).grown hg5 (fun k hk => .inl (.inr hk))
          have HP := HSTEP.out w5 gg cp own5 hg5 hat5
          have b5 := HB5.out w5 hg5
          have hb5 := b5.1
          have hf5 := b5.2
          clear b5 own5 own4 hat5 hg5
          refine hK _ _ s5 ?_
          clear hK K
          refine held_reads (rs := [9]) (fuel := 1) (by kernel_rfl) (fun c d v a w h => by cases d <;> exact h) (by kernel_rfl) (s5) (fun K hK => ?_)
          go_simp
          refine calm_do (.pointer (some ⟨B, j, none⟩)) rfl (by rfl) (fun w' hw' => ?_) ?_
          · go_simp
          go_simp
          refine calm_nil (hK.out _ ?_)
          clear hK K
          refine heldA_op (i := 10) (fuel := 0) (by kernel_rfl) rfl (by rfl) (fun K hK => ?_)
          have s6 : Turned (fun k => k = B ∨ v.ownBlock = some k) wa (w5.setCell ⟨B, j, none⟩ (.slice (some ⟨gg, 0, none⟩) (n + 1) cp)) := s5.setCell (p := ⟨B, j, none⟩) (.inl (.inl rfl)) _
          go_simp
          refine hK _ _ s6 ?_
          clear hK K
          refine wpAnyH_done (by kernel_rfl) ?_ _
          go_wp2_with fail
          go_roundw
          case rel => exact ⟨k + 1, _, by omega, by go_num, HP.1, HP.2⟩
          case measure => simp [RowKit.intOf]; omega
        · have q4 := below_one wa (.cells #[.int .i64 xb, .int .i64 (j : Int), .int .i64 xy, .int .i64 xn, .bool true] 103)
          have s4 : Turned (fun k => k = B ∨ v.ownBlock = some k) wa (wa.alloc (.cells #[.int .i64 xb, .int .i64 (j : Int), .int .i64 xy, .int .i64 xn, .bool true] 103)).drew := (Turned.of_below _ q4).drew
          go_simp
          refine hK _ _ s4 ?_
          clear hK K
          refine heldA_op (i := 5) (fuel := 3) (by kernel_rfl) rfl (by rfl) (fun K hK => ?_)
          have hb0 := HV.out _ (q4)
          have hb1 := HV.out _ (Below.refl _ _)
          go_simp
          refine hK _ _ (s4) ?_
          clear hK K hb0 hb1
          refine heldA_op (i := 8) (fuel := 2) (by kernel_rfl) rfl (by rfl) (fun K hK => ?_)
          have own4 := (own.alloc (.cells #[.int .i64 xb, .int .i64 (j : Int), .int .i64 xy, .int .i64 xn, .bool true] 103)).drew
          have hsz4 := q4.size
          refine wp_append_lies _ (.tmp 36) (.tmp 38) 75 (by rfl) B 103 ip (.agg #[.int .i64 0, .int .i64 0, .int .i64 0, .int .i64 0, .bool false]) 5 40 Tryz.underlying75 hip hip0 hip1 hip2 (by rfl) (by omega) v n (fcells Rj) (by rfl) own4 ⟨wa.heap.size, 0, none⟩ 1 1 [.int .i64 xb, .int .i64 (j : Int), .int .i64 xy, .int .i64 xn, .bool true] (by rfl) (by rfl) (cells_new5 _ ⟨xb, (j : Int), xy, xn, true⟩ _) ?o1 (by omega) ?o2 ?o3 ?o4 (wa.heap.size + 1) ?o5 ?_
          case o1 => exact Fnd.cells_one ⟨xb, (j : Int), xy, xn, true⟩
          case o2 => unfold maxLen; omega
          case o3 => omega
          case o4 => show B ≤ (wa.alloc _).heap.size; simp; omega
          case o5 => show (wa.alloc _).heap.size = _; simp
          intro gg cp w5 own5 hg5 hat5 hlt5
          replace hg5 : (wa.alloc (.cells #[.int .i64 xb, .int .i64 (j : Int), .int .i64 xy, .int .i64 xn, .bool true] 103)).grownBy w5 v.ownBlock := ⟨hg5.os, hg5.tape, hg5.output, hg5.size, hg5.block⟩
          have s5 : Turned (fun k => k = B ∨ v.ownBlock = some k) wa w5 := (Turned.of_below _ q4).grown hg5 (fun k hk => .inl (.inr hk))
          have HP := HSTEP.out w5 gg cp own5 hg5 hat5
          have b5 := HB5.out w5 hg5
          have hb5 := b5.1
          have hf5 := b5.2
          clear b5 own5 own4 hat5 hg5
          refine hK _ _ s5 ?_
          clear hK K
          refine held_reads (rs := [9]) (fuel := 1) (by kernel_rfl) (fun c d v a w h => by cases d <;> exact h) (by kernel_rfl) (s5) (fun K hK => ?_)
          go_simp
          refine calm_do (.pointer (some ⟨B, j, none⟩)) rfl (by rfl) (fun w' hw' => ?_) ?_
          · go_simp
          go_simp
          refine calm_nil (hK.out _ ?_)
          clear hK K
          refine heldA_op (i := 10) (fuel := 0) (by kernel_rfl) rfl (by rfl) (fun K hK => ?_)
          have s6 : Turned (fun k => k = B ∨ v.ownBlock = some k) wa (w5.setCell ⟨B, j, none⟩ (.slice (some ⟨gg, 0, none⟩) (n + 1) cp)) := s5.setCell (p := ⟨B, j, none⟩) (.inl (.inl rfl)) _
          go_simp
          refine hK _ _ s6 ?_
          clear hK K
          refine wpAnyH_done (by kernel_rfl) ?_ _
          go_wp2_with fail
          go_roundw
          case rel => exact ⟨k + 1, _, by omega, by go_num, HP.1, HP.2⟩
          case measure => simp [RowKit.intOf]; omega
      · have hno := HSKIP.out fun j hj => by
          cases hq : isOf (j : Nat) x
          · rfl
          · simp [isOf] at hq
            exact absurd ⟨hq.1, by omega, by omega⟩ hin
        clear HSKIP HR HR2 fx qa HT
        obtain ⟨xb, xl, xy, xn, xw⟩ := x
        obtain ⟨c0, c1, c2, c3, c4⟩ := hx
        simp only at c0 c1 c2 c3 c4 hno Q2 hin
        replace hno : Hid _ := hno
        cases xw
        · go_wp2_with fail
          go_roundw
          case rel => exact ⟨k + 1, vs, by omega, by go_num, hno, Q2⟩
          case measure => simp [RowKit.intOf]; omega
        · by_cases h1 : 0 ≤ xl
          · have h2 : ¬ xl < (L : Int) := fun h2 => hin ⟨rfl, h1, h2⟩
            go_wp2_with fail
            go_roundw
            case rel => exact ⟨k + 1, vs, by omega, by go_num, hno, Q2⟩
            case measure => simp [RowKit.intOf]; omega
          · go_wp2_with fail
            go_roundw
            case rel => exact ⟨k + 1, vs, by omega, by go_num, hno, Q2⟩
            case measure => simp [RowKit.intOf]; omega
    · obtain rfl : k = len := by omega
      have HE : Hid (RowsAt wr B B L 75 103 (fun j => ofLeb (j : Nat) fs) vs) := by
        have := HR.out
        rw [HEND.out] at this
        exact this
      clear HR
      go_wp2_with fail
      go_ret
      subst hB
      exact ⟨rfl, Q.out, vs, HE.out⟩

end Go.Proofs.YtgamakejaknagaaGreat

/-
  The code of layer 10 (attach), as it landed: Pick.
-/
namespace Go.Proofs.YtgamakejaknagaaGreat
open Go.RowKit
set_option linter.unusedVariables false
set_option maxRecDepth 8192

theorem RowsAt.same {w w' : World} {B g L : Nat} {T E : TypeId} {R : Nat → List Fnd} {vs : Array Value} (h : RowsAt w B g L T E R vs) (hs : ∀ b, B ≤ b → b < w.heap.size → w'.heap[b]? = w.heap[b]?) : RowsAt w' B g L T E R vs := by
  refine ⟨(hs g h.hg h.lt).trans h.blk, h.size, h.hg, fun j hj => ?_, h.apart, h.two⟩
  obtain ⟨v, e, o⟩ := h.own j hj
  exact ⟨v, e, owns_same o fun b hb => hs b (owns_lt o hb).1 (owns_lt o hb).2⟩
theorem RowsAt.row {w : World} {B g L : Nat} {T E : TypeId} {R : Nat → List Fnd} {vs : Array Value} (h : RowsAt w B g L T E R vs) (j : Nat) (hj : j < L) : ∃ a cap, vs[j]? = some (.slice a (R j).length cap) ∧ FRow w a (R j).length cap (R j) := by
  obtain ⟨v, e, o⟩ := h.own j hj
  obtain ⟨a, cap, rfl, r⟩ := frow_of_owns o
  exact ⟨a, cap, e, r⟩
/-- What Pick holds behind k rounds. -/
def pickTo (L : Nat) (fs : List Fnd) (k : Nat) : List Int := (List.range L).map fun j => if j < k then standsL (ofLeb (j : Nat) fs) else 0
theorem pickTo_zero (L : Nat) (fs : List Fnd) : pickTo L fs 0 = List.replicate L 0 := by
  apply List.ext_getElem
  · simp [pickTo]
  · intro i h1 h2; simp [pickTo]
theorem pickTo_end (L : Nat) (fs : List Fnd) : pickTo L fs L = pickL L fs := by
  unfold pickTo pickL
  refine List.map_congr_left fun j hj => ?_
  rw [if_pos (List.mem_range.1 hj)]
theorem pickTo_succ (L : Nat) (fs : List Fnd) (k : Nat) (hk : k < L) : (pickTo L fs k).set k (standsL (ofLeb (k : Nat) fs)) = pickTo L fs (k + 1) := by
  apply List.ext_getElem
  · simp [pickTo]
  · intro i h1 h2
    rw [List.getElem_set]
    simp only [pickTo, List.getElem_map, List.getElem_range]
    by_cases e : k = i
    · subst e; rw [if_pos rfl, if_pos (by omega)]
    · rw [if_neg e]
      by_cases h : i < k
      · rw [if_pos h, if_pos (by omega)]
      · rw [if_neg h, if_neg (by omega)]
theorem Tryz.infoInt10 : (Tryz.prog.info? 3).map (fun i => (i.zero, i.size, i.bytes)) = some (some (.int .i64 0), 1, 8) := by kernel_rfl
set_option maxHeartbeats 3200000 in
theorem attPick_own (L : Nat) (h1 : 1 ≤ L) (hL : L ≤ 64) (a : Option Addr) (len cap : Nat) (fs : List Fnd) (w : World) (hr : FRow w a len cap fs) (hlen : len ≤ 100000) (hn : ∀ f ∈ fs, -4611686018427387904 ≤ f.number ∧ f.number ≤ 4611686018427387904) :
    Calls Tryz.prog 34 #[.int .i64 (L : Int), .slice a len cap] w fun e w' => ∃ g, e = .returned (.tuple #[.slice (some ⟨g, 0, none⟩) L L, .int .i64 (nextL fs), .int .i64 0]) ∧ Row .i64 w' (some ⟨g, 0, none⟩) L L (pickL L fs) ∧ w'.ownsRow w.heap.size 3 1 (.slice (some ⟨g, 0, none⟩) L L) L ((pickL L fs).map (Value.int .i64)) ∧ Below w.heap.size w w' := by
  obtain ⟨iq, hiq, hiq'⟩ : ∃ i, Tryz.prog.info? 3 = some i ∧ (i.zero, i.size, i.bytes) = (some (.int .i64 0), 1, 8) := by
    have := Tryz.infoInt10
    rw [Option.map_eq_some_iff] at this
    exact this
  simp only [Prod.mk.injEq] at hiq'
  obtain ⟨hiq0, hiq1, hiq2⟩ := hiq'
  have hmaxL : L ≤ maxLen := by unfold maxLen; omega
  have hlb : lebsB (L : Int) = true := by unfold lebsB; rw [decide_eq_true_iff]; omega
  go_enter Tryz.func34, Tryz.ntmps34
  go_wp2_with fail
  refine (attMayBe_any (L : Int) _).mono ?_
  rintro e w' ⟨rfl, rfl⟩
  rw [hlb]
  go_wp2_with (at_make; refine wpList_make_full _ rfl _ _ 32 rfl w.heap.size 3 iq (.int .i64 0) 1 Tryz.underlying32 hiq hiq0 hiq1 _ _ _ _ L rfl rfl rfl rfl (by rw [hiq2]; omega) hmaxL (Nat.le_refl _) ?_; intro w1 hown1 hgrow1)
  rw [made_ints] at hown1
  have q1 : Below w.heap.size w w1 := (Below.refl _ _).grown hgrow1 (Nat.le_refl _) (by simp)
  clear hgrow1
  refine (rows_any L hL a len cap fs w1 (hr.below q1 (Nat.le_refl _)) hlen).mono ?_
  rintro e w2 ⟨rfl, q2, vs, hR⟩
  have HF : Hid (FRow w a len cap fs) := hr
  have hg0 := (owns_lt hown1 rfl).2
  have own2 := owns_same (w' := w2) hown1 (fun b hb => by simp [Value.ownBlock] at hb; subst hb; exact q2.block _ hg0)
  rw [← pickTo_zero L fs] at own2
  clear hown1
  have q3 := btrans q1 q2
  clear q1 q2
  have HR : Hid (RowsAt w2 w1.heap.size w1.heap.size L 75 103 (fun j => ofLeb (j : Nat) fs) vs) := hR
  have OW : Hid (w2.ownsRow w.heap.size 3 1 (.slice (some ⟨w.heap.size, 0, none⟩) L L) L ((pickTo L fs 0).map (Value.int .i64))) := own2
  have Q3 : Hid _ := q3
  clear hR own2 q3 hr
  generalize w1.heap.size = g1 at *
  generalize hB : w.heap.size = B at *
  go_wp2_with fail
  go_loopw [19] (fun i wr => ∃ k : Nat, k ≤ L ∧ i = .int .i64 (k : Int) ∧ Hid (wr.ownsRow B 3 1 (.slice (some ⟨B, 0, none⟩) L L) L ((pickTo L fs k).map (Value.int .i64))) ∧ Hid (RowsAt wr g1 g1 L 75 103 (fun j => ofLeb (j : Nat) fs) vs) ∧ Hid (Below B w wr)) (fun i _ => L - (RowKit.intOf i).toNat)
  case atStart => exact ⟨0, by omega, rfl, OW, HR, Q3⟩
  case round =>
    clear OW HR Q3
    obtain ⟨k, hk, rfl, OW, HR, Q3⟩ := hrel
    by_cases hlt : k < L
    · have hlt' : (k : Int) < (L : Int) := by omega
      obtain ⟨a2, cap2, hv, r2⟩ := HR.out.row k hlt
      have hc1 := (HR.out.cell k).trans hv
      have HST : Hid ((pickTo L fs k).set k (standsL (ofLeb (k : Nat) fs)) = pickTo L fs (k + 1)) := pickTo_succ L fs k hlt
      clear hv
      generalize (ofLeb (k : Nat) fs).length = n2 at *
      generalize ofLeb (k : Nat) fs = R2 at *
      go_wp2_with fail
      refine (stands_any a2 n2 cap2 R2 _ r2).mono ?_
      rintro e w3 ⟨rfl, q⟩
      have hsz := Q3.out.size
      have HR3 := HR.out.below q (Nat.le_refl _)
      have OW3 : Hid _ := owns_same (w' := w3) OW.out (fun b hb => q.block _ (owns_lt OW.out hb).2)
      have Q4 : Hid (Below B w w3) := Q3.out.trans (q.mono (by omega))
      have hbk := heap_of_owns OW3.out
      have hcell := owned_cell OW3.out k hlt
      have hfr : w3.frozen? ⟨B, k, none⟩ = false := by simp [World.frozen?, hbk]
      have hset := owned_set (q := k) (x := standsL R2) (Nat.le_refl B) OW3.out Q4.out
      have HO : Hid _ := hset.1
      have HQ : Hid _ := hset.2
      have HRS : Hid (RowsAt (w3.setCell ⟨B, k, none⟩ (.int .i64 (standsL R2))) g1 g1 L 75 103 (fun j => ofLeb (j : Nat) fs) vs) := HR3.same fun b hb1 hb2 => Below.heap_setCell w3 ⟨B, k, none⟩ _ b (by show b ≠ B; omega)
      clear hset hbk HR3 OW3 Q4 HR OW Q3 r2 q
      generalize standsL R2 = sv at *
      generalize (pickTo L fs k)[k]?.getD 0 = oldv at *
      go_wp2_with fail
      go_roundw
      case rel => exact ⟨k + 1, by omega, by go_num, by rw [← HST.out]; exact HO, HRS, HQ⟩
      case measure => simp [RowKit.intOf]; omega
    · obtain rfl : k = L := by omega
      have HO : Hid _ := OW.out
      rw [pickTo_end] at HO
      clear HR OW
      have hr2 := HF.out.below Q3.out (by omega)
      go_wp2_with fail
      refine (next_any a len cap fs _ hr2 hn).mono ?_
      rintro e w3 ⟨rfl, q⟩
      have OW3 := owns_same (w' := w3) HO.out (fun b hb => q.block _ (owns_lt HO.out hb).2)
      have Q4 : Below B w w3 := Q3.out.trans (q.mono (by have := Q3.out.size; omega))
      obtain ⟨a3, cap3, hv3, r3⟩ := row_of_owns OW3
      simp only [Value.slice.injEq, true_and] at hv3
      obtain ⟨rfl, rfl⟩ := hv3
      have O3 : Hid _ := OW3
      clear OW3 HO Q3 q hr2
      go_wp2_with fail
      go_ret3
      subst hB
      exact ⟨_, rfl, r3, O3.out, Q4⟩
theorem attPick_yes (L : Nat) (h1 : 1 ≤ L) (hL : L ≤ 64) (a : Option Addr) (len cap : Nat) (fs : List Fnd) (w : World) (hr : FRow w a len cap fs) (hlen : len ≤ 100000) (hn : ∀ f ∈ fs, -4611686018427387904 ≤ f.number ∧ f.number ≤ 4611686018427387904) :
    Calls Tryz.prog 34 #[.int .i64 (L : Int), .slice a len cap] w fun e w' => ∃ g, e = .returned (.tuple #[.slice (some ⟨g, 0, none⟩) L L, .int .i64 (nextL fs), .int .i64 0]) ∧ Row .i64 w' (some ⟨g, 0, none⟩) L L (pickL L fs) ∧ Below w.heap.size w w' := by
  refine (attPick_own L h1 hL a len cap fs w hr hlen hn).mono ?_
  rintro e w' ⟨g, h1, h2, _, h3⟩
  exact ⟨g, h1, h2, h3⟩
end Go.Proofs.YtgamakejaknagaaGreat

/-
  The code of layer 10 (attach), as it landed: Stale at the chapter's example: a row of two blocks that are in order.
-/
namespace Go.Proofs.YtgamakejaknagaaGreat
open Go.RowKit
set_option linter.unusedVariables false
set_option maxRecDepth 8192

section
variable (nf : Int → Int → Int) (fn : Nat) (hbody : ∀ args w, Sem.run Tryz.prog (callFunc fn args) w = .ok (.enter fn args) w)
    (hcall : ∀ (a b : Int) (w : World), Calls Tryz.prog fn #[.int .i64 a, .int .i64 b] w fun e w' => e = .returned (.int .i64 (nf a b)) ∧ w = w')
include hbody hcall
end
end Go.Proofs.YtgamakejaknagaaGreat
