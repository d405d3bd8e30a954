/-
  Layer 10, plain: what was found in a block; which one stands for a logical block; how found blocks lie in memory.
-/
import Derived.Test.YtgamakejaknagaaGreatPackA
import Derived.Test.YtgamakejaknagaaGreatRows
import Derived.Laws.StructEq
import Derived.RangeFuncRecord
namespace Go.Proofs.YtgamakejaknagaaGreat
open Go.RowKit
set_option linter.unusedVariables false
set_option maxRecDepth 8192

/-- What was found in a block. -/
structure Fnd where
  block : Int
  leb : Int
  bytes : Int
  number : Int
  whole : Bool
instance : Inhabited Fnd := ⟨⟨0, 0, 0, 0, false⟩⟩
def Fnd.cells (f : Fnd) : List Value := [.int .i64 f.block, .int .i64 f.leb, .int .i64 f.bytes, .int .i64 f.number, .bool f.whole]
theorem Fnd.cells_len (f : Fnd) : f.cells.length = 5 := rfl
theorem Fnd.cells_one (f : Fnd) : ∀ u ∈ f.cells, u.oneCell' = true := by
  intro u hu
  simp [Fnd.cells] at hu
  rcases hu with rfl | rfl | rfl | rfl | rfl <;> rfl
def fcells (fs : List Fnd) : List Value := fs.flatMap Fnd.cells
theorem fcells_len (fs : List Fnd) : (fcells fs).length = fs.length * 5 := by
  induction fs with
  | nil => rfl
  | cons f fs ih => simp only [fcells, List.flatMap_cons, List.length_append, Fnd.cells_len, List.length_cons] at *; omega
theorem fcells_append (a b : List Fnd) : fcells (a ++ b) = fcells a ++ fcells b := by simp [fcells]
theorem fcells_at (fs : List Fnd) (i : Nat) (hi : i < fs.length) (j : Nat) (hj : j < 5) : (fcells fs)[i * 5 + j]? = (fs[i]?.getD default).cells[j]? := by
  induction fs generalizing i with
  | nil => simp at hi
  | cons f fs ih =>
    show (f.cells ++ fcells fs)[i * 5 + j]? = _
    cases i with
    | zero => rw [List.getElem?_append_left (by rw [Fnd.cells_len]; omega)]; simp
    | succ i =>
      rw [List.getElem?_append_right (by rw [Fnd.cells_len]; omega), Fnd.cells_len, show (i + 1) * 5 + j - 5 = i * 5 + j by omega]
      simpa using ih i (by simpa using hi)

/-! ### An order of numbers -/
def cmpI (x y : Int) : Int := if x < y then -1 else if y < x then 1 else 0
theorem cmpI_lt (x y : Int) : cmpI x y < 0 ↔ x < y := by
  unfold cmpI
  split
  · simp; omega
  · split <;> simp <;> omega
def fallI (a b : Int) : Int := cmpI b a
/-- An order of blocks: by their numbers as nf says; blocks of the same writing by their block numbers. -/
def cmpF (nf : Int → Int → Int) (x y : Fnd) : Int := if (x.leb == y.leb && x.number == y.number) = true then cmpI x.block y.block else nf x.number y.number
/-- The first of the least among the first k + 1. -/
def minTo (nf : Int → Int → Int) (l : List Fnd) : Nat → Fnd
  | 0 => l[0]?.getD default
  | k + 1 => if cmpF nf (l[k + 1]?.getD default) (minTo nf l k) < 0 then l[k + 1]?.getD default else minTo nf l k
theorem minTo_yes {nf : Int → Int → Int} {l : List Fnd} {k : Nat} (h : cmpF nf (l[k + 1]?.getD default) (minTo nf l k) < 0) : minTo nf l (k + 1) = l[k + 1]?.getD default := by show (if _ then _ else _) = _; rw [if_pos h]
theorem minTo_no {nf : Int → Int → Int} {l : List Fnd} {k : Nat} (h : ¬ cmpF nf (l[k + 1]?.getD default) (minTo nf l k) < 0) : minTo nf l (k + 1) = minTo nf l k := by show (if _ then _ else _) = _; rw [if_neg h]
def standsL (l : List Fnd) : Int := if l = [] then -1 else (minTo fallI l (l.length - 1)).block
def isOf (j : Int) (f : Fnd) : Bool := f.whole && decide (f.leb = j)
def ofLeb (j : Int) (fs : List Fnd) : List Fnd := fs.filter (isOf j)
def pickL (n : Nat) (fs : List Fnd) : List Int := (List.range n).map fun j => standsL (ofLeb (j : Nat) fs)
/-- The greatest number among the first k + 1. -/
def mostNum (l : List Fnd) : Nat → Int
  | 0 => (l[0]?.getD default).number
  | k + 1 => max (mostNum l k) (l[k]?.getD default).number
def nextL (l : List Fnd) : Int := if l = [] then 1 else mostNum l l.length + 1

theorem mem_at (l : List Fnd) (k : Nat) (h : k < l.length) : l[k]?.getD default ∈ l := by rw [List.getElem?_eq_getElem h]; exact List.getElem_mem h
theorem mostNum_mem (l : List Fnd) (k : Nat) (h : k ≤ l.length) (h0 : 0 < l.length) : ∃ f ∈ l, mostNum l k = f.number := by
  induction k with
  | zero => exact ⟨_, mem_at l 0 h0, rfl⟩
  | succ k ih =>
    obtain ⟨f, hf, e⟩ := ih (by omega)
    show ∃ g ∈ l, max (mostNum l k) (l[k]?.getD default).number = g.number
    rw [e]
    rcases Int.le_total f.number (l[k]?.getD default).number with h1 | h1
    · exact ⟨_, mem_at l k (by omega), by omega⟩
    · exact ⟨f, hf, by omega⟩
theorem mostNum_ge (l : List Fnd) (k : Nat) : ∀ i, i < k → (l[i]?.getD default).number ≤ mostNum l k := by
  induction k with
  | zero => intro i hi; omega
  | succ k ih =>
    intro i hi
    show _ ≤ max (mostNum l k) (l[k]?.getD default).number
    rcases Nat.lt_or_ge i k with h | h
    · have := ih i h; omega
    · have : i = k := by omega
      subst this; omega
theorem minTo_mem (nf : Int → Int → Int) (l : List Fnd) (k : Nat) (h : k < l.length) : minTo nf l k ∈ l := by
  induction k with
  | zero => exact mem_at l 0 h
  | succ k ih =>
    by_cases hc : cmpF nf (l[k + 1]?.getD default) (minTo nf l k) < 0
    · rw [minTo_yes hc]; exact mem_at l (k + 1) h
    · rw [minTo_no hc]; exact ih (by omega)

/-! ### The one that stands -/
/-- x is to be picked rather than y. -/
def over (x y : Fnd) : Prop := y.number < x.number ∨ (x.number = y.number ∧ x.block < y.block)
theorem cmpF_over {x y : Fnd} (h : x.leb = y.leb) : cmpF fallI x y < 0 ↔ over x y := by
  unfold cmpF over fallI
  by_cases e : x.number = y.number
  · rw [if_pos (by simp [h, e]), cmpI_lt]
    omega
  · rw [if_neg (by simp [h, e]), cmpI_lt]
    omega
theorem minTo_best (l : List Fnd) (j : Int) (hl : ∀ f ∈ l, f.leb = j) (k : Nat) (hk : k < l.length) : ∀ i, i ≤ k → ¬ over (l[i]?.getD default) (minTo fallI l k) := by
  induction k with
  | zero => intro i hi; obtain rfl : i = 0 := by omega
            show ¬ over _ _; unfold over; simp only [minTo]; omega
  | succ k ih =>
    intro i hi
    have ih := ih (by omega)
    have h1 := hl _ (mem_at l (k + 1) hk)
    have h2 := hl _ (minTo_mem fallI l k (by omega))
    by_cases hc : cmpF fallI (l[k + 1]?.getD default) (minTo fallI l k) < 0
    · rw [minTo_yes hc]
      rw [cmpF_over (by rw [h1, h2])] at hc
      rcases Nat.lt_or_ge i (k + 1) with hh | hh
      · have := ih i (by omega)
        unfold over at *
        omega
      · obtain rfl : i = k + 1 := by omega
        unfold over; omega
    · rw [minTo_no hc]
      rw [cmpF_over (by rw [h1, h2])] at hc
      rcases Nat.lt_or_ge i (k + 1) with hh | hh
      · exact ih i (by omega)
      · obtain rfl : i = k + 1 := by omega
        exact hc
/-- v is the block that stands. -/
def StandsIs (l : List Fnd) (v : Int) : Prop := (l = [] ∧ v = -1) ∨ ∃ m ∈ l, v = m.block ∧ ∀ x ∈ l, ¬ over x m
theorem standsL_is (l : List Fnd) (j : Int) (hl : ∀ f ∈ l, f.leb = j) : StandsIs l (standsL l) := by
  unfold standsL
  by_cases h : l = []
  · rw [if_pos h]; exact .inl ⟨h, rfl⟩
  · rw [if_neg h]
    have h0 : 0 < l.length := by cases l with
      | nil => exact absurd rfl h
      | cons => simp
    refine .inr ⟨_, minTo_mem fallI l _ (by omega), rfl, fun x hx => ?_⟩
    obtain ⟨i, hi, rfl⟩ := List.mem_iff_getElem.1 hx
    have := minTo_best l j hl (l.length - 1) (by omega) i (by omega)
    rw [List.getElem?_eq_getElem hi] at this
    exact this
theorem stands_same {l l' : List Fnd} {v v' : Int} (h : ∀ x, x ∈ l ↔ x ∈ l') (h1 : StandsIs l v) (h2 : StandsIs l' v') : v = v' := by
  rcases h1 with ⟨rfl, rfl⟩ | ⟨m, hm, rfl, hb⟩
  · rcases h2 with ⟨_, rfl⟩ | ⟨m', hm', _⟩
    · rfl
    · exact absurd ((h m').2 hm') (by simp)
  · rcases h2 with ⟨rfl, _⟩ | ⟨m', hm', rfl, hb'⟩
    · exact absurd ((h m).1 hm) (by simp)
    · have := hb m' ((h m').2 hm')
      have := hb' m ((h m).1 hm)
      unfold over at *
      omega
theorem ofLeb_leb (j : Int) (fs : List Fnd) : ∀ f ∈ ofLeb j fs, f.leb = j := by
  intro f hf
  simp [ofLeb, isOf] at hf
  exact hf.2.2
theorem pickL_length (n : Nat) (fs : List Fnd) : (pickL n fs).length = n := by simp [pickL]
/-! ### In memory -/
/-- The cells from o on of the block b are what was found. -/
structure FAt (w : World) (b o : Nat) (f : Fnd) : Prop where
  c0 : w.cell? ⟨b, o, none⟩ = some (.int .i64 f.block)
  c1 : w.cell? ⟨b, o + 1, none⟩ = some (.int .i64 f.leb)
  c2 : w.cell? ⟨b, o + 2, none⟩ = some (.int .i64 f.bytes)
  c3 : w.cell? ⟨b, o + 3, none⟩ = some (.int .i64 f.number)
  c4 : w.cell? ⟨b, o + 4, none⟩ = some (.bool f.whole)
theorem FAt.same {w w' : World} {b o : Nat} {f : Fnd} (h : FAt w b o f) (hb : w'.heap[b]? = w.heap[b]?) : FAt w' b o f := by
  have e : ∀ i, w'.cell? ⟨b, i, none⟩ = w.cell? ⟨b, i, none⟩ := fun i => World.cell?_of_block (w := w) hb
  exact ⟨(e _).trans h.c0, (e _).trans h.c1, (e _).trans h.c2, (e _).trans h.c3, (e _).trans h.c4⟩
theorem FAt.lt {w : World} {b o : Nat} {f : Fnd} (h : FAt w b o f) : b < w.heap.size := lt_of_cell h.c0
theorem FAt.below {w w' : World} {b o B : Nat} {f : Fnd} (h : FAt w b o f) (q : Below B w w') (hB : w.heap.size ≤ B) : FAt w' b o f := h.same (q.block b (by have := h.lt; omega))
theorem fat_new (w : World) (T : TypeId) (f : Fnd) : FAt (w.alloc (.cells #[.int .i64 f.block, .int .i64 f.leb, .int .i64 f.bytes, .int .i64 f.number, .bool f.whole] T)) w.heap.size 0 f := by
  refine ⟨?_, ?_, ?_, ?_, ?_⟩ <;> (rw [World.cell?_alloc_at _ _ _ _ rfl]; rfl)
theorem FAt.of_cells {w : World} {b o : Nat} {f : Fnd} (h : ∀ j, j < 5 → w.cell? ⟨b, o + j, none⟩ = f.cells[j]?) : FAt w b o f :=
  ⟨h 0 (by omega), h 1 (by omega), h 2 (by omega), h 3 (by omega), h 4 (by omega)⟩
theorem FAt.cell {w : World} {b o : Nat} {f : Fnd} (h : FAt w b o f) (j : Nat) (hj : j < 5) : w.cell? ⟨b, o + j, none⟩ = f.cells[j]? := by
  have : j = 0 ∨ j = 1 ∨ j = 2 ∨ j = 3 ∨ j = 4 := by omega
  rcases this with rfl | rfl | rfl | rfl | rfl
  · exact h.c0
  · exact h.c1
  · exact h.c2
  · exact h.c3
  · exact h.c4
/-- The slice (a, len, cap) reads in w as what was found. -/
structure FRow (w : World) (a : Option Addr) (len cap : Nat) (fs : List Fnd) : Prop where
  hlen : fs.length = len
  hcap : len ≤ cap
  hmax : cap ≤ maxLen
  hnil : a = none → cap = 0
  hcell : 0 < len → ∃ b off, a = some ⟨b, off, none⟩ ∧ b < w.heap.size ∧ ∀ i, i < len → FAt w b (off + i * 5) (fs[i]?.getD default)
theorem FRow.below {w w' : World} {a : Option Addr} {len cap B : Nat} {fs : List Fnd} (h : FRow w a len cap fs) (q : Below B w w') (hB : w.heap.size ≤ B) : FRow w' a len cap fs := by
  refine ⟨h.hlen, h.hcap, h.hmax, h.hnil, fun h0 => ?_⟩
  obtain ⟨b, off, rfl, hb, hc⟩ := h.hcell h0
  exact ⟨b, off, rfl, by have := q.size; omega, fun i hi => (hc i hi).below q hB⟩
theorem frow_of_owns {e : TypeId} {w : World} {base : Nat} {v : Value} {n : Nat} {fs : List Fnd} (h : w.ownsRow base e 5 v n (fcells fs)) : ∃ a cap, v = .slice a n cap ∧ FRow w a n cap fs := by
  have hl : fs.length = n := by have := h.1; rw [fcells_len] at this; omega
  rcases h.2 with ⟨rfl, hn⟩ | ⟨g, cap, cur, rfl, hg, hh, hnc, hcm, hcs, htake⟩
  · subst hn
    exact ⟨none, 0, rfl, hl, Nat.le_refl _, Nat.zero_le _, fun _ => rfl, fun h0 => absurd h0 (by omega)⟩
  · refine ⟨_, cap, rfl, hl, hnc, hcm, by simp, fun h0 => ⟨g, 0, rfl, ?_, fun i hi => ?_⟩⟩
    · rcases Nat.lt_or_ge g w.heap.size with hh' | hh'
      · exact hh'
      · rw [Array.getElem?_eq_none hh'] at hh; simp at hh
    · refine FAt.of_cells fun j hj => ?_
      rw [Nat.zero_add, h.cellAt (i * 5 + j) (by omega), fcells_at fs i (by omega) j hj]
end Go.Proofs.YtgamakejaknagaaGreat

/-
  The code of layer 10 (attach), as it landed: cmp.Compare, rising, falling, writingOf, the order that 'by' makes, mayBe.
-/
namespace Go.Proofs.YtgamakejaknagaaGreat
open Go.RowKit
set_option linter.unusedVariables false
set_option maxRecDepth 8192

theorem isNaN_any (x : Int) (w : World) : Calls Tryz.prog 132 #[.int .i64 x] w fun e w' => e = .returned (.bool false) ∧ w = w' := by
  go_enter Tryz.func132, Tryz.ntmps132
  go_wp2
  go_ret
  exact ⟨ret_bool (by simp), rfl⟩
theorem compare_any (x y : Int) (w : World) : Calls Tryz.prog 117 #[.int .i64 x, .int .i64 y] w fun e w' => e = .returned (.int .i64 (cmpI x y)) ∧ w = w' := by
  by_cases h1 : x < y
  · have hc : Hid (cmpI x y = -1) := by show _ = _; unfold cmpI; rw [if_pos h1]
    go_enter Tryz.func117, Tryz.ntmps117
    go_wp2_with (go_at_call 132; refine (isNaN_any _ _).mono ?_; rintro e w' ⟨rfl, rfl⟩)
    go_ret
    exact ⟨ret_int hc.out.symm, rfl⟩
  · by_cases h2 : y < x
    · have hc : Hid (cmpI x y = 1) := by show _ = _; unfold cmpI; rw [if_neg h1, if_pos h2]
      go_enter Tryz.func117, Tryz.ntmps117
      go_wp2_with (go_at_call 132; refine (isNaN_any _ _).mono ?_; rintro e w' ⟨rfl, rfl⟩)
      go_ret
      exact ⟨ret_int hc.out.symm, rfl⟩
    · have hc : Hid (cmpI x y = 0) := by show _ = _; unfold cmpI; rw [if_neg h1, if_neg h2]
      go_enter Tryz.func117, Tryz.ntmps117
      go_wp2_with (go_at_call 132; refine (isNaN_any _ _).mono ?_; rintro e w' ⟨rfl, rfl⟩)
      go_ret
      exact ⟨ret_int hc.out.symm, rfl⟩
theorem rising_any (x y : Int) (w : World) : Calls Tryz.prog 91 #[.int .i64 x, .int .i64 y] w fun e w' => e = .returned (.int .i64 (cmpI x y)) ∧ w = w' := by
  go_enter Tryz.func91, Tryz.ntmps91
  go_wp2_with fail
  refine (compare_any _ _ _).mono ?_
  rintro e w' ⟨rfl, rfl⟩
  go_wp2_with fail
  go_ret
  exact ⟨rfl, rfl⟩
theorem falling_any (x y : Int) (w : World) : Calls Tryz.prog 85 #[.int .i64 x, .int .i64 y] w fun e w' => e = .returned (.int .i64 (fallI x y)) ∧ w = w' := by
  go_enter Tryz.func85, Tryz.ntmps85
  go_wp2_with fail
  refine (compare_any _ _ _).mono ?_
  rintro e w' ⟨rfl, rfl⟩
  go_wp2_with fail
  go_ret
  exact ⟨rfl, rfl⟩
def lebsB (n : Int) : Bool := decide (1 ≤ n ∧ n ≤ 64)
theorem attMayBe_any (n : Int) (w : World) : Calls Tryz.prog 50 #[.int .i64 n] w fun e w' => e = .returned (.bool (lebsB n)) ∧ w = w' := by
  by_cases h : 1 ≤ n
  · go_enter Tryz.func50, Tryz.ntmps50
    go_wp2
    go_ret
    exact ⟨ret_bool (by unfold lebsB; simp [h]), rfl⟩
  · go_enter Tryz.func50, Tryz.ntmps50
    go_wp2
    go_ret
    exact ⟨ret_bool (by unfold lebsB; symm; rw [decide_eq_false_iff_not]; omega), rfl⟩
theorem writingOf_any (f : Fnd) (w : World) : Calls Tryz.prog 116 #[.agg #[.int .i64 f.block, .int .i64 f.leb, .int .i64 f.bytes, .int .i64 f.number, .bool f.whole]] w fun e w' => e = .returned (.agg #[.int .i64 f.leb, .int .i64 f.number]) ∧ Below w.heap.size w w' := by
  go_enter Tryz.func116, Tryz.ntmps116
  go_wp2_with fail
  refine bodyPost_ret (v := .agg #[.int .i64 f.leb, .int .i64 f.number]) (by simp [results, Tryz.results116, go_sem]) rfl ?_
  exact ⟨rfl, below_two _ _ _⟩
set_option maxHeartbeats 1600000 in
/-- The order that 'by' makes of an order of numbers. -/
theorem by1_any (nf : Int → Int → Int) (fn : Nat) (hbody : ∀ args w, Sem.run Tryz.prog (callFunc fn args) w = .ok (.enter fn args) w)
    (hcall : ∀ (a b : Int) (w : World), Calls Tryz.prog fn #[.int .i64 a, .int .i64 b] w fun e w' => e = .returned (.int .i64 (nf a b)) ∧ w = w')
    (x y : Fnd) (bx : Nat) (w : World) (hb : w.cell? ⟨bx, 0, none⟩ = some (.func (.func fn) #[] #[])) :
    Calls Tryz.prog 115 #[.agg #[.int .i64 x.block, .int .i64 x.leb, .int .i64 x.bytes, .int .i64 x.number, .bool x.whole], .agg #[.int .i64 y.block, .int .i64 y.leb, .int .i64 y.bytes, .int .i64 y.number, .bool y.whole], .pointer (some ⟨bx, 0, none⟩)] w fun e w' => e = .returned (.int .i64 (cmpF nf x y)) ∧ Below w.heap.size w w' := by
  have hbl := lt_of_cell hb
  simp only at hbl
  go_enter Tryz.func115, Tryz.ntmps115
  go_wp2_with fail
  have q1 := below_two w (.cells #[.int .i64 x.block, .int .i64 x.leb, .int .i64 x.bytes, .int .i64 x.number, .bool x.whole] 103) (.cells #[.int .i64 y.block, .int .i64 y.leb, .int .i64 y.bytes, .int .i64 y.number, .bool y.whole] 103)
  have fx := (fat_new w 103 x).below (below_one _ (.cells #[.int .i64 y.block, .int .i64 y.leb, .int .i64 y.bytes, .int .i64 y.number, .bool y.whole] 103)) (Nat.le_refl _)
  have fy := fat_new (w.alloc (.cells #[.int .i64 x.block, .int .i64 x.leb, .int .i64 x.bytes, .int .i64 x.number, .bool x.whole] 103)) 103 y
  rw [show (w.alloc (.cells #[.int .i64 x.block, .int .i64 x.leb, .int .i64 x.bytes, .int .i64 x.number, .bool x.whole] 103)).heap.size = w.heap.size + 1 by simp] at fy
  have hb2 := (q1.cell (p := ⟨bx, 0, none⟩) hbl).trans hb
  generalize ((w.alloc (.cells #[.int .i64 x.block, .int .i64 x.leb, .int .i64 x.bytes, .int .i64 x.number, .bool x.whole] 103)).alloc (.cells #[.int .i64 y.block, .int .i64 y.leb, .int .i64 y.bytes, .int .i64 y.number, .bool y.whole] 103)) = w1 at *
  have hbl2 := lt_of_cell hb2
  simp only at hbl2
  clear hb hbl
  refine held_begin (by kernel_rfl) ?_
  refine held_reads (rs := [0, 2]) (fuel := 3) (by kernel_rfl) (fun c d v a w h => by cases d <;> exact h) (by kernel_rfl) (Since.drew _) (fun K hK => ?_)
  refine calm_do (.agg #[.int .i64 x.block, .int .i64 x.leb, .int .i64 x.bytes, .int .i64 x.number, .bool x.whole]) rfl (by rfl) (fun w' hw' => ?_) ?_
  · obtain ⟨c0, c1, c2, c3, c4⟩ := fx.below hw' (Nat.le_refl _)
    go_simp
  go_simp
  refine calm_do (.agg #[.int .i64 y.block, .int .i64 y.leb, .int .i64 y.bytes, .int .i64 y.number, .bool y.whole]) rfl (by rfl) (fun w' hw' => ?_) ?_
  · obtain ⟨c0, c1, c2, c3, c4⟩ := fy.below hw' (Nat.le_refl _)
    go_simp
  go_simp
  refine calm_nil (hK.out _ ?_)
  clear hK K
  refine held_call (i := 1) (fuel := 2) (by kernel_rfl) rfl (by rfl) (fun K hK => ?_)
  go_simp
  refine (writingOf_any x _).mono ?_
  rintro e w3 ⟨rfl, qq0⟩
  have qd : Since w1 w3 := Since.trans (Since.drew _) qq0
  refine hK _ _ qd ?_
  clear hK K qq0
  replace fx := fx.below qd (Nat.le_refl _)
  replace fy := fy.below qd (Nat.le_refl _)
  replace hb2 := (qd.cell (p := ⟨bx, 0, none⟩) hbl2).trans hb2
  replace hbl2 := Nat.lt_of_lt_of_le hbl2 qd.size
  replace q1 := btrans q1 qd
  clear qd
  refine held_call (i := 3) (fuel := 1) (by kernel_rfl) rfl (by rfl) (fun K hK => ?_)
  go_simp
  refine (writingOf_any y _).mono ?_
  rintro e w4 ⟨rfl, qq0⟩
  have qd : Since w3 w4 := qq0
  refine hK _ _ qd ?_
  clear hK K qq0
  replace fx := fx.below qd (Nat.le_refl _)
  replace fy := fy.below qd (Nat.le_refl _)
  replace hb2 := (qd.cell (p := ⟨bx, 0, none⟩) hbl2).trans hb2
  replace q1 := btrans q1 qd
  clear qd hbl2
  refine held_reads (rs := [4]) (fuel := 0) (by kernel_rfl) (fun c d v a w h => by cases d <;> exact h) (by kernel_rfl) (Since.refl _) (fun K hK => ?_)
  go_simp
  refine calm_do (.bool (x.leb == y.leb && x.number == y.number)) rfl (by rfl) (fun w' hw' => ?_) ?_
  · go_simp
    by_cases h1 : x.leb = y.leb <;> by_cases h2 : x.number = y.number <;> simp [h1, h2]
  go_simp
  refine calm_nil (hK.out _ ?_)
  clear hK K
  refine wpAnyH_done (by kernel_rfl) ?_ _
  obtain ⟨x0, x1, x2, x3, x4⟩ := fx
  obtain ⟨y0, y1, y2, y3, y4⟩ := fy
  cases hs : (x.leb == y.leb && x.number == y.number)
  · have HC : Hid (cmpF nf x y = nf x.number y.number) := by show _ = _; unfold cmpF; rw [if_neg (by rw [hs]; simp)]
    go_wp2_with fail
    refine (hcall _ _ _).mono ?_
    rintro e w' ⟨rfl, rfl⟩
    go_wp2_with fail
    go_ret
    exact ⟨ret_int HC.out.symm, q1⟩
  · have HC : Hid (cmpF nf x y = cmpI x.block y.block) := by show _ = _; unfold cmpF; rw [if_pos hs]
    go_wp2_with fail
    refine (compare_any _ _ _).mono ?_
    rintro e w' ⟨rfl, rfl⟩
    go_wp2_with fail
    go_ret
    exact ⟨ret_int HC.out.symm, q1⟩
end Go.Proofs.YtgamakejaknagaaGreat

/-
  The code of layer 10 (attach), as it landed: slices.MinFunc over found blocks; by; stands; next.
-/
namespace Go.Proofs.YtgamakejaknagaaGreat
open Go.RowKit
set_option linter.unusedVariables false
set_option maxRecDepth 8192

/-- The block g is a box that holds what was found. -/
def BoxIs (w : World) (g : Nat) (T : TypeId) (f : Fnd) : Prop := w.heap[g]? = some (.cells #[.int .i64 f.block, .int .i64 f.leb, .int .i64 f.bytes, .int .i64 f.number, .bool f.whole] T (0, 0))
theorem boxIs_new (w : World) (T : TypeId) (f : Fnd) : BoxIs (w.alloc (.cells #[.int .i64 f.block, .int .i64 f.leb, .int .i64 f.bytes, .int .i64 f.number, .bool f.whole] T)) w.heap.size T f := heap_alloc_new w _
theorem BoxIs.lt {w : World} {g : Nat} {T : TypeId} {f : Fnd} (h : BoxIs w g T f) : g < w.heap.size := by
  rcases Nat.lt_or_ge g w.heap.size with h' | h'
  · exact h'
  · unfold BoxIs at h; rw [Array.getElem?_eq_none h'] at h; simp at h
theorem BoxIs.below {w w' : World} {g B : Nat} {T : TypeId} {f : Fnd} (h : BoxIs w g T f) (q : Below B w w') (hB : w.heap.size ≤ B) : BoxIs w' g T f := by
  have := h.lt
  unfold BoxIs
  rw [q.block g (by omega)]; exact h
theorem BoxIs.fat {w : World} {g : Nat} {T : TypeId} {f : Fnd} (h : BoxIs w g T f) : FAt w g 0 f := by
  unfold BoxIs at h
  refine ⟨?_, ?_, ?_, ?_, ?_⟩ <;> simp [World.cell?, h]
theorem BoxIs.soft {w : World} {g : Nat} {T : TypeId} {f : Fnd} (h : BoxIs w g T f) : w.frozen? ⟨g, 0, none⟩ = false ∧ w.frozen? ⟨g, 1, none⟩ = false ∧ w.frozen? ⟨g, 2, none⟩ = false ∧ w.frozen? ⟨g, 3, none⟩ = false ∧ w.frozen? ⟨g, 4, none⟩ = false := by
  unfold BoxIs at h
  refine ⟨?_, ?_, ?_, ?_, ?_⟩ <;> simp [World.frozen?, h]
theorem setCell_block {w : World} {g : Nat} {cs : Array Value} {T : TypeId} {fr : Nat × Nat} (h : w.heap[g]? = some (.cells cs T fr)) (i : Nat) (v : Value) : (w.setCell ⟨g, i, none⟩ v).heap[g]? = some (.cells (cs.setIfInBounds i v) T fr) := by
  rw [setCell_eq_setRow w g i cs T fr v h]
  exact setRow_heap w g _ _ T _ h
/-- Another one is stored into a box. -/
theorem BoxIs.store {w : World} {g : Nat} {T : TypeId} {f : Fnd} (h : BoxIs w g T f) (k : Fnd) : BoxIs (((((w.setCell ⟨g, 0, none⟩ (.int .i64 k.block)).setCell ⟨g, 1, none⟩ (.int .i64 k.leb)).setCell ⟨g, 2, none⟩ (.int .i64 k.bytes)).setCell ⟨g, 3, none⟩ (.int .i64 k.number)).setCell ⟨g, 4, none⟩ (.bool k.whole)) g T k := by
  have := setCell_block (setCell_block (setCell_block (setCell_block (setCell_block h 0 (.int .i64 k.block)) 1 (.int .i64 k.leb)) 2 (.int .i64 k.bytes)) 3 (.int .i64 k.number)) 4 (.bool k.whole)
  simpa [BoxIs] using this
theorem below_store {B g : Nat} {w wr : World} (q : Below B w wr) (hB : B ≤ g) (a b c d e : Value) : Below B w (((((wr.setCell ⟨g, 0, none⟩ a).setCell ⟨g, 1, none⟩ b).setCell ⟨g, 2, none⟩ c).setCell ⟨g, 3, none⟩ d).setCell ⟨g, 4, none⟩ e) :=
  ((((q.setCell hB a).setCell hB b).setCell hB c).setCell hB d).setCell hB e
theorem BoxIs.other {w : World} {g h : Nat} {T : TypeId} {f : Fnd} (hb : BoxIs w h T f) (hne : h ≠ g) (a b c d e : Value) : BoxIs (((((w.setCell ⟨g, 0, none⟩ a).setCell ⟨g, 1, none⟩ b).setCell ⟨g, 2, none⟩ c).setCell ⟨g, 3, none⟩ d).setCell ⟨g, 4, none⟩ e) h T f := by
  have e1 : ∀ (w : World) (i : Nat) (v : Value), (w.setCell ⟨g, i, none⟩ v).heap[h]? = w.heap[h]? := fun w i v => Below.heap_setCell w ⟨g, i, none⟩ v h hne
  unfold BoxIs
  rw [e1, e1, e1, e1, e1]; exact hb
set_option maxHeartbeats 3200000 in
theorem minFunc_any (nf : Int → Int → Int) (fn : Nat) (hbody : ∀ args w, Sem.run Tryz.prog (callFunc fn args) w = .ok (.enter fn args) w)
    (hcall : ∀ (a b : Int) (w : World), Calls Tryz.prog fn #[.int .i64 a, .int .i64 b] w fun e w' => e = .returned (.int .i64 (nf a b)) ∧ w = w')
    (bx : Nat) (a : Option Addr) (len cap : Nat) (fs : List Fnd) (w : World) (hb : w.cell? ⟨bx, 0, none⟩ = some (.func (.func fn) #[] #[])) (hr : FRow w a len cap fs) (h0 : 0 < len) :
    Calls Tryz.prog 83 #[.slice a len cap, .func (.func 115) #[] #[.pointer (some ⟨bx, 0, none⟩)]] w
      fun e w' => e = .returned (.agg #[.int .i64 (minTo nf fs (len - 1)).block, .int .i64 (minTo nf fs (len - 1)).leb, .int .i64 (minTo nf fs (len - 1)).bytes, .int .i64 (minTo nf fs (len - 1)).number, .bool (minTo nf fs (len - 1)).whole]) ∧ Below w.heap.size w w' := by
  have hm := hr.hmax
  have hcp := hr.hcap
  unfold maxLen at hm
  have hbl := lt_of_cell hb
  simp only at hbl
  obtain ⟨b, off, rfl, hb0, hc⟩ := hr.hcell h0
  have HC : Hid (∀ i, i < len → FAt w b (off + i * 5) (fs[i]?.getD default)) := hc
  obtain ⟨c0, c1, c2, c3, c4⟩ := hc 0 h0
  rw [Nat.zero_mul, Nat.add_zero] at c0 c1 c2 c3 c4
  have H0 : Hid (fs[0]?.getD default = minTo nf fs 0) := rfl
  have h1 : ¬ (len : Int) < 1 := by omega
  have h2 : (0 : Int) < (len : Int) := by omega
  clear hc hr
  generalize fs[0]?.getD default = f0 at *
  go_enter Tryz.func83, Tryz.ntmps83
  go_wp2_with fail
  have B4 := (boxIs_new w 103 ⟨0, 0, 0, 0, false⟩).below (below_one _ (.cells #[.int .i64 f0.block, .int .i64 f0.leb, .int .i64 f0.bytes, .int .i64 f0.number, .bool f0.whole] 103)) (Nat.le_refl _)
  have B5 := boxIs_new (w.alloc (.cells #[.int .i64 0, .int .i64 0, .int .i64 0, .int .i64 0, .bool false] 103)) 103 f0
  have Q1 := below_two w (.cells #[.int .i64 0, .int .i64 0, .int .i64 0, .int .i64 0, .bool false] 103) (.cells #[.int .i64 f0.block, .int .i64 f0.leb, .int .i64 f0.bytes, .int .i64 f0.number, .bool f0.whole] 103)
  rw [show (w.alloc (.cells #[.int .i64 0, .int .i64 0, .int .i64 0, .int .i64 0, .bool false] 103)).heap.size = w.heap.size + 1 by simp] at B5
  simp only at B4 B5
  have hne : w.heap.size ≠ w.heap.size + 1 := by omega
  have hg5 : w.heap.size ≤ w.heap.size + 1 := by omega
  generalize ((w.alloc (.cells #[.int .i64 0, .int .i64 0, .int .i64 0, .int .i64 0, .bool false] 103)).alloc (.cells #[.int .i64 f0.block, .int .i64 f0.leb, .int .i64 f0.bytes, .int .i64 f0.number, .bool f0.whole] 103)) = w2 at *
  generalize w.heap.size + 1 = g5 at *
  generalize hg4 : w.heap.size = g4 at *
  go_loopw [6] (fun i wr => ∃ k : Nat, 1 ≤ k ∧ k ≤ len ∧ i = .int .i64 (k : Int) ∧ Hid (BoxIs wr g5 103 (minTo nf fs (k - 1))) ∧ Hid (BoxIs wr g4 103 ⟨0, 0, 0, 0, false⟩) ∧ Hid (Below g4 w wr)) (fun i _ => len - (RowKit.intOf i).toNat)
  case atStart => exact ⟨1, by omega, by omega, rfl, by show BoxIs _ _ _ _; rw [← H0.out]; exact B5, B4, Q1⟩
  case round =>
    clear B4 B5 Q1 c0 c1 c2 c3 c4 H0
    obtain ⟨k, hk1, hk2, rfl, B5, B4, Q⟩ := hrel
    by_cases hlt : k < len
    · have hlt' : (k : Int) < (len : Int) := by omega
      have HX := (HC.out k hlt).below Q.out (by omega)
      have hbr := (Q.out.cell (p := ⟨bx, 0, none⟩) (by show bx < g4; omega)).trans hb
      have HM1 : Hid (cmpF nf (fs[k]?.getD default) (minTo nf fs (k - 1)) < 0 → minTo nf fs (k + 1 - 1) = fs[k]?.getD default) := fun h => by
        obtain ⟨t, rfl⟩ : ∃ t, k = t + 1 := ⟨k - 1, by omega⟩
        exact minTo_yes h
      have HM2 : Hid (¬ cmpF nf (fs[k]?.getD default) (minTo nf fs (k - 1)) < 0 → minTo nf fs (k + 1 - 1) = minTo nf fs (k - 1)) := fun h => by
        obtain ⟨t, rfl⟩ : ∃ t, k = t + 1 := ⟨k - 1, by omega⟩
        exact minTo_no h
      obtain ⟨m2, HE0⟩ : ∃ m2, minTo nf fs (k + 1 - 1) = m2 := ⟨_, rfl⟩
      have HE : Hid (minTo nf fs (k + 1 - 1) = m2) := HE0
      rw [HE0] at HM1 HM2
      clear HE0
      generalize minTo nf fs (k - 1) = m at *
      generalize fs[k]?.getD default = x at *
      go_wp2_with fail
      refine held_begin (by kernel_rfl) ?_
      refine held_reads (rs := [0, 1, 2, 3, 4, 5]) (fuel := 2) (by kernel_rfl) (fun c d v a w h => by cases d <;> exact h) (by kernel_rfl) (Since.drew _) (fun K hK => ?_)
      refine calm_move _ rfl (by rfl) rfl ?_
      go_simp
      refine calm_move _ rfl (by rfl) rfl ?_
      go_simp
      refine calm_move _ rfl (by rfl) rfl ?_
      go_simp
      refine calm_do (.pointer (some ⟨b, off + k * 5, none⟩)) rfl (by rfl) (fun w' hw' => ?_) ?_
      · go_simp
      go_simp
      refine calm_do (.agg #[.int .i64 x.block, .int .i64 x.leb, .int .i64 x.bytes, .int .i64 x.number, .bool x.whole]) rfl (by rfl) (fun w' hw' => ?_) ?_
      · obtain ⟨c0, c1, c2, c3, c4⟩ := HX.below hw' (Nat.le_refl _)
        go_simp
      go_simp
      refine calm_do (.agg #[.int .i64 m.block, .int .i64 m.leb, .int .i64 m.bytes, .int .i64 m.number, .bool m.whole]) rfl (by rfl) (fun w' hw' => ?_) ?_
      · obtain ⟨c0, c1, c2, c3, c4⟩ := B5.out.fat.below hw' (Nat.le_refl _)
        go_simp
      go_simp
      refine calm_nil (hK.out _ ?_)
      clear hK K
      refine held_call (i := 6) (fuel := 1) (by kernel_rfl) rfl (by rfl) (fun K hK => ?_)
      go_simp
      refine (by1_any nf fn hbody hcall x m bx wr.drew hbr).mono ?_
      rintro e w3 ⟨rfl, qq0⟩
      have qd : Since _ w3 := Since.trans (Since.drew _) qq0
      refine hK _ _ qd ?_
      clear hK K qq0
      have B5' : Hid (BoxIs w3 g5 103 m) := B5.out.below qd (Nat.le_refl _)
      have B4' : Hid (BoxIs w3 g4 103 ⟨0, 0, 0, 0, false⟩) := B4.out.below qd (Nat.le_refl _)
      have Q' : Hid (Below g4 w w3) := Q.out.trans (qd.mono (by have := Q.out.size; omega))
      replace HX := HX.below qd (Nat.le_refl _)
      clear B5 B4 Q hbr qd
      refine held_reads (rs := [7]) (fuel := 0) (by kernel_rfl) (fun c d v a w h => by cases d <;> exact h) (by kernel_rfl) (Since.refl _) (fun K hK => ?_)
      go_simp
      refine calm_do (.bool (decide (cmpF nf x m < 0))) rfl (by rfl) (fun w' hw' => ?_) ?_
      · go_simp
      go_simp
      refine calm_nil (hK.out _ ?_)
      clear hK K
      refine wpAnyH_done (by kernel_rfl) ?_ _
      cases hcm : decide (cmpF nf x m < 0)
      · have hm2 := HM2.out (by simpa using hcm)
        subst hm2
        clear hcm HM1 HM2
        go_wp2_with fail
        go_roundw
        case rel => exact ⟨k + 1, by omega, by omega, by go_num, by show BoxIs _ _ _ _; rw [HE.out]; exact B5'.out, B4', Q'⟩
        case measure => simp [RowKit.intOf]; omega
      · have hm2 := HM1.out (by simpa using hcm)
        subst hm2
        clear hcm HM1 HM2
        obtain ⟨c0, c1, c2, c3, c4⟩ := HX
        obtain ⟨d0, d1, d2, d3, d4⟩ := B5'.out.fat
        obtain ⟨f0, f1, f2, f3, f4⟩ := B5'.out.soft
        go_wp2_with fail
        go_roundw
        case rel => exact ⟨k + 1, by omega, by omega, by go_num, by show BoxIs _ _ _ _; rw [HE.out]; exact B5'.out.store _, B4'.out.other hne _ _ _ _ _, below_store Q'.out hg5 _ _ _ _ _⟩
        case measure => simp [RowKit.intOf]; omega
    · obtain rfl : k = len := by omega
      obtain ⟨c0, c1, c2, c3, c4⟩ := B5.out.fat
      obtain ⟨d0, d1, d2, d3, d4⟩ := B4.out.fat
      obtain ⟨f0, f1, f2, f3, f4⟩ := B4.out.soft
      obtain ⟨m, HE0⟩ : ∃ m, minTo nf fs (k - 1) = m := ⟨_, rfl⟩
      have HE : Hid (minTo nf fs (k - 1) = m) := HE0
      rw [HE0] at B5 c0 c1 c2 c3 c4
      clear HE0
      have HB : Hid (BoxIs _ g4 103 m) := B4.out.store m
      have HQ : Hid _ := below_store Q.out (Nat.le_refl g4) (.int .i64 m.block) (.int .i64 m.leb) (.int .i64 m.bytes) (.int .i64 m.number) (.bool m.whole)
      go_wp2_with fail
      generalize (((((wr.setCell ⟨g4, 0, none⟩ (.int .i64 m.block)).setCell ⟨g4, 1, none⟩ (.int .i64 m.leb)).setCell ⟨g4, 2, none⟩ (.int .i64 m.bytes)).setCell ⟨g4, 3, none⟩ (.int .i64 m.number)).setCell ⟨g4, 4, none⟩ (.bool m.whole)) = wf at *
      clear c0 c1 c2 c3 c4 d0 d1 d2 d3 d4 f0 f1 f2 f3 f4
      obtain ⟨c0, c1, c2, c3, c4⟩ := HB.out.fat
      refine bodyPost_ret (v := .agg #[.int .i64 m.block, .int .i64 m.leb, .int .i64 m.bytes, .int .i64 m.number, .bool m.whole]) ?_ rfl ?_
      · simp [results, Tryz.results83, go_sem, c0, c1, c2, c3, c4]
      · exact ⟨by rw [HE.out], HQ.out⟩
theorem Tryz.makeF10 (fn : Fn) (first cap : Array Value) (w : World) : (Instr.makeFunc fn first cap).run Tryz.prog w = .ok (.func fn first cap) w := rfl
theorem by_any (fn : Nat) (w : World) : Calls Tryz.prog 84 #[.func (.func fn) #[] #[]] w fun e w' => e = .returned (.func (.func 115) #[] #[.pointer (some ⟨w.heap.size, 0, none⟩)]) ∧ Below w.heap.size w w' ∧ w'.cell? ⟨w.heap.size, 0, none⟩ = some (.func (.func fn) #[] #[]) := by
  have hmf := Tryz.makeF10
  go_enter Tryz.func84, Tryz.ntmps84
  go_wp2_with fail
  go_ret
  exact ⟨rfl, below_one _ _, by rw [World.cell?_alloc_at _ _ _ _ rfl]; rfl⟩
theorem fndField0 (f : Fnd) (w : World) : (Instr.field 103 (.agg #[.int .i64 f.block, .int .i64 f.leb, .int .i64 f.bytes, .int .i64 f.number, .bool f.whole]) 0).run Tryz.prog w = .ok (.int .i64 f.block) w := by rfl
theorem stands_any (a : Option Addr) (len cap : Nat) (fs : List Fnd) (w : World) (hr : FRow w a len cap fs) : Calls Tryz.prog 52 #[.slice a len cap] w fun e w' => e = .returned (.int .i64 (standsL fs)) ∧ Below w.heap.size w w' := by
  have hl := hr.hlen
  by_cases h0 : len = 0
  · subst h0
    obtain rfl : fs = [] := List.eq_nil_of_length_eq_zero hl
    clear hr
    go_enter Tryz.func52, Tryz.ntmps52
    go_wp2_with fail
    go_ret
    exact ⟨rfl, Below.refl _ _⟩
  · have hz : ((len : Int) == 0) = false := by simp; omega
    have hz2 : ¬ (len : Int) = 0 := by omega
    have HS : Hid ((minTo fallI fs (len - 1)).block = standsL fs) := by
      show _ = _
      unfold standsL
      rw [if_neg (by intro e; rw [e] at hl; simp at hl; omega), hl]
    go_enter Tryz.func52, Tryz.ntmps52
    go_wp2_with fail
    refine (by_any 85 _).mono ?_
    rintro e w1 ⟨rfl, q1, hb⟩
    go_wp2_with fail
    refine (minFunc_any fallI 85 (fun _ _ => rfl) falling_any _ a len cap fs _ hb (hr.below q1 (Nat.le_refl _)) (by omega)).mono ?_
    rintro e w2 ⟨rfl, q2⟩
    have hf0 := fndField0 (minTo fallI fs (len - 1)) w2
    go_wp2_with fail
    go_ret
    exact ⟨ret_int HS.out, btrans q1 q2⟩
end Go.Proofs.YtgamakejaknagaaGreat
