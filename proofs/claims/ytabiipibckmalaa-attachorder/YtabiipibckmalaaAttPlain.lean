/-
  Layer 10, plain: what was found in a block; which one stands for a logical block; how found blocks lie in memory.
-/
import Derived.Test.YtabiipibckmalaaBase
namespace Go.Proofs.Ytabiipibckmalaa
open Go.RowKit
set_option linter.unusedVariables false
set_option maxRecDepth 8192

/-- What was found in a block. -/
structure Fnd where
  block : Int
  leb : Int
  bytes : Int
  number : Int
  whole : Bool
instance : Inhabited Fnd := ⟨⟨0, 0, 0, 0, false⟩⟩
def Fnd.cells (f : Fnd) : List Value := [.int .i64 f.block, .int .i64 f.leb, .int .i64 f.bytes, .int .i64 f.number, .bool f.whole]
theorem Fnd.cells_len (f : Fnd) : f.cells.length = 5 := rfl
theorem Fnd.cells_one (f : Fnd) : ∀ u ∈ f.cells, u.oneCell' = true := by
  intro u hu
  simp [Fnd.cells] at hu
  rcases hu with rfl | rfl | rfl | rfl | rfl <;> rfl
def fcells (fs : List Fnd) : List Value := fs.flatMap Fnd.cells
theorem fcells_len (fs : List Fnd) : (fcells fs).length = fs.length * 5 := by
  induction fs with
  | nil => rfl
  | cons f fs ih => simp only [fcells, List.flatMap_cons, List.length_append, Fnd.cells_len, List.length_cons] at *; omega
theorem fcells_one (fs : List Fnd) : ∀ u ∈ fcells fs, u.oneCell' = true := by
  intro u hu
  unfold fcells at hu
  rw [List.mem_flatMap] at hu
  obtain ⟨f, _, h⟩ := hu
  exact f.cells_one u h
theorem fcells_append (a b : List Fnd) : fcells (a ++ b) = fcells a ++ fcells b := by simp [fcells]
theorem fcells_at (fs : List Fnd) (i : Nat) (hi : i < fs.length) (j : Nat) (hj : j < 5) : (fcells fs)[i * 5 + j]? = (fs[i]?.getD default).cells[j]? := by
  induction fs generalizing i with
  | nil => simp at hi
  | cons f fs ih =>
    show (f.cells ++ fcells fs)[i * 5 + j]? = _
    cases i with
    | zero => rw [List.getElem?_append_left (by rw [Fnd.cells_len]; omega)]; simp
    | succ i =>
      rw [List.getElem?_append_right (by rw [Fnd.cells_len]; omega), Fnd.cells_len, show (i + 1) * 5 + j - 5 = i * 5 + j by omega]
      simpa using ih i (by simpa using hi)

/-! ### An order of numbers -/
def cmpI (x y : Int) : Int := if x < y then -1 else if y < x then 1 else 0
theorem cmpI_lt (x y : Int) : cmpI x y < 0 ↔ x < y := by
  unfold cmpI
  split
  · simp; omega
  · split <;> simp <;> omega
def fallI (a b : Int) : Int := cmpI b a
/-- An order of blocks: by their numbers as nf says; blocks of the same writing by their block numbers. -/
def cmpF (nf : Int → Int → Int) (x y : Fnd) : Int := if (x.leb == y.leb && x.number == y.number) = true then cmpI x.block y.block else nf x.number y.number
/-- The first of the least among the first k + 1. -/
def minTo (nf : Int → Int → Int) (l : List Fnd) : Nat → Fnd
  | 0 => l[0]?.getD default
  | k + 1 => if cmpF nf (l[k + 1]?.getD default) (minTo nf l k) < 0 then l[k + 1]?.getD default else minTo nf l k
theorem minTo_yes {nf : Int → Int → Int} {l : List Fnd} {k : Nat} (h : cmpF nf (l[k + 1]?.getD default) (minTo nf l k) < 0) : minTo nf l (k + 1) = l[k + 1]?.getD default := by show (if _ then _ else _) = _; rw [if_pos h]
theorem minTo_no {nf : Int → Int → Int} {l : List Fnd} {k : Nat} (h : ¬ cmpF nf (l[k + 1]?.getD default) (minTo nf l k) < 0) : minTo nf l (k + 1) = minTo nf l k := by show (if _ then _ else _) = _; rw [if_neg h]
def standsL (l : List Fnd) : Int := if l = [] then -1 else (minTo fallI l (l.length - 1)).block
theorem standsL_nil : standsL [] = -1 := rfl
def isOf (j : Int) (f : Fnd) : Bool := f.whole && decide (f.leb = j)
def ofLeb (j : Int) (fs : List Fnd) : List Fnd := fs.filter (isOf j)
def pickL (n : Nat) (fs : List Fnd) : List Int := (List.range n).map fun j => standsL (ofLeb (j : Nat) fs)
/-- The greatest number among the first k + 1. -/
def mostTo (l : List Fnd) : Nat → Int
  | 0 => (l[0]?.getD default).number
  | k + 1 => max (mostTo l k) (l[k]?.getD default).number
def nextL (l : List Fnd) : Int := if l = [] then 1 else mostTo l l.length + 1

theorem mem_at (l : List Fnd) (k : Nat) (h : k < l.length) : l[k]?.getD default ∈ l := by rw [List.getElem?_eq_getElem h]; exact List.getElem_mem h
theorem mostTo_mem (l : List Fnd) (k : Nat) (h : k ≤ l.length) (h0 : 0 < l.length) : ∃ f ∈ l, mostTo l k = f.number := by
  induction k with
  | zero => exact ⟨_, mem_at l 0 h0, rfl⟩
  | succ k ih =>
    obtain ⟨f, hf, e⟩ := ih (by omega)
    show ∃ g ∈ l, max (mostTo l k) (l[k]?.getD default).number = g.number
    rw [e]
    rcases Int.le_total f.number (l[k]?.getD default).number with h1 | h1
    · exact ⟨_, mem_at l k (by omega), by omega⟩
    · exact ⟨f, hf, by omega⟩
theorem mostTo_ge (l : List Fnd) (k : Nat) : ∀ i, i < k → (l[i]?.getD default).number ≤ mostTo l k := by
  induction k with
  | zero => intro i hi; omega
  | succ k ih =>
    intro i hi
    show _ ≤ max (mostTo l k) (l[k]?.getD default).number
    rcases Nat.lt_or_ge i k with h | h
    · have := ih i h; omega
    · have : i = k := by omega
      subst this; omega
theorem minTo_mem (nf : Int → Int → Int) (l : List Fnd) (k : Nat) (h : k < l.length) : minTo nf l k ∈ l := by
  induction k with
  | zero => exact mem_at l 0 h
  | succ k ih =>
    by_cases hc : cmpF nf (l[k + 1]?.getD default) (minTo nf l k) < 0
    · rw [minTo_yes hc]; exact mem_at l (k + 1) h
    · rw [minTo_no hc]; exact ih (by omega)

/-! ### The one that stands -/
/-- x is to be picked rather than y. -/
def over (x y : Fnd) : Prop := y.number < x.number ∨ (x.number = y.number ∧ x.block < y.block)
theorem cmpF_over {x y : Fnd} (h : x.leb = y.leb) : cmpF fallI x y < 0 ↔ over x y := by
  unfold cmpF over fallI
  by_cases e : x.number = y.number
  · rw [if_pos (by simp [h, e]), cmpI_lt]
    omega
  · rw [if_neg (by simp [h, e]), cmpI_lt]
    omega
theorem minTo_best (l : List Fnd) (j : Int) (hl : ∀ f ∈ l, f.leb = j) (k : Nat) (hk : k < l.length) : ∀ i, i ≤ k → ¬ over (l[i]?.getD default) (minTo fallI l k) := by
  induction k with
  | zero => intro i hi; obtain rfl : i = 0 := by omega
            show ¬ over _ _; unfold over; simp only [minTo]; omega
  | succ k ih =>
    intro i hi
    have ih := ih (by omega)
    have h1 := hl _ (mem_at l (k + 1) hk)
    have h2 := hl _ (minTo_mem fallI l k (by omega))
    by_cases hc : cmpF fallI (l[k + 1]?.getD default) (minTo fallI l k) < 0
    · rw [minTo_yes hc]
      rw [cmpF_over (by rw [h1, h2])] at hc
      rcases Nat.lt_or_ge i (k + 1) with hh | hh
      · have := ih i (by omega)
        unfold over at *
        omega
      · obtain rfl : i = k + 1 := by omega
        unfold over; omega
    · rw [minTo_no hc]
      rw [cmpF_over (by rw [h1, h2])] at hc
      rcases Nat.lt_or_ge i (k + 1) with hh | hh
      · exact ih i (by omega)
      · obtain rfl : i = k + 1 := by omega
        exact hc
/-- v is the block that stands. -/
def StandsIs (l : List Fnd) (v : Int) : Prop := (l = [] ∧ v = -1) ∨ ∃ m ∈ l, v = m.block ∧ ∀ x ∈ l, ¬ over x m
theorem standsL_is (l : List Fnd) (j : Int) (hl : ∀ f ∈ l, f.leb = j) : StandsIs l (standsL l) := by
  unfold standsL
  by_cases h : l = []
  · rw [if_pos h]; exact .inl ⟨h, rfl⟩
  · rw [if_neg h]
    have h0 : 0 < l.length := by cases l with
      | nil => exact absurd rfl h
      | cons => simp
    refine .inr ⟨_, minTo_mem fallI l _ (by omega), rfl, fun x hx => ?_⟩
    obtain ⟨i, hi, rfl⟩ := List.mem_iff_getElem.1 hx
    have := minTo_best l j hl (l.length - 1) (by omega) i (by omega)
    rw [List.getElem?_eq_getElem hi] at this
    exact this
theorem stands_same {l l' : List Fnd} {v v' : Int} (h : ∀ x, x ∈ l ↔ x ∈ l') (h1 : StandsIs l v) (h2 : StandsIs l' v') : v = v' := by
  rcases h1 with ⟨rfl, rfl⟩ | ⟨m, hm, rfl, hb⟩
  · rcases h2 with ⟨_, rfl⟩ | ⟨m', hm', _⟩
    · rfl
    · exact absurd ((h m').2 hm') (by simp)
  · rcases h2 with ⟨rfl, _⟩ | ⟨m', hm', rfl, hb'⟩
    · exact absurd ((h m).1 hm) (by simp)
    · have := hb m' ((h m').2 hm')
      have := hb' m ((h m).1 hm)
      unfold over at *
      omega
theorem ofLeb_leb (j : Int) (fs : List Fnd) : ∀ f ∈ ofLeb j fs, f.leb = j := by
  intro f hf
  simp [ofLeb, isOf] at hf
  exact hf.2.2
theorem standsL_same {j : Int} {fs fs' : List Fnd} (h : ∀ x, x ∈ ofLeb j fs ↔ x ∈ ofLeb j fs') : standsL (ofLeb j fs) = standsL (ofLeb j fs') :=
  stands_same h (standsL_is _ j (ofLeb_leb j fs)) (standsL_is _ j (ofLeb_leb j fs'))
theorem pickL_same {n : Nat} {fs fs' : List Fnd} (h : ∀ x, x.whole = true → (x ∈ fs ↔ x ∈ fs')) : pickL n fs = pickL n fs' := by
  unfold pickL
  refine List.map_congr_left fun j _ => standsL_same fun x => ?_
  simp only [ofLeb, List.mem_filter, isOf, Bool.and_eq_true]
  constructor
  · rintro ⟨h1, h2, h3⟩; exact ⟨(h x h2).1 h1, h2, h3⟩
  · rintro ⟨h1, h2, h3⟩; exact ⟨(h x h2).2 h1, h2, h3⟩
theorem pickL_length (n : Nat) (fs : List Fnd) : (pickL n fs).length = n := by simp [pickL]
theorem nextL_is {l : List Fnd} {v : Int} (h0 : l ≠ []) (hm : ∃ f ∈ l, f.number = v) (hb : ∀ f ∈ l, f.number ≤ v) : nextL l = v + 1 := by
  have hl : 0 < l.length := by cases l with
    | nil => exact absurd rfl h0
    | cons => simp
  unfold nextL
  rw [if_neg h0]
  obtain ⟨f, hf, e⟩ := mostTo_mem l l.length (Nat.le_refl _) hl
  have h1 := hb f hf
  obtain ⟨g, hg, e2⟩ := hm
  obtain ⟨i, hi, rfl⟩ := List.mem_iff_getElem.1 hg
  have := mostTo_ge l l.length i hi
  rw [List.getElem?_eq_getElem hi] at this
  simp only [Option.getD_some] at this
  omega

/-! ### In memory -/
/-- The cells from o on of the block b are what was found. -/
structure FAt (w : World) (b o : Nat) (f : Fnd) : Prop where
  c0 : w.cell? ⟨b, o, none⟩ = some (.int .i64 f.block)
  c1 : w.cell? ⟨b, o + 1, none⟩ = some (.int .i64 f.leb)
  c2 : w.cell? ⟨b, o + 2, none⟩ = some (.int .i64 f.bytes)
  c3 : w.cell? ⟨b, o + 3, none⟩ = some (.int .i64 f.number)
  c4 : w.cell? ⟨b, o + 4, none⟩ = some (.bool f.whole)
theorem FAt.same {w w' : World} {b o : Nat} {f : Fnd} (h : FAt w b o f) (hb : w'.heap[b]? = w.heap[b]?) : FAt w' b o f := by
  have e : ∀ i, w'.cell? ⟨b, i, none⟩ = w.cell? ⟨b, i, none⟩ := fun i => World.cell?_of_block (w := w) hb
  exact ⟨(e _).trans h.c0, (e _).trans h.c1, (e _).trans h.c2, (e _).trans h.c3, (e _).trans h.c4⟩
theorem FAt.lt {w : World} {b o : Nat} {f : Fnd} (h : FAt w b o f) : b < w.heap.size := lt_of_cell h.c0
theorem FAt.below {w w' : World} {b o B : Nat} {f : Fnd} (h : FAt w b o f) (q : Below B w w') (hB : w.heap.size ≤ B) : FAt w' b o f := h.same (q.block b (by have := h.lt; omega))
theorem fat_new (w : World) (T : TypeId) (f : Fnd) : FAt (w.alloc (.cells #[.int .i64 f.block, .int .i64 f.leb, .int .i64 f.bytes, .int .i64 f.number, .bool f.whole] T)) w.heap.size 0 f := by
  refine ⟨?_, ?_, ?_, ?_, ?_⟩ <;> (rw [World.cell?_alloc_at _ _ _ _ rfl]; rfl)
theorem FAt.of_cells {w : World} {b o : Nat} {f : Fnd} (h : ∀ j, j < 5 → w.cell? ⟨b, o + j, none⟩ = f.cells[j]?) : FAt w b o f :=
  ⟨h 0 (by omega), h 1 (by omega), h 2 (by omega), h 3 (by omega), h 4 (by omega)⟩
theorem FAt.cell {w : World} {b o : Nat} {f : Fnd} (h : FAt w b o f) (j : Nat) (hj : j < 5) : w.cell? ⟨b, o + j, none⟩ = f.cells[j]? := by
  have : j = 0 ∨ j = 1 ∨ j = 2 ∨ j = 3 ∨ j = 4 := by omega
  rcases this with rfl | rfl | rfl | rfl | rfl
  · exact h.c0
  · exact h.c1
  · exact h.c2
  · exact h.c3
  · exact h.c4
/-- The slice (a, len, cap) reads in w as what was found. -/
structure FRow (w : World) (a : Option Addr) (len cap : Nat) (fs : List Fnd) : Prop where
  hlen : fs.length = len
  hcap : len ≤ cap
  hmax : cap ≤ maxLen
  hnil : a = none → cap = 0
  hcell : 0 < len → ∃ b off, a = some ⟨b, off, none⟩ ∧ b < w.heap.size ∧ ∀ i, i < len → FAt w b (off + i * 5) (fs[i]?.getD default)
theorem FRow.below {w w' : World} {a : Option Addr} {len cap B : Nat} {fs : List Fnd} (h : FRow w a len cap fs) (q : Below B w w') (hB : w.heap.size ≤ B) : FRow w' a len cap fs := by
  refine ⟨h.hlen, h.hcap, h.hmax, h.hnil, fun h0 => ?_⟩
  obtain ⟨b, off, rfl, hb, hc⟩ := h.hcell h0
  exact ⟨b, off, rfl, by have := q.size; omega, fun i hi => (hc i hi).below q hB⟩
theorem frow_of_owns {e : TypeId} {w : World} {base : Nat} {v : Value} {n : Nat} {fs : List Fnd} (h : w.ownsRow base e 5 v n (fcells fs)) : ∃ a cap, v = .slice a n cap ∧ FRow w a n cap fs := by
  have hl : fs.length = n := by have := h.1; rw [fcells_len] at this; omega
  rcases h.2 with ⟨rfl, hn⟩ | ⟨g, cap, cur, rfl, hg, hh, hnc, hcm, hcs, htake⟩
  · subst hn
    exact ⟨none, 0, rfl, hl, Nat.le_refl _, Nat.zero_le _, fun _ => rfl, fun h0 => absurd h0 (by omega)⟩
  · refine ⟨_, cap, rfl, hl, hnc, hcm, by simp, fun h0 => ⟨g, 0, rfl, ?_, fun i hi => ?_⟩⟩
    · rcases Nat.lt_or_ge g w.heap.size with hh' | hh'
      · exact hh'
      · rw [Array.getElem?_eq_none hh'] at hh; simp at hh
    · refine FAt.of_cells fun j hj => ?_
      rw [Nat.zero_add, h.cellAt (i * 5 + j) (by omega), fcells_at fs i (by omega) j hj]
theorem frow_cells {w : World} {b off len : Nat} {fs : List Fnd} (hl : fs.length = len) (hcell : ∀ i, i < len → FAt w b (off + i * 5) (fs[i]?.getD default)) :
    ∀ j v, (fcells fs)[j]? = some v → w.cell? ((⟨b, off, none⟩ : Addr).add j) = some v := by
  intro j v hj
  have hjl : j < (fcells fs).length := by
    rcases Nat.lt_or_ge j (fcells fs).length with h | h
    · exact h
    · rw [List.getElem?_eq_none h] at hj; simp at hj
  rw [fcells_len] at hjl
  have e : j = j / 5 * 5 + j % 5 := by omega
  have h1 := (hcell (j / 5) (by omega)).cell (j % 5) (by omega)
  rw [e, fcells_at fs (j / 5) (by omega) _ (by omega)] at hj
  rw [plain_add, show off + j = off + j / 5 * 5 + j % 5 by omega, h1, hj]
end Go.Proofs.Ytabiipibckmalaa
