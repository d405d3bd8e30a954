/-
  Pages of layer 6, plain: parts of a row, what was packed, what is told of a sector, noughts.
-/
import Derived.Test.YtaabgfameegomaaPackG
import Derived.Test.YtaabgfameegomaaPackA
namespace Go.Proofs.Ytaabgfameegomaa
open Go.RowKit
set_option linter.unusedVariables false
set_option maxRecDepth 8192

/-- n bytes from the place o on. -/
def part (z : List Int) (o n : Nat) : List Int := (z.drop o).take n
theorem length_part {z : List Int} {o n : Nat} (h : o + n ≤ z.length) : (part z o n).length = n := by unfold part; rw [List.length_take, List.length_drop]; omega
theorem part_get (z : List Int) (o n i : Nat) (h : i < n) : (part z o n)[i]?.getD 0 = z[o + i]?.getD 0 := by
  unfold part; rw [List.getElem?_take, if_pos h, List.getElem?_drop]
theorem isB_part {z : List Int} (h : IsB z) (o n : Nat) : IsB (part z o n) := fun x hx => h x (List.mem_of_mem_drop (List.mem_of_mem_take hx))
theorem getD_ext {x y : List Int} (hl : x.length = y.length) (h : ∀ i, i < x.length → x[i]?.getD 0 = y[i]?.getD 0) : x = y := by
  apply List.ext_getElem hl
  intro i h1 h2
  have := h i h1
  rw [List.getElem?_eq_getElem h1, List.getElem?_eq_getElem h2] at this
  exact this
theorem part_congr {z z' : List Int} {o n : Nat} (hl : o + n ≤ z.length) (hl' : o + n ≤ z'.length) (h : ∀ i, i < n → z[o + i]?.getD 0 = z'[o + i]?.getD 0) : part z o n = part z' o n := by
  refine getD_ext (by rw [length_part hl, length_part hl']) fun i hi => ?_
  rw [length_part hl] at hi
  rw [part_get _ _ _ _ hi, part_get _ _ _ _ hi, h i hi]
theorem part_part (z : List Int) (o n o' n' : Nat) (h : o' + n' ≤ n) (hl : o + n ≤ z.length) : part (part z o n) o' n' = part z (o + o') n' := by
  refine getD_ext (by rw [length_part (by rw [length_part hl]; exact h), length_part (by omega)]) fun i hi => ?_
  rw [length_part (by rw [length_part hl]; exact h)] at hi
  rw [part_get _ _ _ _ hi, part_get _ _ _ _ (by omega), part_get _ _ _ _ hi, Nat.add_assoc]
/-- A part of a row that lies somewhere. -/
theorem row_part {k : IntKind} {w : World} {b off len cap : Nat} {z : List Int} (hr : Row k w (some ⟨b, off, none⟩) len cap z) (o n c : Nat) (ho : o + n ≤ len) (hn : n ≤ c) (hc : c ≤ maxLen) : Row k w (some ⟨b, off + o, none⟩) n c (part z o n) := by
  refine ⟨length_part (by rw [hr.hlen]; exact ho), hn, hc, by simp, fun h0 => ?_⟩
  obtain ⟨b', off', he, hbs, hcell⟩ := hr.hcell (by omega)
  simp only [Option.some.injEq, Addr.mk.injEq, and_true] at he
  obtain ⟨rfl, rfl⟩ := he
  refine ⟨b, off + o, rfl, hbs, fun i hi => ?_⟩
  rw [part_get _ _ _ _ hi, Nat.add_assoc]
  exact hcell (o + i) (by omega)

/-- The first i sectors are packed. -/
structure Packed (i n f m W : Nat) (x z : List Int) : Prop where
  data : ∀ j, j < i → part z (j * W) n = part x (j * n) n
  more : ∀ j, j < i → IsEnc f (part x (j * n) n) (part z (j * W + n) m)
/-- x, packed. -/
structure IsPack (s n f m W : Nat) (x z : List Int) : Prop where
  len : z.length = s * W + 1
  isB : IsB z
  all : Packed s n f m W x z
  mark : z[s * W]?.getD 0 = 0
theorem at_le {j i W : Nat} (h : j < i) : j * W + W ≤ i * W := by
  have : (j + 1) * W ≤ i * W := Nat.mul_le_mul_right W h
  rwa [Nat.add_mul, Nat.one_mul] at this
theorem packed_zero (n f m W : Nat) (x z : List Int) : Packed 0 n f m W x z := ⟨fun j h => absurd h (by omega), fun j h => absurd h (by omega)⟩
/-- Packed sectors stay where what lies ahead stays. -/
theorem Packed.keep {i n f m W : Nat} {x z z' : List Int} (h : Packed i n f m W x z) (hW : n + m = W) (hl : i * W ≤ z.length) (hl' : i * W ≤ z'.length) (he : ∀ q, q < i * W → z[q]?.getD 0 = z'[q]?.getD 0) : Packed i n f m W x z' := by
  refine ⟨fun j hj => ?_, fun j hj => ?_⟩
  · have := at_le (W := W) hj
    rw [← h.data j hj]
    exact (part_congr (by omega) (by omega) fun q hq => he _ (by omega)).symm
  · have := at_le (W := W) hj
    rw [← part_congr (z := z) (by omega) (by omega) fun q hq => he _ (by omega)]
    exact h.more j hj
theorem Packed.next {i n f m W : Nat} {x z : List Int} (h : Packed i n f m W x z) (h1 : part z (i * W) n = part x (i * n) n) (h2 : IsEnc f (part x (i * n) n) (part z (i * W + n) m)) : Packed (i + 1) n f m W x z := by
  refine ⟨fun j hj => ?_, fun j hj => ?_⟩
  · by_cases e : j = i
    · subst e; exact h1
    · exact h.data j (by omega)
  · by_cases e : j = i
    · subst e; exact h2
    · exact h.more j (by omega)
theorem place_split {q s W : Nat} (hW : 0 < W) (h : q < s * W) : q / W < s ∧ q = q / W * W + q % W ∧ q % W < W :=
  ⟨Nat.div_lt_of_lt_mul (by rwa [Nat.mul_comm]), by rw [Nat.mul_comm]; exact (Nat.div_add_mod q W).symm, Nat.mod_lt _ hW⟩
/-- What is packed is one row. -/
theorem pack_unique {s n f m W : Nat} {x z z' : List Int} (hf : f ≤ 8) (hW : n + m = W) (hW0 : 0 < W) (h : IsPack s n f m W x z) (h' : IsPack s n f m W x z') : z = z' := by
  refine getD_ext (by rw [h.len, h'.len]) fun q hq => ?_
  rw [h.len] at hq
  by_cases e : q = s * W
  · subst e; rw [h.mark, h'.mark]
  · obtain ⟨h1, h2, h3⟩ := place_split hW0 (show q < s * W by omega)
    generalize q / W = j at *
    generalize q % W = r at *
    subst h2
    by_cases hr : r < n
    · rw [← part_get z (j * W) n r hr, ← part_get z' (j * W) n r hr, h.all.data j h1, h'.all.data j h1]
    · have e := enc_unique hf (h.all.more j h1) (h'.all.more j h1)
      have g1 := part_get z (j * W + n) m (r - n) (by omega)
      have g2 := part_get z' (j * W + n) m (r - n) (by omega)
      rw [show j * W + n + (r - n) = j * W + r by omega] at g1 g2
      rw [← g1, ← g2, e]
/-- A row with a part of it replaced. -/
def splice (z : List Int) (o : Nat) (y : List Int) : List Int := z.take o ++ y ++ z.drop (o + y.length)
theorem length_splice {z y : List Int} {o : Nat} (h : o + y.length ≤ z.length) : (splice z o y).length = z.length := by unfold splice; simp; omega
theorem splice_get {z y : List Int} {o : Nat} (h : o + y.length ≤ z.length) (q : Nat) : (splice z o y)[q]?.getD 0 = if o ≤ q ∧ q < o + y.length then y[q - o]?.getD 0 else z[q]?.getD 0 := by
  unfold splice
  rw [List.append_assoc]
  by_cases h1 : q < o
  · rw [if_neg (by omega), List.getElem?_append_left (by simp; omega), List.getElem?_take, if_pos h1]
  · rw [List.getElem?_append_right (by simp; omega)]
    have e : (z.take o).length = o := by simp; omega
    rw [e]
    by_cases h2 : q < o + y.length
    · rw [if_pos (by omega), List.getElem?_append_left (by omega)]
    · rw [if_neg (by omega), List.getElem?_append_right (by omega), List.getElem?_drop]
      congr 2
      omega
theorem isB_splice {z y : List Int} {o : Nat} (hz : IsB z) (hy : IsB y) : IsB (splice z o y) := fun x hx => by
  unfold splice at hx
  rcases List.mem_append.1 hx with hx | hx
  · rcases List.mem_append.1 hx with hx | hx
    · exact hz x (List.mem_of_mem_take hx)
    · exact hy x hx
  · exact hz x (List.mem_of_mem_drop hx)
theorem part_splice_at {z y : List Int} {o : Nat} (h : o + y.length ≤ z.length) : part (splice z o y) o y.length = y := by
  refine getD_ext (length_part (by rw [length_splice h]; exact h)) fun i hi => ?_
  rw [length_part (by rw [length_splice h]; exact h)] at hi
  rw [part_get _ _ _ _ hi, splice_get h, if_pos (by omega), Nat.add_sub_cancel_left]
theorem part_splice_off {z y : List Int} {o o' n : Nat} (h : o + y.length ≤ z.length) (hn : o' + n ≤ z.length) (ha : o' + n ≤ o ∨ o + y.length ≤ o') : part (splice z o y) o' n = part z o' n := by
  refine part_congr (by rw [length_splice h]; exact hn) hn fun i hi => ?_
  rw [splice_get h, if_neg (by omega)]
theorem isB_set {z : List Int} (hz : IsB z) (q : Nat) (v : Int) (h0 : 0 ≤ v) (h1 : v ≤ 255) : IsB (z.set q v) := fun x hx => by
  rcases List.mem_or_eq_of_mem_set hx with h | h
  · exact hz x h
  · subst h; exact ⟨h0, h1⟩
theorem set_get (z : List Int) (q i : Nat) (v : Int) : (z.set q v)[i]?.getD 0 = if q = i ∧ q < z.length then v else z[i]?.getD 0 := by
  rw [List.getElem?_set]
  by_cases h : q = i
  · subst h
    by_cases h2 : q < z.length
    · simp [h2]
    · simp [h2]
  · simp [h]

/-- What is told of a sector. -/
structure Sec where
  d : List Int
  n : Nat
  e : Int
/-- c is what the code tells of the sector x with the more bytes y. -/
def IsSec (t : Nat) (x y : List Int) (c : Sec) : Prop := (c.e = 0 ∧ ∃ k, IsDec t x y c.d k c.n) ∨ (c.e = 50 ∧ c.d = [] ∧ c.n = 0 ∧ ∀ d k n, ¬ IsDec t x y d k n)

/-- How many bits of the sector i are 0. -/
def nouN (z : List Int) (W i : Nat) : Int := 8 * (W : Int) - onesTo (part z (i * W) W) (8 * W)
/-- Has each of the first i sectors at most f noughts? -/
def blankTo (f : Nat) (z : List Int) (W : Nat) : Nat → Bool
  | 0 => true
  | i + 1 => blankTo f z W i && decide (nouN z W i ≤ f)
theorem bitI_congr {x y : List Int} {i j : Nat} (h : x[i / 8]?.getD 0 = y[j / 8]?.getD 0) (hm : i % 8 = j % 8) : bitI x i = bitI y j := by unfold bitI; rw [h, hm]
theorem bitI_part (z : List Int) (o n i : Nat) (h : i < 8 * n) : bitI (part z o n) i = bitI z (8 * o + i) :=
  bitI_congr (by rw [part_get _ _ _ _ (by omega)]; congr 2; omega) (by omega)
theorem onesTo_congr {x y : List Int} {n : Nat} (h : ∀ i, i < n → bitI x i = bitI y i) : onesTo x n = onesTo y n := by
  induction n with
  | zero => rfl
  | succ n ih => rw [onesTo_succ, onesTo_succ, ih fun i hi => h i (by omega), h n (by omega)]
theorem onesTo_part_add {m : Nat} (z : List Int) (o n k : Nat) (hk : k ≤ 8 * m) : onesTo (part z o (n + m)) (8 * n + k) = onesTo (part z o n) (8 * n) + onesTo (part z (o + n) m) k := by
  induction k with
  | zero =>
    rw [Nat.add_zero, onesTo_zero, Int.add_zero]
    exact onesTo_congr fun i hi => by rw [bitI_part _ _ _ _ (by omega), bitI_part _ _ _ _ hi]
  | succ k ih =>
    rw [← Nat.add_assoc, onesTo_succ, onesTo_succ, ih (by omega), bitI_part _ _ _ _ (by omega), bitI_part _ _ _ _ (by omega), show 8 * (o + n) + k = 8 * o + (8 * n + k) by omega]
    omega
/-- Noughts, counted in two halves. -/
theorem nou_halves (z : List Int) (n m W i : Nat) (hW : n + m = W) : nouN z W i = 8 * ((n : Int) + (m : Int)) - onesTo (part z (i * W) n) (8 * n) - onesTo (part z (i * W + n) m) (8 * m) := by
  unfold nouN
  subst hW
  have := onesTo_part_add (m := m) z (i * (n + m)) n (8 * m) (Nat.le_refl _)
  rw [← Nat.mul_add] at this
  rw [this]
  omega
theorem nou_bd (z : List Int) (W i : Nat) : 0 ≤ nouN z W i ∧ nouN z W i ≤ 8 * (W : Int) := by
  unfold nouN
  have := onesTo_bd (part z (i * W) W) (8 * W)
  omega
theorem blankTo_no {f : Nat} {z : List Int} {W : Nat} : ∀ {s i : Nat}, i < s → ¬ nouN z W i ≤ f → blankTo f z W s = false := by
  intro s
  induction s with
  | zero => intro i h; omega
  | succ s ih =>
    intro i h hn
    unfold blankTo
    by_cases e : i = s
    · subst e; simp [hn]
    · rw [ih (by omega) hn]; rfl
theorem blankTo_iff (f : Nat) (z : List Int) (W s : Nat) : blankTo f z W s = true ↔ ∀ i, i < s → nouN z W i ≤ f := by
  constructor
  · intro h i hi
    rcases Decidable.em (nouN z W i ≤ f) with h1 | h1
    · exact h1
    · rw [blankTo_no hi h1] at h; cases h
  · intro h
    induction s with
    | zero => rfl
    | succ s ih => unfold blankTo; rw [ih fun i hi => h i (by omega)]; simp [h s (by omega)]

end Go.Proofs.Ytaabgfameegomaa
