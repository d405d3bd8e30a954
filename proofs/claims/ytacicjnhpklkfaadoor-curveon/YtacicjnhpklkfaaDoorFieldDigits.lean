/-
  Numbers as digits of 16 bits, the lowest first, in plain words; what the document's product keeps.
-/
import Derived.Test.YtacicjnhpklkfaaDoorFieldPlain
import Derived.Test.YtacicjnhpklkfaaDoorNumPlain
namespace Go.Proofs.YtacicjnhpklkfaaDoor.D
set_option linter.unusedVariables false
set_option maxRecDepth 8192

/-- What the first n digits say. -/
def vTo (f : Nat → Nat) : Nat → Nat
  | 0 => 0
  | n + 1 => vTo f n + f n * 65536 ^ n
def dg (l : List Nat) (i : Nat) : Nat := l[i]?.getD 0
def vL (l : List Nat) : Nat := vTo (dg l) l.length

theorem dg_past {l : List Nat} {i : Nat} (h : l.length ≤ i) : dg l i = 0 := by unfold dg; rw [List.getElem?_eq_none h]; rfl
theorem vTo_congr {f g : Nat → Nat} {n : Nat} (h : ∀ i, i < n → f i = g i) : vTo f n = vTo g n := by
  induction n with
  | zero => rfl
  | succ n ih => simp only [vTo]; rw [ih (fun i hi => h i (by omega)), h n (by omega)]
theorem vTo_lt {f : Nat → Nat} {n : Nat} (h : ∀ i, i < n → f i < 65536) : vTo f n < 65536 ^ n := by
  induction n with
  | zero => simp [vTo]
  | succ n ih =>
    have h1 := ih (fun i hi => h i (by omega))
    have h2 : f n + 1 ≤ 65536 := h n (by omega)
    have h3 := Nat.mul_le_mul_right (65536 ^ n) h2
    simp only [vTo, Nat.pow_succ]
    rw [Nat.add_mul] at h3
    rw [Nat.mul_comm (65536 ^ n)]
    omega
theorem vTo_tail {f : Nat → Nat} {n m : Nat} (hnm : n ≤ m) (h : ∀ i, n ≤ i → f i = 0) : vTo f m = vTo f n := by
  induction m with
  | zero => rw [show n = 0 from by omega]
  | succ m ih =>
    rcases Nat.lt_or_ge m n with h1 | h1
    · rw [show n = m + 1 from by omega]
    · simp only [vTo]; rw [ih h1, h m h1]; omega
theorem vL_to (l : List Nat) (m : Nat) (h : l.length ≤ m) : vTo (dg l) m = vL l := vTo_tail h (fun i hi => dg_past hi)
theorem vTo_ge {f : Nat → Nat} {n j : Nat} (h : j < n) : f j * 65536 ^ j ≤ vTo f n := by
  induction n with
  | zero => omega
  | succ n ih =>
    simp only [vTo]
    rcases Nat.lt_or_ge j n with h1 | h1
    · have := ih h1; omega
    · rw [show j = n from by omega]; omega
theorem vTo_mono (f : Nat → Nat) {n m : Nat} (h : n ≤ m) : vTo f n ≤ vTo f m := by
  induction m with
  | zero => rw [show n = 0 from by omega]; exact Nat.le_refl _
  | succ m ih =>
    rcases Nat.lt_or_ge m n with h1 | h1
    · rw [show n = m + 1 from by omega]; exact Nat.le_refl _
    · have := ih h1; simp only [vTo]; omega
theorem vTo_same {f g : Nat → Nat} {n m : Nat} (hnm : n ≤ m) (h : ∀ i, n ≤ i → i < m → f i = g i) : vTo f m + vTo g n = vTo g m + vTo f n := by
  induction m with
  | zero => rw [show n = 0 from by omega]; rfl
  | succ m ih =>
    rcases Nat.lt_or_ge m n with h1 | h1
    · rw [show n = m + 1 from by omega]; omega
    · have := ih h1 (fun i h2 h3 => h i h2 (by omega)); simp only [vTo]; rw [h m h1 (by omega)]; omega
theorem dg_set {l : List Nat} {j x : Nat} (hj : j < l.length) (i : Nat) : dg (l.set j x) i = if i = j then x else dg l i := by
  unfold dg
  rw [List.getElem?_set]
  by_cases h : j = i
  · subst h; simp [hj]
  · rw [if_neg h, if_neg (fun h' => h h'.symm)]
theorem vTo_upd {f g : Nat → Nat} {n j x : Nat} (hj : j < n) (hg : ∀ i, g i = if i = j then x else f i) : vTo g n + f j * 65536 ^ j = vTo f n + x * 65536 ^ j := by
  induction n with
  | zero => omega
  | succ n ih =>
    simp only [vTo]
    rcases Nat.lt_or_ge j n with h1 | h1
    · have := ih h1
      rw [hg n, if_neg (by omega)]
      omega
    · have e : j = n := by omega
      subst e
      rw [hg j, if_pos rfl, vTo_congr (g := f) (n := j) (fun i hi => by rw [hg i, if_neg (by omega)])]
      omega
theorem vL_set {l : List Nat} {j x : Nat} (hj : j < l.length) : vL (l.set j x) + dg l j * 65536 ^ j = vL l + x * 65536 ^ j := by
  unfold vL
  rw [List.length_set]
  exact vTo_upd hj (dg_set hj)

/-- Digits of a number. -/
def digL (x n : Nat) : List Nat := (List.range n).map (fun i => x / 65536 ^ i % 65536)
theorem digL_length (x n : Nat) : (digL x n).length = n := by simp [digL]
theorem digL_succ (x n : Nat) : digL x (n + 1) = digL x n ++ [x / 65536 ^ n % 65536] := by simp [digL, List.range_succ]
theorem dg_digL {x n i : Nat} (h : i < n) : dg (digL x n) i = x / 65536 ^ i % 65536 := by simp [dg, digL, h]
theorem vL_digL (x n : Nat) : vL (digL x n) = x % 65536 ^ n := by
  unfold vL
  rw [digL_length]
  have : ∀ m, vTo (fun i => x / 65536 ^ i % 65536) m = x % 65536 ^ m := by
    intro m
    induction m with
    | zero => simp [vTo, Nat.mod_one]
    | succ m ih => simp only [vTo]; rw [ih, Nat.pow_succ, Nat.mod_mul, Nat.mul_comm (65536 ^ m)]
  rw [← this n]
  exact vTo_congr (fun i hi => dg_digL hi)
def Dig (l : List Nat) : Prop := ∀ x ∈ l, x < 65536
theorem Dig.at {l : List Nat} (h : Dig l) (i : Nat) : dg l i < 65536 := by
  unfold dg
  rcases Nat.lt_or_ge i l.length with hi | hi
  · rw [List.getElem?_eq_getElem hi]; exact h _ (List.getElem_mem hi)
  · rw [List.getElem?_eq_none hi]; decide
theorem Dig.set {l : List Nat} (h : Dig l) (j : Nat) {x : Nat} (hx : x < 65536) : Dig (l.set j x) := by
  intro y hy
  rcases List.mem_or_eq_of_mem_set hy with h1 | rfl
  · exact h y h1
  · exact hx
theorem digL_dig (x n : Nat) : Dig (digL x n) := by
  intro y hy
  simp only [digL, List.mem_map] at hy
  obtain ⟨i, _, rfl⟩ := hy
  exact Nat.mod_lt _ (by decide)
theorem Dig.vlt {l : List Nat} (h : Dig l) (m : Nat) : vTo (dg l) m < 65536 ^ m := vTo_lt (fun i _ => h.at i)
theorem Dig.zero {n : Nat} : Dig (List.replicate n 0) := by
  intro x hx; rw [(List.mem_replicate.1 hx).2]; decide
theorem vL_zero (n : Nat) : vL (List.replicate n 0) = 0 := by
  have : ∀ m, vTo (dg (List.replicate n 0)) m = 0 := by
    intro m
    induction m with
    | zero => rfl
    | succ m ih =>
      simp only [vTo, ih]
      have : dg (List.replicate n 0) m = 0 := by
        unfold dg
        rw [List.getElem?_replicate]
        split <;> rfl
      rw [this]; omega
  exact this _

theorem vL_snoc (l : List Nat) (x : Nat) : vL (l ++ [x]) = vL l + x * 65536 ^ l.length := by
  unfold vL
  rw [List.length_append, List.length_singleton]
  simp only [vTo]
  congr 1
  · exact vTo_congr (fun i hi => by unfold dg; rw [List.getElem?_append_left hi])
  · unfold dg; simp

theorem pow_posD (n : Nat) : 0 < 65536 ^ n := Nat.pow_pos (by decide)
/-- A digit is what the number says. -/
theorem dg_of {l : List Nat} (h : Dig l) (i : Nat) : dg l i = vL l / 65536 ^ i % 65536 := by
  rcases Nat.lt_or_ge i l.length with hi | hi
  · have e : ∀ m, i < m → vTo (dg l) m / 65536 ^ i % 65536 = dg l i := by
      intro m
      induction m with
      | zero => intro h; omega
      | succ m ih =>
        intro him
        simp only [vTo]
        rcases Nat.lt_or_ge i m with h1 | h1
        · obtain ⟨d, rfl⟩ : ∃ d, m = i + 1 + d := ⟨m - (i + 1), by omega⟩
          rw [show dg l (i + 1 + d) * 65536 ^ (i + 1 + d) = 65536 ^ i * (65536 * (dg l (i + 1 + d) * 65536 ^ d)) from by
            rw [Nat.pow_add, Nat.pow_add]; simp only [Nat.pow_one, Nat.mul_comm, Nat.mul_left_comm, Nat.mul_assoc]]
          rw [Nat.add_mul_div_left _ _ (pow_posD i), Nat.add_mul_mod_self_left]
          exact ih h1
        · obtain rfl : i = m := by omega
          rw [Nat.mul_comm (dg l i), Nat.add_mul_div_left _ _ (pow_posD i), Nat.div_eq_of_lt (h.vlt i), Nat.zero_add]
          exact Nat.mod_eq_of_lt (h.at i)
    exact (e l.length hi).symm
  · rw [dg_past hi]
    have : vL l < 65536 ^ i := Nat.lt_of_lt_of_le (h.vlt l.length) (Nat.pow_le_pow_right (by decide) hi)
    rw [Nat.div_eq_of_lt this]
theorem list_dg {l m : List Nat} (hl : l.length = m.length) (h : ∀ i, dg l i = dg m i) : l = m := by
  apply List.ext_getElem hl
  intro i h1 h2
  have := h i
  unfold dg at this
  rw [List.getElem?_eq_getElem h1, List.getElem?_eq_getElem h2] at this
  exact this
theorem Dig.ext {l m : List Nat} (h : Dig l) (h' : Dig m) (hl : l.length = m.length) (hv : vL l = vL m) : l = m :=
  list_dg hl (fun i => by rw [dg_of h, dg_of h', hv])
theorem digL_of {l : List Nat} (h : Dig l) : l = digL (vL l) l.length := by
  refine h.ext (digL_dig _ _) (digL_length _ _).symm ?_
  rw [vL_digL]; exact (Nat.mod_eq_of_lt (h.vlt l.length)).symm
theorem vL_digL_lt {x n : Nat} (h : x < 65536 ^ n) : vL (digL x n) = x := by rw [vL_digL, Nat.mod_eq_of_lt h]
theorem digL_zero (n : Nat) : digL 0 n = List.replicate n 0 := by
  rw [digL_of (Dig.zero (n := n)), vL_zero, List.length_replicate]


open Go.Proofs.YtacicjnhpklkfaaDoor.N (fP fP_eq)
theorem Dig.vL_lt {l : List Nat} (h : Dig l) : vL l < 65536 ^ l.length := h.vlt _
theorem vTo_shift (f : Nat → Nat) (m n : Nat) : vTo f m + 65536 ^ m * vTo (fun j => f (j + m)) n = vTo f (n + m) := by
  induction n with
  | zero => rw [Nat.zero_add]; simp only [vTo, Nat.mul_zero, Nat.add_zero]
  | succ n ih =>
    rw [show n + 1 + m = (n + m) + 1 from by omega]
    have e1 : vTo f (n + m + 1) = vTo f (n + m) + f (n + m) * 65536 ^ (n + m) := rfl
    have e2 : vTo (fun j => f (j + m)) (n + 1) = vTo (fun j => f (j + m)) n + f (n + m) * 65536 ^ n := rfl
    rw [e1, e2, ← ih, Nat.mul_add, Nat.pow_add 65536 n m, Nat.mul_left_comm (65536 ^ m), Nat.mul_comm (65536 ^ m) (65536 ^ n), Nat.add_assoc]
theorem vTo_bound {f : Nat → Nat} {E : Nat} (n : Nat) (h : ∀ j, f j ≤ E) : vTo f n ≤ E * 65536 ^ n := by
  induction n with
  | zero => simp [vTo]
  | succ n ih =>
    have h1 := Nat.mul_le_mul_right (65536 ^ n) (h n)
    simp only [vTo, Nat.pow_succ]
    rw [← Nat.mul_assoc]
    omega
/-- What the double loop of the product keeps. -/
structure WideI (x y m : List Nat) (i k : Nat) : Prop where
  len : m.length = 32
  val : vL m = vTo (dg x) i * vL y + dg x i * 65536 ^ i * vTo (dg y) k
  all : ∀ j, dg m j ≤ (i + 1) * 4294836225
  late : ∀ j, i + k ≤ j → dg m j ≤ i * 4294836225
theorem dg_zero (n j : Nat) : dg (List.replicate n 0) j = 0 := by
  unfold dg
  rw [List.getElem?_replicate]
  split <;> rfl
theorem WideI.start (x y : List Nat) : WideI x y (List.replicate 32 0) 0 0 :=
  ⟨List.length_replicate, by rw [vL_zero]; simp only [vTo, Nat.zero_mul, Nat.mul_zero, Nat.add_zero], fun j => by rw [dg_zero]; exact Nat.zero_le _, fun j _ => by rw [dg_zero]; exact Nat.zero_le _⟩
theorem WideI.next {x y m : List Nat} {i k : Nat} (h : WideI x y m i k) (hx : Dig x) (hy : Dig y) (hi : i < 16) (hk : k < 16) : WideI x y (m.set (i + k) (dg m (i + k) + dg x i * dg y k)) i (k + 1) := by
  have b1 : dg x i ≤ 65535 := by have := hx.at i; omega
  have b2 : dg y k ≤ 65535 := by have := hy.at k; omega
  have b3 : dg x i * dg y k ≤ 65535 * 65535 := Nat.mul_le_mul b1 b2
  have hl := h.late (i + k) (Nat.le_refl _)
  have hn : dg m (i + k) + dg x i * dg y k ≤ (i + 1) * 4294836225 := by rw [Nat.add_mul]; omega
  have hset := fun j => dg_set (l := m) (j := i + k) (x := dg m (i + k) + dg x i * dg y k) (by rw [h.len]; omega) j
  refine ⟨by rw [List.length_set]; exact h.len, ?_, fun j => ?_, fun j hj => ?_⟩
  · have hs := vL_set (l := m) (j := i + k) (x := dg m (i + k) + dg x i * dg y k) (by rw [h.len]; omega)
    have hv := h.val
    have e2 : (dg m (i + k) + dg x i * dg y k) * 65536 ^ (i + k) = dg m (i + k) * 65536 ^ (i + k) + dg x i * 65536 ^ i * (dg y k * 65536 ^ k) := by
      rw [Nat.add_mul, Nat.pow_add, Nat.mul_mul_mul_comm]
    simp only [vTo]
    rw [Nat.mul_add]
    omega
  · rw [hset j]
    split
    · exact hn
    · exact h.all j
  · rw [hset j, if_neg (by omega)]
    exact h.late j (by omega)
theorem WideI.line {x y m : List Nat} {i n : Nat} (h : WideI x y m i n) (hy : y.length = n) : WideI x y m (i + 1) 0 := by
  refine ⟨h.len, ?_, fun j => Nat.le_trans (h.all j) (Nat.mul_le_mul_right _ (by omega)), fun j _ => h.all j⟩
  have hv := h.val
  have e : vTo (dg y) n = vL y := by unfold vL; rw [hy]
  rw [e] at hv
  simp only [vTo, Nat.mul_zero, Nat.add_zero, Nat.add_mul]
  exact hv
theorem WideI.done {x y m : List Nat} {n : Nat} (h : WideI x y m n 0) (hx : x.length = n) : vL m = vL x * vL y := by
  have hv := h.val
  have e : vTo (dg x) n = vL x := by unfold vL; rw [hx]
  rw [e] at hv
  simpa only [vTo, Nat.mul_zero, Nat.add_zero] using hv
/-- What the folding loop keeps. -/
structure LowI (m l : List Nat) (i : Nat) : Prop where
  len : l.length = 17
  val : vL l = vTo (dg m) i + 38 * vTo (fun j => dg m (j + 16)) i
  all : ∀ j, dg l j ≤ 2847476417175
  late : ∀ j, i ≤ j → dg l j = 0
theorem LowI.start (m : List Nat) : LowI m (List.replicate 17 0) 0 :=
  ⟨List.length_replicate, by rw [vL_zero]; simp only [vTo, Nat.mul_zero, Nat.add_zero], fun j => by rw [dg_zero]; exact Nat.zero_le _, fun j _ => dg_zero _ _⟩
theorem LowI.next {m l : List Nat} {i : Nat} (h : LowI m l i) (hm : ∀ j, dg m j ≤ 17 * 4294836225) (hi : i < 16) : LowI m (l.set i (dg m i + 38 * dg m (16 + i))) (i + 1) := by
  have b1 := hm i
  have b2 := hm (16 + i)
  have hset := fun j => dg_set (l := l) (j := i) (x := dg m i + 38 * dg m (16 + i)) (by rw [h.len]; omega) j
  refine ⟨by rw [List.length_set]; exact h.len, ?_, fun j => ?_, fun j hj => ?_⟩
  · have hs := vL_set (l := l) (j := i) (x := dg m i + 38 * dg m (16 + i)) (by rw [h.len]; omega)
    rw [h.late i (Nat.le_refl _), Nat.zero_mul, Nat.add_zero, Nat.add_mul, Nat.mul_assoc, Nat.add_comm 16 i] at hs
    have hv := h.val
    simp only [vTo, Nat.mul_add]
    rw [Nat.add_comm 16 i]
    omega
  · rw [hset j]
    split
    · omega
    · exact h.all j
  · rw [hset j, if_neg (by omega)]
    exact h.late j (by omega)
theorem LowI.done {m l : List Nat} {n k : Nat} (h : LowI m l n) (hn : n = 16) (hk : n + n = k) (hm : m.length = k) : vL l % fP = vL m % fP ∧ vL l ≤ 2847476417175 * 65536 ^ 16 := by
  refine ⟨?_, ?_⟩
  · have e : vL m = vTo (dg m) n + 65536 ^ n * vTo (fun j => dg m (j + n)) n := by
      rw [vTo_shift, hk]
      unfold vL; rw [hm]
    rw [e, h.val]
    subst hn
    have e2 : 65536 ^ 16 = fP * 2 + 38 := by rw [fP_eq]
    rw [e2, Nat.add_mul, Nat.mul_assoc]
    generalize vTo (fun j => dg m (j + 16)) 16 = t
    rw [Nat.add_comm (fP * (2 * t)), ← Nat.add_assoc, Nat.add_mul_mod_self_left]
  · have h1 := vTo_bound (f := dg l) n h.all
    have h2 := h.late n (Nat.le_refl _)
    have e : vL l = vTo (dg l) n + dg l n * 65536 ^ n := by
      unfold vL
      rw [h.len, show 17 = n + 1 from by omega]
      rfl
    rw [e, h2, Nat.zero_mul, Nat.add_zero, ← hn]
    exact h1
/-- What a pass of carries keeps. -/
structure RipI (V : Nat) (l : List Nat) (i : Nat) : Prop where
  len : l.length = 17
  val : vL l = V
  low : ∀ j, j < i → dg l j < 65536
  cur : dg l i ≤ 2251799813685248
  high : ∀ j, i < j → dg l j ≤ 1125899906842624
theorem RipI.start {l : List Nat} (hl : l.length = 17) (h : ∀ j, dg l j ≤ 1125899906842624) : RipI (vL l) l 0 :=
  ⟨hl, rfl, fun j hj => by omega, by have := h 0; omega, fun j _ => h j⟩
theorem RipI.next {V : Nat} {l : List Nat} {i : Nat} (h : RipI V l i) (hi : i < 16) : RipI V ((l.set (i + 1) (dg l (i + 1) + dg l i / 65536)).set i (dg l i % 65536)) (i + 1) := by
  have b1 := h.cur
  have b2 := h.high (i + 1) (by omega)
  have hset := fun j => dg_set (l := l) (j := i + 1) (x := dg l (i + 1) + dg l i / 65536) (by rw [h.len]; omega) j
  have hset2 := fun j => dg_set (l := l.set (i + 1) (dg l (i + 1) + dg l i / 65536)) (j := i) (x := dg l i % 65536) (by rw [List.length_set, h.len]; omega) j
  refine ⟨by rw [List.length_set, List.length_set]; exact h.len, ?_, fun j hj => ?_, ?_, fun j hj => ?_⟩
  · have hs := vL_set (l := l) (j := i + 1) (x := dg l (i + 1) + dg l i / 65536) (by rw [h.len]; omega)
    have hs2 := vL_set (l := l.set (i + 1) (dg l (i + 1) + dg l i / 65536)) (j := i) (x := dg l i % 65536) (by rw [List.length_set, h.len]; omega)
    rw [hset i, if_neg (by omega)] at hs2
    have hv := h.val
    rw [Nat.add_mul, Nat.pow_succ] at hs
    have e : dg l i / 65536 * (65536 ^ i * 65536) + dg l i % 65536 * 65536 ^ i = dg l i * 65536 ^ i := by
      have hm : dg l i % 65536 + 65536 * (dg l i / 65536) = dg l i := Nat.mod_add_div _ _
      conv => rhs; rw [← hm, Nat.add_mul]
      rw [Nat.mul_comm (65536 ^ i) 65536, ← Nat.mul_assoc, Nat.mul_comm (dg l i / 65536) 65536]; omega
    omega
  · rw [hset2 j]
    split
    · exact Nat.mod_lt _ (by decide)
    · rw [hset j, if_neg (by omega)]
      exact h.low j (by omega)
  · rw [hset2, if_neg (by omega), hset, if_pos rfl]
    omega
  · rw [hset2, if_neg (by omega), hset, if_neg (by omega)]
    exact h.high j (by omega)
theorem RipI.done {V n : Nat} {l : List Nat} (h : RipI V l n) (hn : n = 16) : dg l n = V / 65536 ^ n ∧ vTo (dg l) n = V % 65536 ^ n := by
  have e : V = vTo (dg l) n + dg l n * 65536 ^ n := by
    rw [← h.val]
    unfold vL
    rw [h.len, show 17 = n + 1 from by omega]
    rfl
  have hlt : vTo (dg l) n < 65536 ^ n := vTo_lt (fun j hj => h.low j hj)
  have hp := pow_posD n
  constructor
  · rw [e, Nat.mul_comm, Nat.add_mul_div_left _ _ hp, Nat.div_eq_of_lt hlt, Nat.zero_add]
  · rw [e, Nat.mul_comm, Nat.add_mul_mod_self_left, Nat.mod_eq_of_lt hlt]
/-- How great the number is ahead of each pass. -/
def passB : Nat → Nat
  | 0 => 2847476417175 * 65536 ^ 16 + 1
  | 1 => 65536 ^ 16 + 38 * 2847476417176
  | _ => 65536 ^ 16
/-- What the passes keep. -/
structure PassI (M : Nat) (l : List Nat) (n : Nat) : Prop where
  len : l.length = 17
  all : ∀ j, dg l j ≤ 1125899906842624
  top : dg l 16 = 0
  mod : vL l % fP = M % fP
  lt : vL l < passB n
  dig : n = 3 → ∀ j, dg l j < 65536
/-- The end of a pass: what stands at 2^256 comes in 38 times. -/
theorem PassI.next {M n : Nat} {l l2 : List Nat} (h : PassI M l n) (hn : n < 3) (hr : RipI (vL l) l2 16) : PassI M ((l2.set 0 (dg l2 0 + 38 * dg l2 16)).set 16 0) (n + 1) := by
  have hd := hr.done rfl
  have hset := fun j => dg_set (l := l2) (j := 0) (x := dg l2 0 + 38 * dg l2 16) (by rw [hr.len]; omega) j
  have hset2 := fun j => dg_set (l := l2.set 0 (dg l2 0 + 38 * dg l2 16)) (j := 16) (x := 0) (by rw [List.length_set, hr.len]; omega) j
  have hs := vL_set (l := l2) (j := 0) (x := dg l2 0 + 38 * dg l2 16) (by rw [hr.len]; omega)
  have hs2 := vL_set (l := l2.set 0 (dg l2 0 + 38 * dg l2 16)) (j := 16) (x := 0) (by rw [List.length_set, hr.len]; omega)
  rw [hset 16, if_neg (by omega)] at hs2
  have hv := hr.val
  have hlow := hr.low 0 (by omega)
  have hlt := h.lt
  have hB : (0 : Nat) < 65536 ^ 16 := by decide
  have hdm := Nat.div_add_mod (vL l) (65536 ^ 16)
  have hml : vL l % 65536 ^ 16 < 65536 ^ 16 := Nat.mod_lt _ hB
  rw [← hd.1] at hdm
  have hval : vL ((l2.set 0 (dg l2 0 + 38 * dg l2 16)).set 16 0) = vL l % 65536 ^ 16 + 38 * dg l2 16 := by
    rw [Nat.pow_zero] at hs
    generalize vL ((l2.set 0 (dg l2 0 + 38 * dg l2 16)).set 16 0) = a at *
    generalize vL (l2.set 0 (dg l2 0 + 38 * dg l2 16)) = b at *
    generalize dg l2 16 = t at *
    generalize dg l2 0 = u at *
    generalize vL l % 65536 ^ 16 = r at *
    rw [hv] at hs
    generalize vL l = V at *
    omega
  have htop : dg l2 16 ≤ 2847476417175 := by
    rw [hd.1]
    apply Nat.le_of_lt_succ
    apply Nat.div_lt_of_lt_mul
    have : passB n ≤ 65536 ^ 16 * (2847476417175 + 1) := by
      rcases (show n = 0 ∨ n = 1 ∨ n = 2 by omega) with rfl | rfl | rfl <;> simp only [passB] <;> decide
    omega
  refine ⟨by rw [List.length_set, List.length_set]; exact hr.len, fun j => ?_, ?_, ?_, ?_, fun h3 j => ?_⟩
  · rw [hset2 j]
    split
    · exact Nat.zero_le _
    · rw [hset j]
      split
      · omega
      · rcases Nat.lt_or_ge j 16 with h1 | h1
        · have := hr.low j h1; omega
        · rw [dg_past (by rw [hr.len]; omega)]; exact Nat.zero_le _
  · rw [hset2 16, if_pos rfl]
  · rw [hval, ← h.mod]
    have e2 : 65536 ^ 16 = fP * 2 + 38 := by rw [fP_eq]
    have e3 : vL l = (vL l % 65536 ^ 16 + 38 * dg l2 16) + fP * (2 * dg l2 16) := by
      have e4 : 65536 ^ 16 * dg l2 16 = fP * (2 * dg l2 16) + 38 * dg l2 16 := by rw [e2, Nat.add_mul, Nat.mul_assoc]
      omega
    conv => rhs; rw [e3, Nat.add_mul_mod_self_left]
  · rw [hval]
    rcases (show n = 0 ∨ n = 1 ∨ n = 2 by omega) with rfl | rfl | rfl
    · simp only [passB] at hlt ⊢
      omega
    · simp only [passB] at hlt ⊢
      omega
    · simp only [passB] at hlt ⊢
      have : dg l2 16 = 0 := by rw [hd.1]; exact Nat.div_eq_of_lt hlt
      omega
  · obtain rfl : n = 2 := by omega
    simp only [passB] at hlt
    have ht : dg l2 16 = 0 := by rw [hd.1]; exact Nat.div_eq_of_lt hlt
    rw [hset2 j]
    split
    · decide
    · rw [hset j]
      split
      · omega
      · rcases Nat.lt_or_ge j 16 with h1 | h1
        · exact hr.low j h1
        · rw [dg_past (by rw [hr.len]; omega)]; decide
theorem PassI.start {m l : List Nat} (h : LowI m l 16) (hm : m.length = 32) : PassI (vL m) l 0 := by
  have hd := h.done rfl (k := 32) rfl hm
  exact ⟨h.len, fun j => Nat.le_trans (h.all j) (by decide), h.late 16 (Nat.le_refl _), hd.1, Nat.lt_succ_of_le hd.2, fun h => by omega⟩
end Go.Proofs.YtacicjnhpklkfaaDoor.D
