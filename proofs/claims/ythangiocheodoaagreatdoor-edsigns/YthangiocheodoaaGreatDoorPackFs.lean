/-
 Numbers as digits of 16 bits, the lowest first, in plain words; what the document's product keeps.
-/
import Derived.Test.YthangiocheodoaaGreatDoorPackFa
import Derived.Test.YthangiocheodoaaGreatDoorPackNa
import Derived.Test.YthangiocheodoaaGreatDoorPackFr
import Derived.Test.YthangiocheodoaaGreatDoorPackFb
namespace Go.Proofs.YthangiocheodoaaGreatDoor.D
set_option linter.unusedVariables false
set_option maxRecDepth 8192

/-- What the first n digits say. -/
def vTo (f : Nat → Nat) : Nat → Nat
 | 0 => 0
 | n + 1 => vTo f n + f n * 65536 ^ n
def dg (l : List Nat) (i : Nat) : Nat := l[i]?.getD 0
def vL (l : List Nat) : Nat := vTo (dg l) l.length

theorem dg_past {l : List Nat} {i : Nat} (h : l.length ≤ i) : dg l i = 0 := by unfold dg; rw [List.getElem?_eq_none h]; rfl
theorem vTo_congr {f g : Nat → Nat} {n : Nat} (h : ∀ i, i < n → f i = g i) : vTo f n = vTo g n := by
 induction n with
 | zero => rfl
 | succ n ih => simp only [vTo]; rw [ih (fun i hi => h i (by omega)), h n (by omega)]
theorem vTo_lt {f : Nat → Nat} {n : Nat} (h : ∀ i, i < n → f i < 65536) : vTo f n < 65536 ^ n := by
 induction n with
 | zero => simp [vTo]
 | succ n ih =>
  have h1 := ih (fun i hi => h i (by omega))
  have h2 : f n + 1 ≤ 65536 := h n (by omega)
  have h3 := Nat.mul_le_mul_right (65536 ^ n) h2
  simp only [vTo, Nat.pow_succ]
  rw [Nat.add_mul] at h3
  rw [Nat.mul_comm (65536 ^ n)]
  omega
theorem vTo_tail {f : Nat → Nat} {n m : Nat} (hnm : n ≤ m) (h : ∀ i, n ≤ i → f i = 0) : vTo f m = vTo f n := by
 induction m with
 | zero => rw [show n = 0 from by omega]
 | succ m ih =>
  rcases Nat.lt_or_ge m n with h1 | h1
  ·rw [show n = m + 1 from by omega]
  ·simp only [vTo]; rw [ih h1, h m h1]; omega
theorem vL_to (l : List Nat) (m : Nat) (h : l.length ≤ m) : vTo (dg l) m = vL l := vTo_tail h (fun i hi => dg_past hi)
theorem vTo_ge {f : Nat → Nat} {n j : Nat} (h : j < n) : f j * 65536 ^ j ≤ vTo f n := by
 induction n with
 | zero => omega
 | succ n ih =>
  simp only [vTo]
  rcases Nat.lt_or_ge j n with h1 | h1
  ·have := ih h1; omega
  ·rw [show j = n from by omega]; omega
theorem vTo_mono (f : Nat → Nat) {n m : Nat} (h : n ≤ m) : vTo f n ≤ vTo f m := by
 induction m with
 | zero => rw [show n = 0 from by omega]; exact Nat.le_refl _
 | succ m ih =>
  rcases Nat.lt_or_ge m n with h1 | h1
  ·rw [show n = m + 1 from by omega]; exact Nat.le_refl _
  ·have := ih h1; simp only [vTo]; omega
theorem vTo_same {f g : Nat → Nat} {n m : Nat} (hnm : n ≤ m) (h : ∀ i, n ≤ i → i < m → f i = g i) : vTo f m + vTo g n = vTo g m + vTo f n := by
 induction m with
 | zero => rw [show n = 0 from by omega]; rfl
 | succ m ih =>
  rcases Nat.lt_or_ge m n with h1 | h1
  ·rw [show n = m + 1 from by omega]; omega
  ·have := ih h1 (fun i h2 h3 => h i h2 (by omega)); simp only [vTo]; rw [h m h1 (by omega)]; omega
theorem dg_set {l : List Nat} {j x : Nat} (hj : j < l.length) (i : Nat) : dg (l.set j x) i = if i = j then x else dg l i := by
 unfold dg
 rw [List.getElem?_set]
 by_cases h : j = i
 ·subst h; simp [hj]
 ·rw [if_neg h, if_neg (fun h' => h h'.symm)]
theorem vTo_upd {f g : Nat → Nat} {n j x : Nat} (hj : j < n) (hg : ∀ i, g i = if i = j then x else f i) : vTo g n + f j * 65536 ^ j = vTo f n + x * 65536 ^ j := by
 induction n with
 | zero => omega
 | succ n ih =>
  simp only [vTo]
  rcases Nat.lt_or_ge j n with h1 | h1
  ·have := ih h1
   rw [hg n, if_neg (by omega)]
   omega
  ·have e : j = n := by omega
   subst e
   rw [hg j, if_pos rfl, vTo_congr (g := f) (n := j) (fun i hi => by rw [hg i, if_neg (by omega)])]
   omega
theorem vL_set {l : List Nat} {j x : Nat} (hj : j < l.length) : vL (l.set j x) + dg l j * 65536 ^ j = vL l + x * 65536 ^ j := by
 unfold vL
 rw [List.length_set]
 exact vTo_upd hj (dg_set hj)

/-- Digits of a number. -/
def digL (x n : Nat) : List Nat := (List.range n).map (fun i => x / 65536 ^ i % 65536)
theorem digL_length (x n : Nat) : (digL x n).length = n := by simp [digL]
theorem digL_succ (x n : Nat) : digL x (n + 1) = digL x n ++ [x / 65536 ^ n % 65536] := by simp [digL, List.range_succ]
theorem dg_digL {x n i : Nat} (h : i < n) : dg (digL x n) i = x / 65536 ^ i % 65536 := by simp [dg, digL, h]
theorem vL_digL (x n : Nat) : vL (digL x n) = x % 65536 ^ n := by
 unfold vL
 rw [digL_length]
 have : ∀ m, vTo (fun i => x / 65536 ^ i % 65536) m = x % 65536 ^ m := by
  intro m
  induction m with
  | zero => simp [vTo, Nat.mod_one]
  | succ m ih => simp only [vTo]; rw [ih, Nat.pow_succ, Nat.mod_mul, Nat.mul_comm (65536 ^ m)]
 rw [← this n]
 exact vTo_congr (fun i hi => dg_digL hi)
def Dig (l : List Nat) : Prop := ∀ x ∈ l, x < 65536
theorem Dig.at {l : List Nat} (h : Dig l) (i : Nat) : dg l i < 65536 := by
 unfold dg
 rcases Nat.lt_or_ge i l.length with hi | hi
 ·rw [List.getElem?_eq_getElem hi]; exact h _ (List.getElem_mem hi)
 ·rw [List.getElem?_eq_none hi]; decide
theorem Dig.set {l : List Nat} (h : Dig l) (j : Nat) {x : Nat} (hx : x < 65536) : Dig (l.set j x) := by
 intro y hy
 rcases List.mem_or_eq_of_mem_set hy with h1 | rfl
 ·exact h y h1
 ·exact hx
theorem digL_dig (x n : Nat) : Dig (digL x n) := by
 intro y hy
 simp only [digL, List.mem_map] at hy
 obtain ⟨i, _, rfl⟩ := hy
 exact Nat.mod_lt _ (by decide)
theorem Dig.vlt {l : List Nat} (h : Dig l) (m : Nat) : vTo (dg l) m < 65536 ^ m := vTo_lt (fun i _ => h.at i)
theorem Dig.zero {n : Nat} : Dig (List.replicate n 0) := by
 intro x hx; rw [(List.mem_replicate.1 hx).2]; decide
theorem vL_zero (n : Nat) : vL (List.replicate n 0) = 0 := by
 have : ∀ m, vTo (dg (List.replicate n 0)) m = 0 := by
  intro m
  induction m with
  | zero => rfl
  | succ m ih =>
   simp only [vTo, ih]
   have : dg (List.replicate n 0) m = 0 := by
    unfold dg
    rw [List.getElem?_replicate]
    split <;> rfl
   rw [this]; omega
 exact this _

theorem vL_snoc (l : List Nat) (x : Nat) : vL (l ++ [x]) = vL l + x * 65536 ^ l.length := by
 unfold vL
 rw [List.length_append, List.length_singleton]
 simp only [vTo]
 congr 1
 ·exact vTo_congr (fun i hi => by unfold dg; rw [List.getElem?_append_left hi])
 ·unfold dg; simp

theorem pow_posD (n : Nat) : 0 < 65536 ^ n := Nat.pow_pos (by decide)
/-- A digit is what the number says. -/
theorem dg_of {l : List Nat} (h : Dig l) (i : Nat) : dg l i = vL l / 65536 ^ i % 65536 := by
 rcases Nat.lt_or_ge i l.length with hi | hi
 ·have e : ∀ m, i < m → vTo (dg l) m / 65536 ^ i % 65536 = dg l i := by
   intro m
   induction m with
   | zero => intro h; omega
   | succ m ih =>
    intro him
    simp only [vTo]
    rcases Nat.lt_or_ge i m with h1 | h1
    ·obtain ⟨d, rfl⟩ : ∃ d, m = i + 1 + d := ⟨m - (i + 1), by omega⟩
     rw [show dg l (i + 1 + d) * 65536 ^ (i + 1 + d) = 65536 ^ i * (65536 * (dg l (i + 1 + d) * 65536 ^ d)) from by
      rw [Nat.pow_add, Nat.pow_add]; simp only [Nat.pow_one, Nat.mul_comm, Nat.mul_left_comm, Nat.mul_assoc]]
     rw [Nat.add_mul_div_left _ _ (pow_posD i), Nat.add_mul_mod_self_left]
     exact ih h1
    ·obtain rfl : i = m := by omega
     rw [Nat.mul_comm (dg l i), Nat.add_mul_div_left _ _ (pow_posD i), Nat.div_eq_of_lt (h.vlt i), Nat.zero_add]
     exact Nat.mod_eq_of_lt (h.at i)
  exact (e l.length hi).symm
 ·rw [dg_past hi]
  have : vL l < 65536 ^ i := Nat.lt_of_lt_of_le (h.vlt l.length) (Nat.pow_le_pow_right (by decide) hi)
  rw [Nat.div_eq_of_lt this]
theorem list_dg {l m : List Nat} (hl : l.length = m.length) (h : ∀ i, dg l i = dg m i) : l = m := by
 apply List.ext_getElem hl
 intro i h1 h2
 have := h i
 unfold dg at this
 rw [List.getElem?_eq_getElem h1, List.getElem?_eq_getElem h2] at this
 exact this
theorem Dig.ext {l m : List Nat} (h : Dig l) (h' : Dig m) (hl : l.length = m.length) (hv : vL l = vL m) : l = m :=
 list_dg hl (fun i => by rw [dg_of h, dg_of h', hv])
theorem digL_of {l : List Nat} (h : Dig l) : l = digL (vL l) l.length := by
 refine h.ext (digL_dig _ _) (digL_length _ _).symm ?_
 rw [vL_digL]; exact (Nat.mod_eq_of_lt (h.vlt l.length)).symm
theorem vL_digL_lt {x n : Nat} (h : x < 65536 ^ n) : vL (digL x n) = x := by rw [vL_digL, Nat.mod_eq_of_lt h]
theorem digL_zero (n : Nat) : digL 0 n = List.replicate n 0 := by
 rw [digL_of (Dig.zero (n := n)), vL_zero, List.length_replicate]


open Go.Proofs.YthangiocheodoaaGreatDoor.N (fP fP_eq)
theorem Dig.vL_lt {l : List Nat} (h : Dig l) : vL l < 65536 ^ l.length := h.vlt _
theorem vTo_shift (f : Nat → Nat) (m n : Nat) : vTo f m + 65536 ^ m * vTo (fun j => f (j + m)) n = vTo f (n + m) := by
 induction n with
 | zero => rw [Nat.zero_add]; simp only [vTo, Nat.mul_zero, Nat.add_zero]
 | succ n ih =>
  rw [show n + 1 + m = (n + m) + 1 from by omega]
  have e1 : vTo f (n + m + 1) = vTo f (n + m) + f (n + m) * 65536 ^ (n + m) := rfl
  have e2 : vTo (fun j => f (j + m)) (n + 1) = vTo (fun j => f (j + m)) n + f (n + m) * 65536 ^ n := rfl
  rw [e1, e2, ← ih, Nat.mul_add, Nat.pow_add 65536 n m, Nat.mul_left_comm (65536 ^ m), Nat.mul_comm (65536 ^ m) (65536 ^ n), Nat.add_assoc]
theorem vTo_bound {f : Nat → Nat} {E : Nat} (n : Nat) (h : ∀ j, f j ≤ E) : vTo f n ≤ E * 65536 ^ n := by
 induction n with
 | zero => simp [vTo]
 | succ n ih =>
  have h1 := Nat.mul_le_mul_right (65536 ^ n) (h n)
  simp only [vTo, Nat.pow_succ]
  rw [← Nat.mul_assoc]
  omega
/-- What the double loop of the product keeps. -/
structure WideI (x y m : List Nat) (i k : Nat) : Prop where
 len : m.length = 32
 val : vL m = vTo (dg x) i * vL y + dg x i * 65536 ^ i * vTo (dg y) k
 all : ∀ j, dg m j ≤ (i + 1) * 4294836225
 late : ∀ j, i + k ≤ j → dg m j ≤ i * 4294836225
theorem dg_zero (n j : Nat) : dg (List.replicate n 0) j = 0 := by
 unfold dg
 rw [List.getElem?_replicate]
 split <;> rfl
theorem WideI.start (x y : List Nat) : WideI x y (List.replicate 32 0) 0 0 :=
 ⟨List.length_replicate, by rw [vL_zero]; simp only [vTo, Nat.zero_mul, Nat.mul_zero, Nat.add_zero], fun j => by rw [dg_zero]; exact Nat.zero_le _, fun j _ => by rw [dg_zero]; exact Nat.zero_le _⟩
theorem WideI.next {x y m : List Nat} {i k : Nat} (h : WideI x y m i k) (hx : Dig x) (hy : Dig y) (hi : i < 16) (hk : k < 16) : WideI x y (m.set (i + k) (dg m (i + k) + dg x i * dg y k)) i (k + 1) := by
 have b1 : dg x i ≤ 65535 := by have := hx.at i; omega
 have b2 : dg y k ≤ 65535 := by have := hy.at k; omega
 have b3 : dg x i * dg y k ≤ 65535 * 65535 := Nat.mul_le_mul b1 b2
 have hl := h.late (i + k) (Nat.le_refl _)
 have hn : dg m (i + k) + dg x i * dg y k ≤ (i + 1) * 4294836225 := by rw [Nat.add_mul]; omega
 have hset := fun j => dg_set (l := m) (j := i + k) (x := dg m (i + k) + dg x i * dg y k) (by rw [h.len]; omega) j
 refine ⟨by rw [List.length_set]; exact h.len, ?_, fun j => ?_, fun j hj => ?_⟩
 ·have hs := vL_set (l := m) (j := i + k) (x := dg m (i + k) + dg x i * dg y k) (by rw [h.len]; omega)
  have hv := h.val
  have e2 : (dg m (i + k) + dg x i * dg y k) * 65536 ^ (i + k) = dg m (i + k) * 65536 ^ (i + k) + dg x i * 65536 ^ i * (dg y k * 65536 ^ k) := by
   rw [Nat.add_mul, Nat.pow_add, Nat.mul_mul_mul_comm]
  simp only [vTo]
  rw [Nat.mul_add]
  omega
 ·rw [hset j]
  split
  ·exact hn
  ·exact h.all j
 ·rw [hset j, if_neg (by omega)]
  exact h.late j (by omega)
theorem WideI.line {x y m : List Nat} {i n : Nat} (h : WideI x y m i n) (hy : y.length = n) : WideI x y m (i + 1) 0 := by
 refine ⟨h.len, ?_, fun j => Nat.le_trans (h.all j) (Nat.mul_le_mul_right _ (by omega)), fun j _ => h.all j⟩
 have hv := h.val
 have e : vTo (dg y) n = vL y := by unfold vL; rw [hy]
 rw [e] at hv
 simp only [vTo, Nat.mul_zero, Nat.add_zero, Nat.add_mul]
 exact hv
theorem WideI.done {x y m : List Nat} {n : Nat} (h : WideI x y m n 0) (hx : x.length = n) : vL m = vL x * vL y := by
 have hv := h.val
 have e : vTo (dg x) n = vL x := by unfold vL; rw [hx]
 rw [e] at hv
 simpa only [vTo, Nat.mul_zero, Nat.add_zero] using hv
/-- What the folding loop keeps. -/
structure LowI (m l : List Nat) (i : Nat) : Prop where
 len : l.length = 17
 val : vL l = vTo (dg m) i + 38 * vTo (fun j => dg m (j + 16)) i
 all : ∀ j, dg l j ≤ 2847476417175
 late : ∀ j, i ≤ j → dg l j = 0
theorem LowI.start (m : List Nat) : LowI m (List.replicate 17 0) 0 :=
 ⟨List.length_replicate, by rw [vL_zero]; simp only [vTo, Nat.mul_zero, Nat.add_zero], fun j => by rw [dg_zero]; exact Nat.zero_le _, fun j _ => dg_zero _ _⟩
theorem LowI.next {m l : List Nat} {i : Nat} (h : LowI m l i) (hm : ∀ j, dg m j ≤ 17 * 4294836225) (hi : i < 16) : LowI m (l.set i (dg m i + 38 * dg m (16 + i))) (i + 1) := by
 have b1 := hm i
 have b2 := hm (16 + i)
 have hset := fun j => dg_set (l := l) (j := i) (x := dg m i + 38 * dg m (16 + i)) (by rw [h.len]; omega) j
 refine ⟨by rw [List.length_set]; exact h.len, ?_, fun j => ?_, fun j hj => ?_⟩
 ·have hs := vL_set (l := l) (j := i) (x := dg m i + 38 * dg m (16 + i)) (by rw [h.len]; omega)
  rw [h.late i (Nat.le_refl _), Nat.zero_mul, Nat.add_zero, Nat.add_mul, Nat.mul_assoc, Nat.add_comm 16 i] at hs
  have hv := h.val
  simp only [vTo, Nat.mul_add]
  rw [Nat.add_comm 16 i]
  omega
 ·rw [hset j]
  split
  ·omega
  ·exact h.all j
 ·rw [hset j, if_neg (by omega)]
  exact h.late j (by omega)
theorem LowI.done {m l : List Nat} {n k : Nat} (h : LowI m l n) (hn : n = 16) (hk : n + n = k) (hm : m.length = k) : vL l % fP = vL m % fP ∧ vL l ≤ 2847476417175 * 65536 ^ 16 := by
 refine ⟨?_, ?_⟩
 ·have e : vL m = vTo (dg m) n + 65536 ^ n * vTo (fun j => dg m (j + n)) n := by
   rw [vTo_shift, hk]
   unfold vL; rw [hm]
  rw [e, h.val]
  subst hn
  have e2 : 65536 ^ 16 = fP * 2 + 38 := by rw [fP_eq]
  rw [e2, Nat.add_mul, Nat.mul_assoc]
  generalize vTo (fun j => dg m (j + 16)) 16 = t
  rw [Nat.add_comm (fP * (2 * t)), ← Nat.add_assoc, Nat.add_mul_mod_self_left]
 ·have h1 := vTo_bound (f := dg l) n h.all
  have h2 := h.late n (Nat.le_refl _)
  have e : vL l = vTo (dg l) n + dg l n * 65536 ^ n := by
   unfold vL
   rw [h.len, show 17 = n + 1 from by omega]
   rfl
  rw [e, h2, Nat.zero_mul, Nat.add_zero, ← hn]
  exact h1
/-- What a pass of carries keeps. -/
structure RipI (V : Nat) (l : List Nat) (i : Nat) : Prop where
 len : l.length = 17
 val : vL l = V
 low : ∀ j, j < i → dg l j < 65536
 cur : dg l i ≤ 2251799813685248
 high : ∀ j, i < j → dg l j ≤ 1125899906842624
theorem RipI.start {l : List Nat} (hl : l.length = 17) (h : ∀ j, dg l j ≤ 1125899906842624) : RipI (vL l) l 0 :=
 ⟨hl, rfl, fun j hj => by omega, by have := h 0; omega, fun j _ => h j⟩
theorem RipI.next {V : Nat} {l : List Nat} {i : Nat} (h : RipI V l i) (hi : i < 16) : RipI V ((l.set (i + 1) (dg l (i + 1) + dg l i / 65536)).set i (dg l i % 65536)) (i + 1) := by
 have b1 := h.cur
 have b2 := h.high (i + 1) (by omega)
 have hset := fun j => dg_set (l := l) (j := i + 1) (x := dg l (i + 1) + dg l i / 65536) (by rw [h.len]; omega) j
 have hset2 := fun j => dg_set (l := l.set (i + 1) (dg l (i + 1) + dg l i / 65536)) (j := i) (x := dg l i % 65536) (by rw [List.length_set, h.len]; omega) j
 refine ⟨by rw [List.length_set, List.length_set]; exact h.len, ?_, fun j hj => ?_, ?_, fun j hj => ?_⟩
 ·have hs := vL_set (l := l) (j := i + 1) (x := dg l (i + 1) + dg l i / 65536) (by rw [h.len]; omega)
  have hs2 := vL_set (l := l.set (i + 1) (dg l (i + 1) + dg l i / 65536)) (j := i) (x := dg l i % 65536) (by rw [List.length_set, h.len]; omega)
  rw [hset i, if_neg (by omega)] at hs2
  have hv := h.val
  rw [Nat.add_mul, Nat.pow_succ] at hs
  have e : dg l i / 65536 * (65536 ^ i * 65536) + dg l i % 65536 * 65536 ^ i = dg l i * 65536 ^ i := by
   have hm : dg l i % 65536 + 65536 * (dg l i / 65536) = dg l i := Nat.mod_add_div _ _
   conv => rhs; rw [← hm, Nat.add_mul]
   rw [Nat.mul_comm (65536 ^ i) 65536, ← Nat.mul_assoc, Nat.mul_comm (dg l i / 65536) 65536]; omega
  omega
 ·rw [hset2 j]
  split
  ·exact Nat.mod_lt _ (by decide)
  ·rw [hset j, if_neg (by omega)]
   exact h.low j (by omega)
 ·rw [hset2, if_neg (by omega), hset, if_pos rfl]
  omega
 ·rw [hset2, if_neg (by omega), hset, if_neg (by omega)]
  exact h.high j (by omega)
theorem RipI.done {V n : Nat} {l : List Nat} (h : RipI V l n) (hn : n = 16) : dg l n = V / 65536 ^ n ∧ vTo (dg l) n = V % 65536 ^ n := by
 have e : V = vTo (dg l) n + dg l n * 65536 ^ n := by
  rw [← h.val]
  unfold vL
  rw [h.len, show 17 = n + 1 from by omega]
  rfl
 have hlt : vTo (dg l) n < 65536 ^ n := vTo_lt (fun j hj => h.low j hj)
 have hp := pow_posD n
 constructor
 ·rw [e, Nat.mul_comm, Nat.add_mul_div_left _ _ hp, Nat.div_eq_of_lt hlt, Nat.zero_add]
 ·rw [e, Nat.mul_comm, Nat.add_mul_mod_self_left, Nat.mod_eq_of_lt hlt]
/-- How great the number is ahead of each pass. -/
def passB : Nat → Nat
 | 0 => 2847476417175 * 65536 ^ 16 + 1
 | 1 => 65536 ^ 16 + 38 * 2847476417176
 | _ => 65536 ^ 16
/-- What the passes keep. -/
structure PassI (M : Nat) (l : List Nat) (n : Nat) : Prop where
 len : l.length = 17
 all : ∀ j, dg l j ≤ 1125899906842624
 top : dg l 16 = 0
 mod : vL l % fP = M % fP
 lt : vL l < passB n
 dig : n = 3 → ∀ j, dg l j < 65536
/-- The end of a pass: what stands at 2^256 comes in 38 times. -/
theorem PassI.next {M n : Nat} {l l2 : List Nat} (h : PassI M l n) (hn : n < 3) (hr : RipI (vL l) l2 16) : PassI M ((l2.set 0 (dg l2 0 + 38 * dg l2 16)).set 16 0) (n + 1) := by
 have hd := hr.done rfl
 have hset := fun j => dg_set (l := l2) (j := 0) (x := dg l2 0 + 38 * dg l2 16) (by rw [hr.len]; omega) j
 have hset2 := fun j => dg_set (l := l2.set 0 (dg l2 0 + 38 * dg l2 16)) (j := 16) (x := 0) (by rw [List.length_set, hr.len]; omega) j
 have hs := vL_set (l := l2) (j := 0) (x := dg l2 0 + 38 * dg l2 16) (by rw [hr.len]; omega)
 have hs2 := vL_set (l := l2.set 0 (dg l2 0 + 38 * dg l2 16)) (j := 16) (x := 0) (by rw [List.length_set, hr.len]; omega)
 rw [hset 16, if_neg (by omega)] at hs2
 have hv := hr.val
 have hlow := hr.low 0 (by omega)
 have hlt := h.lt
 have hB : (0 : Nat) < 65536 ^ 16 := by decide
 have hdm := Nat.div_add_mod (vL l) (65536 ^ 16)
 have hml : vL l % 65536 ^ 16 < 65536 ^ 16 := Nat.mod_lt _ hB
 rw [← hd.1] at hdm
 have hval : vL ((l2.set 0 (dg l2 0 + 38 * dg l2 16)).set 16 0) = vL l % 65536 ^ 16 + 38 * dg l2 16 := by
  rw [Nat.pow_zero] at hs
  generalize vL ((l2.set 0 (dg l2 0 + 38 * dg l2 16)).set 16 0) = a at *
  generalize vL (l2.set 0 (dg l2 0 + 38 * dg l2 16)) = b at *
  generalize dg l2 16 = t at *
  generalize dg l2 0 = u at *
  generalize vL l % 65536 ^ 16 = r at *
  rw [hv] at hs
  generalize vL l = V at *
  omega
 have htop : dg l2 16 ≤ 2847476417175 := by
  rw [hd.1]
  apply Nat.le_of_lt_succ
  apply Nat.div_lt_of_lt_mul
  have : passB n ≤ 65536 ^ 16 * (2847476417175 + 1) := by
   rcases (show n = 0 ∨ n = 1 ∨ n = 2 by omega) with rfl | rfl | rfl <;> simp only [passB] <;> decide
  omega
 refine ⟨by rw [List.length_set, List.length_set]; exact hr.len, fun j => ?_, ?_, ?_, ?_, fun h3 j => ?_⟩
 ·rw [hset2 j]
  split
  ·exact Nat.zero_le _
  ·rw [hset j]
   split
   ·omega
   ·rcases Nat.lt_or_ge j 16 with h1 | h1
    ·have := hr.low j h1; omega
    ·rw [dg_past (by rw [hr.len]; omega)]; exact Nat.zero_le _
 ·rw [hset2 16, if_pos rfl]
 ·rw [hval, ← h.mod]
  have e2 : 65536 ^ 16 = fP * 2 + 38 := by rw [fP_eq]
  have e3 : vL l = (vL l % 65536 ^ 16 + 38 * dg l2 16) + fP * (2 * dg l2 16) := by
   have e4 : 65536 ^ 16 * dg l2 16 = fP * (2 * dg l2 16) + 38 * dg l2 16 := by rw [e2, Nat.add_mul, Nat.mul_assoc]
   omega
  conv => rhs; rw [e3, Nat.add_mul_mod_self_left]
 ·rw [hval]
  rcases (show n = 0 ∨ n = 1 ∨ n = 2 by omega) with rfl | rfl | rfl
  ·simp only [passB] at hlt ⊢
   omega
  ·simp only [passB] at hlt ⊢
   omega
  ·simp only [passB] at hlt ⊢
   have : dg l2 16 = 0 := by rw [hd.1]; exact Nat.div_eq_of_lt hlt
   omega
 ·obtain rfl : n = 2 := by omega
  simp only [passB] at hlt
  have ht : dg l2 16 = 0 := by rw [hd.1]; exact Nat.div_eq_of_lt hlt
  rw [hset2 j]
  split
  ·decide
  ·rw [hset j]
   split
   ·omega
   ·rcases Nat.lt_or_ge j 16 with h1 | h1
    ·exact hr.low j h1
    ·rw [dg_past (by rw [hr.len]; omega)]; decide
theorem PassI.start {m l : List Nat} (h : LowI m l 16) (hm : m.length = 32) : PassI (vL m) l 0 := by
 have hd := h.done rfl (k := 32) rfl hm
 exact ⟨h.len, fun j => Nat.le_trans (h.all j) (by decide), h.late 16 (Nat.le_refl _), hd.1, Nat.lt_succ_of_le hd.2, fun h => by omega⟩
end Go.Proofs.YthangiocheodoaaGreatDoor.D

/-
 Layer 16's reference: digits.
-/
namespace Go.Proofs.YthangiocheodoaaGreatDoor.N
open Go.RowKit
set_option linter.unusedVariables false
set_option maxRecDepth 8192

/-- A number as 16 digits, as ints. -/
def dA (a : Nat) : Array Value := arr .i64 (D.digL a 16)
theorem dA_def (a : Nat) : dA a = arr .i64 (D.digL a 16) := rfl
theorem dA_size (a : Nat) : (dA a).size = 16 := by rw [dA_def, arr_size, D.digL_length]
theorem dA_one (a : Nat) : (dA a).all (·.oneCell') = true := arr_one _ _
theorem dA_zero : dA 0 = arr .i64 (List.replicate 16 0) := by rw [dA_def, D.digL_zero]
theorem dA_at (b k : Nat) (hk : k < 16) : (dA b)[k]? = some (.int .i64 ((D.dg (D.digL b 16) k : Nat) : Int)) := by
 rw [dA_def, arr_get _ _ k (by rw [D.digL_length]; exact hk)]
 rfl
attribute [irreducible] dA
theorem two_bytes (a k : Nat) : a / 256 ^ (2 * k) % 256 + 256 * (a / 256 ^ (2 * k + 1) % 256) = a / 65536 ^ k % 65536 := by
 have e1 : 256 ^ (2 * k) = 65536 ^ k := by rw [Nat.pow_mul]
 have e2 : a / 256 ^ (2 * k + 1) = a / 65536 ^ k / 256 := by rw [Nat.pow_succ, e1, Nat.div_div_eq_div_mul]
 rw [e1, e2]
 generalize a / 65536 ^ k = b
 omega
theorem Tryz.szD : (Tryz.prog.info? 145).map (·.size) = some 16 := by kernel_rfl
theorem zeroD (w : World) : (zeroValue 145).run Tryz.prog w = .ok (.agg (dA 0)) w := by rw [dA_zero]; kernel_rfl
theorem zeroD16 (w : World) : (zeroValue 145).run Tryz.prog w = .ok (.agg (arr .i64 (List.replicate 16 0))) w := by kernel_rfl
set_option maxHeartbeats 1600000 in
theorem digits_any (a : Nat) (w : World) : Calls Tryz.prog 131 #[.agg (bA a)] w fun e w' => e = .returned (.agg (dA a)) ∧ Below w.heap.size w w' := by
 have V0 := Vars.start w
 go_enter Tryz.func131, Tryz.ntmps131
 go_wp2_with (first
  | (refine wpList_boxV V0 1 22 _ rfl rfl rfl (bA a) rfl ?_; intro w1 g1 V1)
  | (refine wpList_allocV V1 2 145 rfl rfl rfl (dA 0) zeroD ?_; intro w2 g2 V2)
  | (refine wpList_allocV V2 3 145 rfl rfl rfl _ zeroD16 ?_; intro w3 g3 V3))
 clear V0 V1 V2
 have HL : Hid ((D.digL a 16).length = 16) := D.digL_length a 16
 go_loopw [4] (fun y wr => ∃ k : Nat, k ≤ 16 ∧ y = .int .i64 (k : Int) ∧ Hid (Vars w wr [⟨g3, 145, arr .i64 (fillQ (D.digL a 16) 16 k)⟩, ⟨g2, 145, dA 0⟩, ⟨g1, 22, bA a⟩])) (fun y _ => 16 - (intOf y).toNat)
 case atStart => exact ⟨0, by omega, rfl, by rw [show fillQ (D.digL a 16) 16 0 = List.replicate 16 0 from by simp [fillQ]]; exact V3⟩
 case round =>
  clear V3
  obtain ⟨k, hk, rfl, HV⟩ := hrel
  by_cases hlt : k < 16
  ·have V4 := HV.out
   have hc1 : wr.cell? ⟨g1, 2 * k, none⟩ = some (.int .u8 ((a / 256 ^ (2 * k) % 256 : Nat) : Int)) := by rw [cell_of_row wr g1 _ _ _ _ (V4.at 2 rfl), bA_get a _ (by omega)]
   have hc2 : wr.cell? ⟨g1, 2 * k + 1, none⟩ = some (.int .u8 ((a / 256 ^ (2 * k + 1) % 256 : Nat) : Int)) := by rw [cell_of_row wr g1 _ _ _ _ (V4.at 2 rfl), bA_get a _ (by omega)]
   have hc3 := arr_cell (V4.at 0 rfl) k (by simp [fillQ, D.digL_length]; omega)
   have hfz := arr_unfrozen (V4.at 0 rfl) k
   have V5 := V4.setc 0 rfl k (D.dg (D.digL a 16) k)
   have e5 : (fillQ (D.digL a 16) 16 k).set k (D.dg (D.digL a 16) k) = fillQ (D.digL a 16) 16 (k + 1) := fillQ_next HL.out hlt
   rw [e5, D.dg_digL hlt, ← two_bytes a k] at V5
   have HV5 : Hid (Vars w (wr.setCell ⟨g3, k, none⟩ (.int .i64 ((a / 256 ^ (2 * k) % 256 + 256 * (a / 256 ^ (2 * k + 1) % 256) : Nat) : Int))) [⟨g3, 145, arr .i64 (fillQ (D.digL a 16) 16 (k + 1))⟩, ⟨g2, 145, dA 0⟩, ⟨g1, 22, bA a⟩]) := V5
   clear V4 V5 e5
   have hx9 : a / 256 ^ (2 * k) % 256 < 256 := Nat.mod_lt _ (by decide)
   have hy9 : a / 256 ^ (2 * k + 1) % 256 < 256 := Nat.mod_lt _ (by decide)
   generalize a / 256 ^ (2 * k) % 256 = x at *
   generalize a / 256 ^ (2 * k + 1) % 256 = y at *
   generalize (fillQ (D.digL a 16) 16 k)[k]?.getD 0 = old at *
   obtain ⟨k2, hk2⟩ : ∃ k2, 2 * k = k2 := ⟨_, rfl⟩
   rw [hk2] at hc1 hc2
   have e1 : IntKind.i64.wrap (2 * (k : Int)) = (k2 : Int) := by rw [IntKind.wrap_i64]; omega
   have e2 : IntKind.i64.wrap ((k2 : Int) + 1) = (k2 : Int) + 1 := by rw [IntKind.wrap_i64]; omega
   have e2b : ((k2 : Int) + 1).toNat = k2 + 1 := by omega
   have e2c : (0 : Int) ≤ (k2 : Int) + 1 := by omega
   have e2d : (k2 : Int) + 1 < 32 := by omega
   have e2e : (k2 : Int) < 32 := by omega
   obtain ⟨s, hs⟩ : ∃ s, x + 256 * y = s := ⟨_, rfl⟩
   rw [hs] at HV5
   obtain ⟨y2, hy2⟩ : ∃ y2, 256 * y = y2 := ⟨_, rfl⟩
   have e3 : IntKind.i64.wrap (256 * (y : Int)) = (y2 : Int) := by rw [IntKind.wrap_i64]; omega
   have e4 : IntKind.i64.wrap ((x : Int) + (y2 : Int)) = (s : Int) := by rw [IntKind.wrap_i64]; omega
   have e6 : (k : Int) < 16 := by omega
   clear hk2 hs hy2
   go_wp2
   go_region
   go_wp2
   go_roundw
   case rel => exact ⟨k + 1, by omega, by go_num, HV5.out.drew⟩
   case measure => simp [intOf]; omega
  ·obtain rfl : k = 16 := by omega
   have V4 := HV.out
   rw [show fillQ (D.digL a 16) 16 16 = D.digL a 16 from by simp [fillQ, List.take_of_length_le (Nat.le_of_eq HL.out)], ← dA_def] at V4
   go_wp2_with (first
    | (refine wpList_loadV V4 0 rfl 24 _ rfl rfl rfl rfl Tryz.underlying145 Tryz.szD (dA_size _) ?_)
    | (refine wpList_storeV V4 1 rfl _ _ rfl rfl rfl (dA a) rfl rfl Tryz.szD (dA_size _) (dA_size _) (dA_one _) ?_; intro w5 V5))
   exact bodyPost_ret (resV1 rfl _ V5 1 rfl rfl Tryz.underlying145 Tryz.szD (dA_size _)) rfl ⟨rfl, V5.bel⟩
end Go.Proofs.YthangiocheodoaaGreatDoor.N

/-
 Layer 16's reference: Mul.
-/
namespace Go.Proofs.YthangiocheodoaaGreatDoor.N
open Go.RowKit
set_option linter.unusedVariables false
set_option maxRecDepth 8192

theorem dV {a : Nat} (h : a < 2 ^ 256) : D.vL (D.digL a 16) = a := D.vL_digL_lt (by rw [show (65536 : Nat) ^ 16 = 2 ^ 256 from by decide]; exact h)
theorem byte_pair (V i : Nat) : digL V (2 * i) ++ [V / 65536 ^ i % 65536 % 256, V / 65536 ^ i % 65536 / 256] = digL V (2 * (i + 1)) := by
 rw [show 2 * (i + 1) = 2 * i + 1 + 1 from by omega, digL_succ, digL_succ, List.append_assoc]
 congr 1
 have e1 : 256 ^ (2 * i) = 65536 ^ i := by rw [Nat.pow_mul]
 have e2 : V / 256 ^ (2 * i + 1) = V / 65536 ^ i / 256 := by rw [Nat.pow_succ, e1, Nat.div_div_eq_div_mul]
 rw [e1, e2]
 generalize V / 65536 ^ i = b
 show [b % 65536 % 256, b % 65536 / 256] = [b % 256, b / 256 % 256]
 rw [show b % 65536 % 256 = b % 256 from by omega, show b % 65536 / 256 = b / 256 % 256 from by omega]
theorem cells_two_new (w : World) (x y : Value) (T : TypeId) : ∀ j u, [x, y][j]? = some u → (w.alloc (.cells #[x, y] T)).cell? ((⟨w.heap.size, 0, none⟩ : Addr).add j) = some u := by
 intro j u hu
 rw [plain_add, cell_of_row (w.alloc (.cells #[x, y] T)) w.heap.size _ _ _ _ (heap_alloc_last w _), Nat.zero_add]
 simpa using hu
theorem zeroI32 (w : World) : (zeroValue 147).run Tryz.prog w = .ok (.agg (arr .i64 (List.replicate 32 0))) w := by kernel_rfl
theorem zeroI17 (w : World) : (zeroValue 148).run Tryz.prog w = .ok (.agg (arr .i64 (List.replicate 17 0))) w := by kernel_rfl
set_option maxHeartbeats 6400000 in
theorem refMul_any (a b : Nat) (w : World) (ha : a < fP) (hb : b < fP) : Calls Tryz.prog 103 #[.agg (bA a), .agg (bA b)] w fun e w' => e = .returned (.agg (bA (a * b % fP))) ∧ Below w.heap.size w w' := by
 obtain ⟨i0, hi0, hz0, hz1, hz2⟩ := info_parts Tryz.info5
 have HAB : Hid (a < 2 ^ 256 ∧ b < 2 ^ 256) := ⟨Nat.lt_trans ha fP_lt256R, Nat.lt_trans hb fP_lt256R⟩
 clear ha hb
 obtain ⟨r, hr⟩ : ∃ r, a * b % fP = r := ⟨_, rfl⟩
 rw [hr]
 have HR : Hid (a * b % fP = r) := hr
 clear hr
 have V0 := Vars.start w
 go_enter Tryz.func103, Tryz.ntmps103
 go_wp2_with (first
  | (refine wpList_boxV V0 2 22 _ rfl rfl rfl (bA a) rfl ?_; intro w1 g2 V1)
  | (refine wpList_boxV V1 3 22 _ rfl rfl rfl (bA b) rfl ?_; intro w2 g3 V2)
  | (refine zA V2 4 rfl rfl rfl ?_; intro w3 g4 V3)
  | (refine zD V3 2 rfl 16 _ rfl rfl rfl rfl ?_))
 refine (digits_any a _).mono ?_
 rintro e w4 ⟨rfl, q4⟩
 have V4 := V3.call q4
 clear q4 V0 V1 V2 V3
 go_wp2_with (first
  | (refine wpList_allocV V4 5 145 rfl rfl rfl (dA 0) zeroD ?_; intro w5 g5 V5)
  | (refine wpList_storeV V5 0 rfl _ (.tmp 17) rfl rfl rfl (dA a) rfl rfl Tryz.szD (dA_size _) (dA_size _) (dA_one _) ?_; intro w6 V6)
  | (refine zD V6 2 rfl 18 _ rfl rfl rfl rfl ?_))
 refine (digits_any b _).mono ?_
 rintro e w7 ⟨rfl, q7⟩
 have V7 := V6.call q7
 clear q7 V4 V5 V6
 go_wp2_with (first
  | (refine wpList_allocV V7 6 145 rfl rfl rfl (dA 0) zeroD ?_; intro w8 g6 V8)
  | (refine wpList_storeV V8 0 rfl _ (.tmp 19) rfl rfl rfl (dA b) rfl rfl Tryz.szD (dA_size _) (dA_size _) (dA_one _) ?_; intro w9 V9)
  | (refine wpList_allocV V9 7 147 rfl rfl rfl _ zeroI32 ?_; intro w10 g7 V10))
 clear V7 V8 V9
 have HX : Hid (D.Dig (D.digL a 16) ∧ D.Dig (D.digL b 16)) := ⟨D.digL_dig _ _, D.digL_dig _ _⟩
 go_loopw [8] (fun y wr => ∃ (i : Nat) (m : List Nat), i ≤ 16 ∧ y = .int .i64 (i : Int) ∧ Hid (D.WideI (D.digL a 16) (D.digL b 16) m i 0) ∧ Hid (Vars w wr [⟨g7, 147, arr .i64 m⟩, ⟨g6, 145, dA b⟩, ⟨g5, 145, dA a⟩, ⟨g4, 22, bA 0⟩, ⟨g3, 22, bA b⟩, ⟨g2, 22, bA a⟩])) (fun y _ => 16 - (intOf y).toNat)
 case atStart => exact ⟨0, List.replicate 32 0, by omega, rfl, D.WideI.start _ _, V10⟩
 case round =>
  clear V10
  obtain ⟨i, m, hi, rfl, HI, HV⟩ := hrel
  by_cases hlt : i < 16
  ·have hi16 : (i : Int) < 16 := by omega
   go_wp2
   obtain ⟨wo, hwo⟩ : ∃ z, z = wr := ⟨_, rfl⟩
   subst hwo
   go_loopw [9] (fun y wr => ∃ (k : Nat) (m : List Nat), k ≤ 16 ∧ y = .int .i64 (k : Int) ∧ Hid (D.WideI (D.digL a 16) (D.digL b 16) m i k) ∧ Hid (Vars w wr [⟨g7, 147, arr .i64 m⟩, ⟨g6, 145, dA b⟩, ⟨g5, 145, dA a⟩, ⟨g4, 22, bA 0⟩, ⟨g3, 22, bA b⟩, ⟨g2, 22, bA a⟩])) (fun y _ => 16 - (intOf y).toNat)
   case atStart => exact ⟨0, m, by omega, rfl, HI.out, HV.out⟩
   case round =>
    clear HI HV m
    obtain ⟨k, m, hk, rfl, HI, HV⟩ := hrel
    by_cases hlk : k < 16
    ·have V5 := HV.out
     have hc := arr_cell (V5.at 0 rfl) (i + k) (by rw [HI.out.len]; omega)
     rw [show m[i + k]?.getD 0 = D.dg m (i + k) from rfl] at hc
     have hfz := arr_unfrozen (V5.at 0 rfl) (i + k)
     have hcx : wr.cell? ⟨g5, i, none⟩ = some (.int .i64 ((D.dg (D.digL a 16) i : Nat) : Int)) := by rw [cell_of_row wr g5 _ _ _ _ (V5.at 2 rfl), dA_at a _ hlt]
     have hcy : wr.cell? ⟨g6, k, none⟩ = some (.int .i64 ((D.dg (D.digL b 16) k : Nat) : Int)) := by rw [cell_of_row wr g6 _ _ _ _ (V5.at 1 rfl), dA_at b _ hlk]
     have hx9 := HX.out.1.at i
     have hy9 := HX.out.2.at k
     have hz9 := HI.out.late (i + k) (Nat.le_refl _)
     have hz10 : i * 4294836225 ≤ 16 * 4294836225 := Nat.mul_le_mul_right _ (by omega)
     have hxy : D.dg (D.digL a 16) i * D.dg (D.digL b 16) k ≤ 65535 * 65535 := Nat.mul_le_mul (by omega) (by omega)
     have V6 := V5.setc 0 rfl (i + k) (D.dg m (i + k) + D.dg (D.digL a 16) i * D.dg (D.digL b 16) k)
     have HI6 : Hid (D.WideI (D.digL a 16) (D.digL b 16) (m.set (i + k) (D.dg m (i + k) + D.dg (D.digL a 16) i * D.dg (D.digL b 16) k)) i (k + 1)) := HI.out.next HX.out.1 HX.out.2 hlt hlk
     have HV6 : Hid (Vars w (wr.setCell ⟨g7, i + k, none⟩ (.int .i64 ((D.dg m (i + k) + D.dg (D.digL a 16) i * D.dg (D.digL b 16) k : Nat) : Int))) [⟨g7, 147, arr .i64 (m.set (i + k) (D.dg m (i + k) + D.dg (D.digL a 16) i * D.dg (D.digL b 16) k))⟩, ⟨g6, 145, dA b⟩, ⟨g5, 145, dA a⟩, ⟨g4, 22, bA 0⟩, ⟨g3, 22, bA b⟩, ⟨g2, 22, bA a⟩]) := V6
     clear V5 V6
     have exy : (D.dg (D.digL a 16) i : Int) * (D.dg (D.digL b 16) k : Int) = ((D.dg (D.digL a 16) i * D.dg (D.digL b 16) k : Nat) : Int) := (Int.natCast_mul _ _).symm
     generalize D.dg (D.digL a 16) i * D.dg (D.digL b 16) k = xy at *
     generalize D.dg (D.digL a 16) i = x at *
     generalize D.dg (D.digL b 16) k = y at *
     generalize D.dg m (i + k) = z at *
     have ew : IntKind.i64.wrap (xy : Int) = (xy : Int) := by rw [IntKind.wrap_i64]; omega
     have ez : IntKind.i64.wrap ((z : Int) + (xy : Int)) = ((z + xy : Nat) : Int) := by rw [IntKind.wrap_i64]; omega
     obtain ⟨ik, hik⟩ : ∃ ik, i + k = ik := ⟨_, rfl⟩
     have eik : (i : Int) + (k : Int) = (ik : Int) := by omega
     have eiw : IntKind.i64.wrap (ik : Int) = (ik : Int) := by rw [IntKind.wrap_i64]; omega
     have hik32 : (ik : Int) < 32 := by omega
     have hk16 : (k : Int) < 16 := by omega
     rw [hik] at hc hfz HI6 HV6
     obtain ⟨s, hs⟩ : ∃ s, z + xy = s := ⟨_, rfl⟩
     rw [hs] at ez HV6 HI6
     clear hik hs hz9 hz10 hxy
     go_wp2
     go_region
     go_wp2
     go_roundw
     case rel => exact ⟨k + 1, m.set ik s, by omega, by go_num, HI6, HV6.out.drew⟩
     case measure => simp [intOf]; omega
    ·obtain rfl : k = 16 := by omega
     have HI5 : Hid (D.WideI (D.digL a 16) (D.digL b 16) m (i + 1) 0) := HI.out.line (D.digL_length _ _)
     go_wp2
     go_roundw
     case rel => exact ⟨i + 1, m, by omega, by go_num, HI5, HV.out⟩
     case measure => simp [intOf]; omega
  ·obtain rfl : i = 16 := by omega
   have HM : Hid (D.vL m = a * b ∧ m.length = 32 ∧ ∀ j, D.dg m j ≤ 17 * 4294836225) := ⟨by rw [HI.out.done (D.digL_length _ _), dV HAB.out.1, dV HAB.out.2], HI.out.len, fun j => HI.out.all j⟩
   have V11 := HV.out
   clear HI HV
   go_wp2_with (refine wpList_allocV V11 10 148 rfl rfl rfl _ zeroI17 ?_; intro w12 g8 V12)
   clear V11
   go_loopw [11] (fun y wr => ∃ (i : Nat) (l : List Nat), i ≤ 16 ∧ y = .int .i64 (i : Int) ∧ Hid (D.LowI m l i) ∧ Hid (Vars w wr [⟨g8, 148, arr .i64 l⟩, ⟨g7, 147, arr .i64 m⟩, ⟨g6, 145, dA b⟩, ⟨g5, 145, dA a⟩, ⟨g4, 22, bA 0⟩, ⟨g3, 22, bA b⟩, ⟨g2, 22, bA a⟩])) (fun y _ => 16 - (intOf y).toNat)
   case atStart => exact ⟨0, List.replicate 17 0, by omega, rfl, D.LowI.start _, V12⟩
   case round =>
    clear V12
    obtain ⟨i, l, hi, rfl, HI, HV⟩ := hrel
    by_cases hlt : i < 16
    ·have V5 := HV.out
     have hc := arr_cell (V5.at 0 rfl) i (by rw [HI.out.len]; omega)
     have hfz := arr_unfrozen (V5.at 0 rfl) i
     generalize l[i]?.getD 0 = old at *
     have hcx := arr_cell (V5.at 1 rfl) i (by rw [HM.out.2.1]; omega)
     have hcy := arr_cell (V5.at 1 rfl) (16 + i) (by rw [HM.out.2.1]; omega)
     rw [show m[i]?.getD 0 = D.dg m i from rfl] at hcx
     rw [show m[16 + i]?.getD 0 = D.dg m (16 + i) from rfl] at hcy
     have hx9 := HM.out.2.2 i
     have hy9 := HM.out.2.2 (16 + i)
     have V6 := V5.setc 0 rfl i (D.dg m i + 38 * D.dg m (16 + i))
     have HI6 : Hid (D.LowI m (l.set i (D.dg m i + 38 * D.dg m (16 + i))) (i + 1)) := HI.out.next HM.out.2.2 hlt
     have HV6 : Hid (Vars w (wr.setCell ⟨g8, i, none⟩ (.int .i64 ((D.dg m i + 38 * D.dg m (16 + i) : Nat) : Int))) [⟨g8, 148, arr .i64 (l.set i (D.dg m i + 38 * D.dg m (16 + i)))⟩, ⟨g7, 147, arr .i64 m⟩, ⟨g6, 145, dA b⟩, ⟨g5, 145, dA a⟩, ⟨g4, 22, bA 0⟩, ⟨g3, 22, bA b⟩, ⟨g2, 22, bA a⟩]) := V6
     clear V5 V6
     generalize D.dg m i = x at *
     generalize D.dg m (16 + i) = y at *
     obtain ⟨y2, hy2⟩ : ∃ y2, 38 * y = y2 := ⟨_, rfl⟩
     rw [hy2] at HI6 HV6
     have ey : IntKind.i64.wrap (38 * (y : Int)) = (y2 : Int) := by rw [IntKind.wrap_i64]; omega
     obtain ⟨s, hs⟩ : ∃ s, x + y2 = s := ⟨_, rfl⟩
     rw [hs] at HI6 HV6
     have es : IntKind.i64.wrap ((x : Int) + (y2 : Int)) = (s : Int) := by rw [IntKind.wrap_i64]; omega
     obtain ⟨i6, hi6⟩ : ∃ i6, 16 + i = i6 := ⟨_, rfl⟩
     rw [hi6] at hcy
     have ei : IntKind.i64.wrap (16 + (i : Int)) = (i6 : Int) := by rw [IntKind.wrap_i64]; omega
     have hi32 : (i6 : Int) < 32 := by omega
     have hi33 : (i : Int) < 32 := by omega
     have hi17 : (i : Int) < 17 := by omega
     have hi16 : (i : Int) < 16 := by omega
     clear hy2 hs hi6 hx9 hy9
     go_wp2
     go_region
     go_wp2
     go_roundw
     case rel => exact ⟨i + 1, l.set i s, by omega, by go_num, HI6, HV6.out.drew⟩
     case measure => simp [intOf]; omega
    ·obtain rfl : i = 16 := by omega
     have HP : Hid (D.PassI (a * b) l 0) := by
      have := D.PassI.start HI.out HM.out.2.1
      rwa [HM.out.1] at this
     have V13 := HV.out
     clear HI HV
     go_wp2
     go_loopw [12] (fun y wr => ∃ (n : Nat) (l : List Nat), n ≤ 3 ∧ y = .int .i64 (n : Int) ∧ Hid (D.PassI (a * b) l n) ∧ Hid (Vars w wr [⟨g8, 148, arr .i64 l⟩, ⟨g7, 147, arr .i64 m⟩, ⟨g6, 145, dA b⟩, ⟨g5, 145, dA a⟩, ⟨g4, 22, bA 0⟩, ⟨g3, 22, bA b⟩, ⟨g2, 22, bA a⟩])) (fun y _ => 3 - (intOf y).toNat)
     case atStart => exact ⟨0, l, by omega, rfl, HP.out, V13⟩
     case round =>
      clear HP V13 l
      obtain ⟨n, l, hn, rfl, HP, HV⟩ := hrel
      by_cases hlt : n < 3
      ·have hn3 : (n : Int) < 3 := by omega
       have HRI : Hid (D.RipI (D.vL l) l 0) := D.RipI.start HP.out.len HP.out.all
       have V14 := HV.out
       go_wp2
       obtain ⟨wo, hwo⟩ : ∃ z, z = wr := ⟨_, rfl⟩
       subst hwo
       generalize hVL : D.vL l = VL at *
       have HVL : Hid (D.vL l = VL) := hVL
       clear hVL
       go_loopw [13] (fun y wr => ∃ (i : Nat) (k : List Nat), i ≤ 16 ∧ y = .int .i64 (i : Int) ∧ Hid (D.RipI VL k i) ∧ Hid (Vars w wr [⟨g8, 148, arr .i64 k⟩, ⟨g7, 147, arr .i64 m⟩, ⟨g6, 145, dA b⟩, ⟨g5, 145, dA a⟩, ⟨g4, 22, bA 0⟩, ⟨g3, 22, bA b⟩, ⟨g2, 22, bA a⟩])) (fun y _ => 16 - (intOf y).toNat)
       case atStart => exact ⟨0, l, by omega, rfl, HRI.out, V14⟩
       case round =>
        clear HRI V14 HV
        obtain ⟨i, k, hi, rfl, HI, HV⟩ := hrel
        by_cases hlt : i < 16
        ·have V5 := HV.out
         have hc := arr_cell (V5.at 0 rfl) i (by rw [HI.out.len]; omega)
         have hc1 := arr_cell (V5.at 0 rfl) (i + 1) (by rw [HI.out.len]; omega)
         rw [show k[i]?.getD 0 = D.dg k i from rfl] at hc
         rw [show k[i + 1]?.getD 0 = D.dg k (i + 1) from rfl] at hc1
         have hfz1 := arr_unfrozen (V5.at 0 rfl) (i + 1)
         have hx9 := HI.out.cur
         have hy9 := HI.out.high (i + 1) (by omega)
         have V6 := V5.setc 0 rfl (i + 1) (D.dg k (i + 1) + D.dg k i / 65536)
         have HV6 : Hid (Vars w (wr.setCell ⟨g8, i + 1, none⟩ (.int .i64 ((D.dg k (i + 1) + D.dg k i / 65536 : Nat) : Int))) [⟨g8, 148, arr .i64 (k.set (i + 1) (D.dg k (i + 1) + D.dg k i / 65536))⟩, ⟨g7, 147, arr .i64 m⟩, ⟨g6, 145, dA b⟩, ⟨g5, 145, dA a⟩, ⟨g4, 22, bA 0⟩, ⟨g3, 22, bA b⟩, ⟨g2, 22, bA a⟩]) := V6
         have hc6 := arr_cell (V6.at 0 rfl) i (by rw [List.length_set, HI.out.len]; omega)
         rw [show (k.set (i + 1) (D.dg k (i + 1) + D.dg k i / 65536))[i]?.getD 0 = D.dg (k.set (i + 1) (D.dg k (i + 1) + D.dg k i / 65536)) i from rfl, D.dg_set (by rw [HI.out.len]; omega), if_neg (by omega)] at hc6
         have hfz6 := arr_unfrozen (V6.at 0 rfl) i
         have V7 := V6.setc 0 rfl i (D.dg k i % 65536)
         have HV7 : Hid (Vars w ((wr.setCell ⟨g8, i + 1, none⟩ (.int .i64 ((D.dg k (i + 1) + D.dg k i / 65536 : Nat) : Int))).setCell ⟨g8, i, none⟩ (.int .i64 ((D.dg k i % 65536 : Nat) : Int))) [⟨g8, 148, arr .i64 ((k.set (i + 1) (D.dg k (i + 1) + D.dg k i / 65536)).set i (D.dg k i % 65536))⟩, ⟨g7, 147, arr .i64 m⟩, ⟨g6, 145, dA b⟩, ⟨g5, 145, dA a⟩, ⟨g4, 22, bA 0⟩, ⟨g3, 22, bA b⟩, ⟨g2, 22, bA a⟩]) := V7
         have HI7 : Hid (D.RipI VL ((k.set (i + 1) (D.dg k (i + 1) + D.dg k i / 65536)).set i (D.dg k i % 65536)) (i + 1)) := HI.out.next hlt
         clear V5 V6 V7
         generalize (k.set (i + 1) (D.dg k (i + 1) + D.dg k i / 65536)).set i (D.dg k i % 65536) = k7 at *
         generalize D.dg k i = x at *
         generalize D.dg k (i + 1) = y at *
         have et : (x : Int).tdiv 65536 = ((x / 65536 : Nat) : Int) := by rw [Int.tdiv_eq_ediv_of_nonneg (by omega)]; omega
         have em : (x : Int).tmod 65536 = ((x % 65536 : Nat) : Int) := by rw [Int.tmod_eq_emod_of_nonneg (by omega)]; omega
         have ewq : IntKind.i64.wrap ((x / 65536 : Nat) : Int) = ((x / 65536 : Nat) : Int) := by rw [IntKind.wrap_i64]; omega
         have hq9 : x / 65536 ≤ x := Nat.div_le_self _ _
         generalize x / 65536 = q at *
         generalize x % 65536 = xm at *
         obtain ⟨s, hs⟩ : ∃ s, y + q = s := ⟨_, rfl⟩
         rw [hs] at HV6 hc6 hfz6 HV7
         have es : IntKind.i64.wrap ((y : Int) + (q : Int)) = (s : Int) := by rw [IntKind.wrap_i64]; omega
         obtain ⟨i1, hi1⟩ : ∃ i1, i + 1 = i1 := ⟨_, rfl⟩
         have ei : IntKind.i64.wrap ((i : Int) + 1) = (i1 : Int) := by rw [IntKind.wrap_i64]; omega
         have hi17 : (i1 : Int) < 17 := by omega
         have hj17 : (i : Int) < 17 := by omega
         have hj16 : (i : Int) < 16 := by omega
         rw [hi1] at hc1 hfz1 hc6 hfz6 HV7
         clear HV6 hs
         have HI1 : Hid (i + 1 = i1) := hi1
         clear hi1
         go_wp2
         go_region
         go_wp2
         go_roundw
         case rel => exact ⟨i1, k7, by have := HI1.out; omega, by first | rfl | go_num, by rw [← HI1.out]; exact HI7, HV7.out.drew⟩
         case measure => have := HI1.out; simp [intOf]; omega
        ·obtain rfl : i = 16 := by omega
         have V5 := HV.out
         have hc0 := arr_cell (V5.at 0 rfl) 0 (by rw [HI.out.len]; omega)
         have hc16 := arr_cell (V5.at 0 rfl) 16 (by rw [HI.out.len]; omega)
         rw [show k[0]?.getD 0 = D.dg k 0 from rfl] at hc0
         rw [show k[16]?.getD 0 = D.dg k 16 from rfl] at hc16
         have hfz0 := arr_unfrozen (V5.at 0 rfl) 0
         have hx9 := HI.out.low 0 (by omega)
         have hy9 := HI.out.cur
         have V6 := V5.setc 0 rfl 0 (D.dg k 0 + 38 * D.dg k 16)
         have hc6 := arr_cell (V6.at 0 rfl) 16 (by rw [List.length_set, HI.out.len]; omega)
         have hfz6 := arr_unfrozen (V6.at 0 rfl) 16
         have V7 := V6.setc 0 rfl 16 0
         have HV7 : Hid (Vars w ((wr.setCell ⟨g8, 0, none⟩ (.int .i64 ((D.dg k 0 + 38 * D.dg k 16 : Nat) : Int))).setCell ⟨g8, 16, none⟩ (.int .i64 0)) [⟨g8, 148, arr .i64 ((k.set 0 (D.dg k 0 + 38 * D.dg k 16)).set 16 0)⟩, ⟨g7, 147, arr .i64 m⟩, ⟨g6, 145, dA b⟩, ⟨g5, 145, dA a⟩, ⟨g4, 22, bA 0⟩, ⟨g3, 22, bA b⟩, ⟨g2, 22, bA a⟩]) := V7
         have HP7 : Hid (D.PassI (a * b) ((k.set 0 (D.dg k 0 + 38 * D.dg k 16)).set 16 0) (n + 1)) := HP.out.next (by assumption) (by rw [HVL.out]; exact HI.out)
         clear V5 V6 V7
         generalize (k.set 0 (D.dg k 0 + 38 * D.dg k 16)).set 16 0 = k7 at *
         generalize (k.set 0 (D.dg k 0 + 38 * D.dg k 16))[16]?.getD 0 = old at *
         generalize D.dg k 0 = x at *
         generalize D.dg k 16 = y at *
         obtain ⟨y2, hy2⟩ : ∃ y2, 38 * y = y2 := ⟨_, rfl⟩
         rw [hy2] at HV7 hc6 hfz6
         have ey : IntKind.i64.wrap (38 * (y : Int)) = (y2 : Int) := by rw [IntKind.wrap_i64]; omega
         obtain ⟨s, hs⟩ : ∃ s, x + y2 = s := ⟨_, rfl⟩
         rw [hs] at HV7 hc6 hfz6
         have es : IntKind.i64.wrap ((x : Int) + (y2 : Int)) = (s : Int) := by rw [IntKind.wrap_i64]; omega
         clear hy2 hs hx9 hy9
         go_wp2
         go_roundw
         case rel => exact ⟨n + 1, k7, by omega, by go_num, HP7, HV7.out⟩
         case measure => simp [intOf]; omega
      ·obtain rfl : n = 3 := by omega
       have hlt2 : D.vL l < 2 ^ 256 := by
        have := HP.out.lt
        simp only [D.passB] at this
        rwa [show (65536 : Nat) ^ 16 = 2 ^ 256 from by decide] at this
       have hdl : D.Dig l := fun x hx => by
        obtain ⟨j, hj, rfl⟩ := List.mem_iff_getElem.1 hx
        have := HP.out.dig rfl j
        unfold D.dg at this
        rwa [List.getElem?_eq_getElem hj] at this
       have HLow : Hid (D.Dig l ∧ D.vL l < 2 ^ 256 ∧ D.vL l % fP = r ∧ l.length = 17) := ⟨hdl, hlt2, by rw [HP.out.mod, HR.out], HP.out.len⟩
       clear hlt2 hdl
       have V15 := HV.out
       clear HP HV
       go_wp2
       obtain ⟨wL, hwL⟩ : ∃ z, z = wr := ⟨_, rfl⟩
       subst hwL
       obtain ⟨VL, hVL⟩ : ∃ v, D.vL l = v := ⟨_, rfl⟩
       rw [hVL] at HLow
       have HVL : Hid (D.vL l = VL) := hVL
       clear hVL
       rw [show ((16 : Nat) : Int) = 16 from rfl, show ((3 : Nat) : Int) = 3 from rfl]
       go_loopw [14, 15] (fun v y wr => ∃ i : Nat, i ≤ 16 ∧ y = .int .i64 (i : Int) ∧ Hid (wr.ownsRow wL.heap.size 5 1 v (2 * i) ((nI (digL VL (2 * i))).map (Value.int .u8))) ∧ Hid (Below wL.heap.size wL wr)) (fun _ y _ => 16 - (intOf y).toNat)
       case atStart => exact ⟨0, by omega, rfl, World.ownsRow_nil _ _ _ _, Below.refl _ _⟩
       case round =>
        obtain ⟨i, hi, rfl, HO, HB⟩ := hrel
        have sB := HB.out.size
        by_cases hlt : i < 16
        ·have HC : Hid (∀ w', Below wL.heap.size wL w' → w'.cell? ⟨g8, i, none⟩ = some (.int .i64 ((VL / 65536 ^ i % 65536 : Nat) : Int))) := by
          intro w' q
          have := arr_cell ((V15.call q).at 0 rfl) i (by rw [HLow.out.2.2.2]; omega)
          rw [show l[i]?.getD 0 = D.dg l i from rfl, D.dg_of HLow.out.1, HVL.out] at this
          exact this
         have HT := byte_pair VL i
         have HTT : Hid (digL VL (2 * i) ++ [VL / 65536 ^ i % 65536 % 256, VL / 65536 ^ i % 65536 / 256] = digL VL (2 * (i + 1))) := HT
         clear HT
         have hd9 : VL / 65536 ^ i % 65536 < 65536 := Nat.mod_lt _ (by decide)
         generalize VL / 65536 ^ i % 65536 = d at *
         have et : (d : Int).tdiv 256 = ((d / 256 : Nat) : Int) := by rw [Int.tdiv_eq_ediv_of_nonneg (by omega)]; omega
         have em : (d : Int).tmod 256 = ((d % 256 : Nat) : Int) := by rw [Int.tmod_eq_emod_of_nonneg (by omega)]; omega
         have hq9 : d / 256 < 256 := by omega
         have hm9 : d % 256 < 256 := by omega
         generalize d / 256 = dq at *
         generalize d % 256 = dm at *
         have eq1 : IntKind.i64.wrap (dq : Int) = (dq : Int) := by rw [IntKind.wrap_i64]; omega
         have eq2 : IntKind.u8.wrap (dq : Int) = (dq : Int) := by rw [IntKind.wrap_u8]; omega
         have eq3 : IntKind.u8.wrap (dm : Int) = (dm : Int) := by rw [IntKind.wrap_u8]; omega
         have hi17 : (i : Int) < 17 := by omega
         have hi16 : (i : Int) < 16 := by omega
         have hS : (fun w' => Below wL.heap.size wL w') wr.drew := HB.out.drew
         have ownd : wr.drew.ownsRow wL.heap.size 5 1 _ (2 * i) ((nI (digL VL (2 * i))).map (Value.int .u8)) := HO.out
         go_wp2
         refine av_open (fun w' => Below wL.heap.size wL w') (by kernel_rfl) ?_
         refine zR [0, 1, 2, 3, 4, 5, 6, 7, 8, 9, 10] 3 (by kernel_rfl) (fun _ _ _ _ _ h => h) hS fun K hK => ?_
         refine calm_move _ rfl (by rfl) rfl ?_
         go_simp
         refine calm_move _ rfl (by rfl) rfl ?_
         go_simp
         refine zC (.pointer (some ⟨g8, i, none⟩)) rfl (by rfl) (fun w' hw' => ?_) ?_
         ·go_simp
         go_simp
         refine zC (.int .i64 (d : Int)) rfl (by rfl) (fun w' hw' => ?_) ?_
         ·have hcc := HC.out w' hw'
          go_simp
         go_simp
         refine zC (.int .i64 (dm : Int)) rfl (by rfl) (fun w' hw' => ?_) ?_
         ·go_simp
         go_simp
         refine zC (.int .u8 (dm : Int)) rfl (by rfl) (fun w' hw' => ?_) ?_
         ·go_simp
         go_simp
         refine calm_move _ rfl (by rfl) rfl ?_
         go_simp
         refine zC (.pointer (some ⟨g8, i, none⟩)) rfl (by rfl) (fun w' hw' => ?_) ?_
         ·go_simp
         go_simp
         refine zC (.int .i64 (d : Int)) rfl (by rfl) (fun w' hw' => ?_) ?_
         ·have hcc := HC.out w' hw'
          go_simp
         go_simp
         refine zC (.int .i64 (dq : Int)) rfl (by rfl) (fun w' hw' => ?_) ?_
         ·go_simp
         go_simp
         refine zC (.int .u8 (dq : Int)) rfl (by rfl) (fun w' hw' => ?_) ?_
         ·go_simp
         go_simp
         refine calm_nil (hK.out _ ?_)
         clear hK K
         refine zO 11 2 (by kernel_rfl) rfl (by rfl) fun K hK => ?_
         have hS2 : Below wL.heap.size wL (wr.drew.alloc (.cells #[.int .u8 (dm : Int), .int .u8 (dq : Int)] 5)) := Below.alloc hS sB _
         go_simp
         refine hK _ _ hS2 ?_
         clear hK K
         refine zO 12 1 (by kernel_rfl) rfl (by rfl) fun K hK => ?_
         refine wp_append_own _ (.tmp 98) (.tmp 109) 24 rfl wL.heap.size 5 i0 (.int .u8 0) 1 1 Tryz.underlying24 hi0 hz0 hz1 hz2 rfl (by decide) _ _ _ rfl (ownd.alloc _) ⟨wr.heap.size, 0, none⟩ 2 2 [.int .u8 (dm : Int), .int .u8 (dq : Int)] rfl rfl (cells_two_new wr.drew _ _ _) (by intro u hu; simp at hu; rcases hu with rfl | rfl <;> rfl) (by unfold maxLen; omega) (by omega) (by simp; omega) ?_
         intro v' w9 hown' hgrow _
         have R2 : Below wL.heap.size wL w9 := hS2.grown hgrow (by simp; omega) (fun j hj => (ownd.lt j hj).1)
         have R1 : w9.ownsRow wL.heap.size 5 1 v' (2 * (i + 1)) ((nI (digL VL (2 * (i + 1)))).map (Value.int .u8)) := by
          rw [← HTT.out, nI_append, List.map_append]
          exact hown'
         clear hown' hgrow
         refine hK _ _ R2 ?_
         clear hK K
         refine zR [13] 0 (by kernel_rfl) (fun _ _ _ _ _ h => h) R2 fun K hK => ?_
         go_simp
         refine calm_assign _ rfl (by rfl) rfl ?_
         go_simp
         refine calm_nil (hK.out _ ?_)
         clear hK K
         refine wpAnyH_done (by kernel_rfl) ?_ _
         go_wp2
         go_roundw
         case rel => exact ⟨i + 1, by omega, by go_num, R1, R2⟩
         case measure => simp [intOf]; omega
        ·obtain rfl : i = 16 := by omega
         obtain ⟨ao, co, rfl, ro⟩ := row_of_owns HO.out
         have V16 := V15.call HB.out
         have cR := refRound_any (digL VL 32) (digL_dig _ _) ao 32 co wr ro (by decide)
         rw [vB HLow.out.2.1, HLow.out.2.2.1] at cR
         unfold Gives at cR
         have hr9 : r < 2 ^ 256 := by rw [← HR.out]; exact Nat.lt_trans (mod_fP _) fP_lt256R
         have hl9 : (nb r).length ≤ 32 := nb_len (by rw [b256]; exact hr9)
         have HF : Hid (∀ (w : World) (a1 : Option Addr) (c1 : Nat), Row .u8 w a1 (nb r).length c1 (nI (nb r)) → Rt Tryz.prog 70 #[.slice a1 (nb r).length c1] (.agg (bA r)) w) := by
          intro w a1 c1 hr
          have := refFull_any (nb r) (dig_nb r) a1 (nb r).length c1 w hr hl9
          rwa [vL_nb] at this
         clear V15 HO HB ro hr9 hl9 sB
         generalize (nb r).length = nr at *
         go_wp2_with fail
         refine cR.mono ?_
         rintro e w17 ⟨a17, c17, rfl, r17, q17⟩
         have V17 := V16.call q17
         clear cR q17 V16
         go_wp2_with fail
         refine (HF.out w17 a17 c17 r17).mono ?_
         rintro e w18 ⟨rfl, q18⟩
         have V18 := V17.call q18
         clear q18 V17 r17
         go_wp2_with (refine wpList_storeV V18 4 rfl _ _ rfl rfl rfl (bA r) rfl rfl Tryz.szB (bA_size _) (bA_size _) (bA_one _) ?_; intro w19 V19)
         exact bodyPost_ret (resV1 rfl _ V19 4 rfl rfl Tryz.underlying22 Tryz.szB (bA_size _)) rfl ⟨rfl, V19.bel⟩
end Go.Proofs.YthangiocheodoaaGreatDoor.N
