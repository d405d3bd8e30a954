/-
  Numbers as words of 64 bits, the lowest first, in plain words: digits, sums of products with carries.
-/
import Derived.Test.YtgofapndgjfnhaaDoorNumPlain
namespace Go.Proofs.YtgofapndgjfnhaaDoor.W
set_option linter.unusedVariables false
set_option maxRecDepth 8192

/-- What the first n digits say. -/
def vTo (f : Nat → Nat) : Nat → Nat
  | 0 => 0
  | n + 1 => vTo f n + f n * 18446744073709551616 ^ n
def dg (l : List Nat) (i : Nat) : Nat := l[i]?.getD 0
def vL (l : List Nat) : Nat := vTo (dg l) l.length

theorem dg_past {l : List Nat} {i : Nat} (h : l.length ≤ i) : dg l i = 0 := by unfold dg; rw [List.getElem?_eq_none h]; rfl
theorem vTo_congr {f g : Nat → Nat} {n : Nat} (h : ∀ i, i < n → f i = g i) : vTo f n = vTo g n := by
  induction n with
  | zero => rfl
  | succ n ih => simp only [vTo]; rw [ih (fun i hi => h i (by omega)), h n (by omega)]
theorem vTo_lt {f : Nat → Nat} {n : Nat} (h : ∀ i, i < n → f i < 18446744073709551616) : vTo f n < 18446744073709551616 ^ n := by
  induction n with
  | zero => simp [vTo]
  | succ n ih =>
    have h1 := ih (fun i hi => h i (by omega))
    have h2 : f n + 1 ≤ 18446744073709551616 := h n (by omega)
    have h3 := Nat.mul_le_mul_right (18446744073709551616 ^ n) h2
    simp only [vTo, Nat.pow_succ]
    rw [Nat.add_mul] at h3
    rw [Nat.mul_comm (18446744073709551616 ^ n)]
    omega
theorem vTo_tail {f : Nat → Nat} {n m : Nat} (hnm : n ≤ m) (h : ∀ i, n ≤ i → f i = 0) : vTo f m = vTo f n := by
  induction m with
  | zero => rw [show n = 0 from by omega]
  | succ m ih =>
    rcases Nat.lt_or_ge m n with h1 | h1
    · rw [show n = m + 1 from by omega]
    · simp only [vTo]; rw [ih h1, h m h1]; omega
theorem vL_to (l : List Nat) (m : Nat) (h : l.length ≤ m) : vTo (dg l) m = vL l := vTo_tail h (fun i hi => dg_past hi)
theorem vTo_ge {f : Nat → Nat} {n j : Nat} (h : j < n) : f j * 18446744073709551616 ^ j ≤ vTo f n := by
  induction n with
  | zero => omega
  | succ n ih =>
    simp only [vTo]
    rcases Nat.lt_or_ge j n with h1 | h1
    · have := ih h1; omega
    · rw [show j = n from by omega]; omega
theorem vTo_mono (f : Nat → Nat) {n m : Nat} (h : n ≤ m) : vTo f n ≤ vTo f m := by
  induction m with
  | zero => rw [show n = 0 from by omega]; exact Nat.le_refl _
  | succ m ih =>
    rcases Nat.lt_or_ge m n with h1 | h1
    · rw [show n = m + 1 from by omega]; exact Nat.le_refl _
    · have := ih h1; simp only [vTo]; omega
theorem vTo_same {f g : Nat → Nat} {n m : Nat} (hnm : n ≤ m) (h : ∀ i, n ≤ i → i < m → f i = g i) : vTo f m + vTo g n = vTo g m + vTo f n := by
  induction m with
  | zero => rw [show n = 0 from by omega]; rfl
  | succ m ih =>
    rcases Nat.lt_or_ge m n with h1 | h1
    · rw [show n = m + 1 from by omega]; omega
    · have := ih h1 (fun i h2 h3 => h i h2 (by omega)); simp only [vTo]; rw [h m h1 (by omega)]; omega
theorem dg_set {l : List Nat} {j x : Nat} (hj : j < l.length) (i : Nat) : dg (l.set j x) i = if i = j then x else dg l i := by
  unfold dg
  rw [List.getElem?_set]
  by_cases h : j = i
  · subst h; simp [hj]
  · rw [if_neg h, if_neg (fun h' => h h'.symm)]
theorem vTo_upd {f g : Nat → Nat} {n j x : Nat} (hj : j < n) (hg : ∀ i, g i = if i = j then x else f i) : vTo g n + f j * 18446744073709551616 ^ j = vTo f n + x * 18446744073709551616 ^ j := by
  induction n with
  | zero => omega
  | succ n ih =>
    simp only [vTo]
    rcases Nat.lt_or_ge j n with h1 | h1
    · have := ih h1
      rw [hg n, if_neg (by omega)]
      omega
    · have e : j = n := by omega
      subst e
      rw [hg j, if_pos rfl, vTo_congr (g := f) (n := j) (fun i hi => by rw [hg i, if_neg (by omega)])]
      omega
theorem vL_set {l : List Nat} {j x : Nat} (hj : j < l.length) : vL (l.set j x) + dg l j * 18446744073709551616 ^ j = vL l + x * 18446744073709551616 ^ j := by
  unfold vL
  rw [List.length_set]
  exact vTo_upd hj (dg_set hj)

/-- Digits of a number. -/
def digL (x n : Nat) : List Nat := (List.range n).map (fun i => x / 18446744073709551616 ^ i % 18446744073709551616)
theorem digL_length (x n : Nat) : (digL x n).length = n := by simp [digL]
theorem digL_succ (x n : Nat) : digL x (n + 1) = digL x n ++ [x / 18446744073709551616 ^ n % 18446744073709551616] := by simp [digL, List.range_succ]
theorem dg_digL {x n i : Nat} (h : i < n) : dg (digL x n) i = x / 18446744073709551616 ^ i % 18446744073709551616 := by simp [dg, digL, h]
theorem vL_digL (x n : Nat) : vL (digL x n) = x % 18446744073709551616 ^ n := by
  unfold vL
  rw [digL_length]
  have : ∀ m, vTo (fun i => x / 18446744073709551616 ^ i % 18446744073709551616) m = x % 18446744073709551616 ^ m := by
    intro m
    induction m with
    | zero => simp [vTo, Nat.mod_one]
    | succ m ih => simp only [vTo]; rw [ih, Nat.pow_succ, Nat.mod_mul, Nat.mul_comm (18446744073709551616 ^ m)]
  rw [← this n]
  exact vTo_congr (fun i hi => dg_digL hi)
def Dig (l : List Nat) : Prop := ∀ x ∈ l, x < 18446744073709551616
theorem Dig.at {l : List Nat} (h : Dig l) (i : Nat) : dg l i < 18446744073709551616 := by
  unfold dg
  rcases Nat.lt_or_ge i l.length with hi | hi
  · rw [List.getElem?_eq_getElem hi]; exact h _ (List.getElem_mem hi)
  · rw [List.getElem?_eq_none hi]; decide
theorem Dig.set {l : List Nat} (h : Dig l) (j : Nat) {x : Nat} (hx : x < 18446744073709551616) : Dig (l.set j x) := by
  intro y hy
  rcases List.mem_or_eq_of_mem_set hy with h1 | rfl
  · exact h y h1
  · exact hx
theorem digL_dig (x n : Nat) : Dig (digL x n) := by
  intro y hy
  simp only [digL, List.mem_map] at hy
  obtain ⟨i, _, rfl⟩ := hy
  exact Nat.mod_lt _ (by decide)
theorem Dig.vlt {l : List Nat} (h : Dig l) (m : Nat) : vTo (dg l) m < 18446744073709551616 ^ m := vTo_lt (fun i _ => h.at i)
theorem Dig.zero {n : Nat} : Dig (List.replicate n 0) := by
  intro x hx; rw [(List.mem_replicate.1 hx).2]; decide
theorem vL_zero (n : Nat) : vL (List.replicate n 0) = 0 := by
  have : ∀ m, vTo (dg (List.replicate n 0)) m = 0 := by
    intro m
    induction m with
    | zero => rfl
    | succ m ih =>
      simp only [vTo, ih]
      have : dg (List.replicate n 0) m = 0 := by
        unfold dg
        rw [List.getElem?_replicate]
        split <;> rfl
      rw [this]; omega
  exact this _

/-- What Times' inner loop keeps: a's first i digits times b are in out (that was o); of a's digit i times b's first k digits the rest is the carry. -/
structure TimI (a b o out : List Nat) (i k c : Nat) : Prop where
  len : out.length = a.length + b.length + 1
  dig : Dig out
  clt : c < 18446744073709551616
  val : vL out + c * 18446744073709551616 ^ (i + k) = vTo (dg a) i * vL b + dg a i * 18446744073709551616 ^ i * vTo (dg b) k
theorem TimI.room {a b o out : List Nat} {i k c : Nat} (h : TimI a b o out i k c) (ha : Dig a) (hb : Dig b) (hi : i < a.length) (hk : k < b.length ∨ 0 < c) : i + k < a.length + b.length + 1 ∧ (b.length ≤ k → k = b.length) := by
  rcases hk with h1 | h1
  · exact ⟨by omega, fun h2 => by omega⟩
  · have e1 : vTo (dg b) k ≤ vL b := by
      rcases Nat.lt_or_ge k b.length with h2 | h2
      · exact vTo_mono _ (Nat.le_of_lt h2)
      · rw [vL_to b k h2]; exact Nat.le_refl _
    have e2 : vTo (dg a) i * vL b + dg a i * 18446744073709551616 ^ i * vTo (dg b) k ≤ vTo (dg a) (i + 1) * vL b := by
      simp only [vTo]; rw [Nat.add_mul]
      exact Nat.add_le_add_left (Nat.mul_le_mul_left _ e1) _
    have e3 : vTo (dg a) (i + 1) * vL b < 18446744073709551616 ^ (i + 1) * 18446744073709551616 ^ b.length := by
      have p1 := ha.vlt (i + 1)
      have p2 := hb.vlt b.length
      rcases Nat.eq_zero_or_pos (vL b) with hz | hz
      · rw [hz]; simp [Nat.pow_pos]
      · exact Nat.lt_of_lt_of_le (Nat.mul_lt_mul_of_pos_right p1 hz) (Nat.mul_le_mul_left _ (Nat.le_of_lt p2))
    rw [← Nat.pow_add] at e3
    have e4 : 18446744073709551616 ^ (i + k) ≤ c * 18446744073709551616 ^ (i + k) := Nat.le_mul_of_pos_left _ h1
    have e5 := h.val
    have e6 : 18446744073709551616 ^ (i + k) < 18446744073709551616 ^ (i + 1 + b.length) := by omega
    have := (Nat.pow_lt_pow_iff_right (a := 18446744073709551616) (by decide)).1 e6
    exact ⟨by omega, fun h2 => by omega⟩
theorem TimI.next {a b o out : List Nat} {i k c x : Nat} (h : TimI a b o out i k c) (ha : Dig a) (hb : Dig b) (hi : i + k < a.length + b.length + 1) (hx : x = dg out (i + k) + c + dg a i * dg b k) :
    TimI a b o (out.set (i + k) (x % 18446744073709551616)) i (k + 1) (x / 18446744073709551616) := by
  have b1 : dg a i ≤ 18446744073709551615 := by have := ha.at i; omega
  have b2 : dg b k ≤ 18446744073709551615 := by have := hb.at k; omega
  have b3 := Nat.mul_le_mul b1 b2
  have b4 := h.dig.at (i + k)
  have b5 := h.clt
  refine ⟨by rw [List.length_set]; exact h.len, h.dig.set _ (Nat.mod_lt _ (by decide)), by omega, ?_⟩
  have hs := vL_set (l := out) (j := i + k) (x := x % 18446744073709551616) (by rw [h.len]; exact hi)
  have hv := h.val
  rw [← Nat.add_assoc i k 1, Nat.pow_succ]
  simp only [vTo]
  have hq : 18446744073709551616 ^ (i + k) = 18446744073709551616 ^ i * 18446744073709551616 ^ k := Nat.pow_add _ _ _
  have hm : x % 18446744073709551616 + 18446744073709551616 * (x / 18446744073709551616) = x := Nat.mod_add_div x 18446744073709551616
  have e1 : x / 18446744073709551616 * (18446744073709551616 ^ (i + k) * 18446744073709551616) + x % 18446744073709551616 * 18446744073709551616 ^ (i + k) = x * 18446744073709551616 ^ (i + k) := by
    conv => rhs; rw [← hm, Nat.add_mul]
    rw [Nat.mul_comm (18446744073709551616 ^ (i + k)) 18446744073709551616, ← Nat.mul_assoc, Nat.mul_comm (x / 18446744073709551616) 18446744073709551616]; omega
  have e2 : x * 18446744073709551616 ^ (i + k) = dg out (i + k) * 18446744073709551616 ^ (i + k) + c * 18446744073709551616 ^ (i + k) + dg a i * 18446744073709551616 ^ i * (dg b k * 18446744073709551616 ^ k) := by
    rw [hx, Nat.add_mul, Nat.add_mul]
    congr 1
    rw [hq, Nat.mul_mul_mul_comm]
  rw [Nat.mul_add]
  omega
theorem TimI.begin {a b out : List Nat} {i : Nat} (hl : out.length = a.length + b.length + 1) (hd : Dig out) (hv : vL out = vTo (dg a) i * vL b) : TimI a b out out i 0 0 :=
  ⟨hl, hd, by decide, by simp [vTo, hv]⟩
theorem TimI.done {a b o out : List Nat} {i k : Nat} (h : TimI a b o out i k 0) (hk : b.length ≤ k) : vL out = vTo (dg a) (i + 1) * vL b := by
  have := h.val
  rw [vL_to b k hk] at this
  simp only [vTo]; rw [Nat.add_mul]; omega

/-- Which of two numbers is above the other is told by the highest digit at which they are unlike. -/
theorem vTo_above {f g : Nat → Nat} {i n : Nat} (hi : i < n) (hf : ∀ j, f j < 18446744073709551616) (hg : ∀ j, g j < 18446744073709551616) (h : ∀ j, i < j → j < n → f j = g j) (hne : f i ≠ g i) : (g i < f i ↔ vTo g n < vTo f n) := by
  have e := vTo_same (f := f) (g := g) (n := i + 1) (m := n) (by omega) (fun j h1 h2 => h j (by omega) h2)
  have p1 := vTo_lt (f := f) (n := i) (fun j _ => hf j)
  have p2 := vTo_lt (f := g) (n := i) (fun j _ => hg j)
  simp only [vTo] at e
  constructor
  · intro h1
    have := Nat.mul_le_mul_right (18446744073709551616 ^ i) (show g i + 1 ≤ f i from h1)
    rw [Nat.add_mul] at this
    omega
  · intro h1
    rcases Nat.lt_or_ge (g i) (f i) with h2 | h2
    · exact h2
    · have := Nat.mul_le_mul_right (18446744073709551616 ^ i) (show f i + 1 ≤ g i from by omega)
      rw [Nat.add_mul] at this
      omega
theorem vL_snoc (l : List Nat) (x : Nat) : vL (l ++ [x]) = vL l + x * 18446744073709551616 ^ l.length := by
  unfold vL
  rw [List.length_append, List.length_singleton]
  simp only [vTo]
  congr 1
  · exact vTo_congr (fun i hi => by unfold dg; rw [List.getElem?_append_left hi])
  · unfold dg; simp

theorem pow_posW (n : Nat) : 0 < 18446744073709551616 ^ n := Nat.pow_pos (by decide)
/-- A digit is what the number says. -/
theorem dg_of {l : List Nat} (h : Dig l) (i : Nat) : dg l i = vL l / 18446744073709551616 ^ i % 18446744073709551616 := by
  rcases Nat.lt_or_ge i l.length with hi | hi
  · have e : ∀ m, i < m → vTo (dg l) m / 18446744073709551616 ^ i % 18446744073709551616 = dg l i := by
      intro m
      induction m with
      | zero => intro h; omega
      | succ m ih =>
        intro him
        simp only [vTo]
        rcases Nat.lt_or_ge i m with h1 | h1
        · obtain ⟨d, rfl⟩ : ∃ d, m = i + 1 + d := ⟨m - (i + 1), by omega⟩
          rw [show dg l (i + 1 + d) * 18446744073709551616 ^ (i + 1 + d) = 18446744073709551616 ^ i * (18446744073709551616 * (dg l (i + 1 + d) * 18446744073709551616 ^ d)) from by
            rw [Nat.pow_add, Nat.pow_add]; simp only [Nat.pow_one, Nat.mul_comm, Nat.mul_left_comm, Nat.mul_assoc]]
          rw [Nat.add_mul_div_left _ _ (pow_posW i), Nat.add_mul_mod_self_left]
          exact ih h1
        · obtain rfl : i = m := by omega
          rw [Nat.mul_comm (dg l i), Nat.add_mul_div_left _ _ (pow_posW i), Nat.div_eq_of_lt (h.vlt i), Nat.zero_add]
          exact Nat.mod_eq_of_lt (h.at i)
    exact (e l.length hi).symm
  · rw [dg_past hi]
    have : vL l < 18446744073709551616 ^ i := Nat.lt_of_lt_of_le (h.vlt l.length) (Nat.pow_le_pow_right (by decide) hi)
    rw [Nat.div_eq_of_lt this]
theorem list_dg {l m : List Nat} (hl : l.length = m.length) (h : ∀ i, dg l i = dg m i) : l = m := by
  apply List.ext_getElem hl
  intro i h1 h2
  have := h i
  unfold dg at this
  rw [List.getElem?_eq_getElem h1, List.getElem?_eq_getElem h2] at this
  exact this
theorem Dig.ext {l m : List Nat} (h : Dig l) (h' : Dig m) (hl : l.length = m.length) (hv : vL l = vL m) : l = m :=
  list_dg hl (fun i => by rw [dg_of h, dg_of h', hv])
theorem digL_of {l : List Nat} (h : Dig l) : l = digL (vL l) l.length := by
  refine h.ext (digL_dig _ _) (digL_length _ _).symm ?_
  rw [vL_digL]; exact (Nat.mod_eq_of_lt (h.vlt l.length)).symm
theorem vL_digL_lt {x n : Nat} (h : x < 18446744073709551616 ^ n) : vL (digL x n) = x := by rw [vL_digL, Nat.mod_eq_of_lt h]
theorem digL_zero (n : Nat) : digL 0 n = List.replicate n 0 := by
  rw [digL_of (Dig.zero (n := n)), vL_zero, List.length_replicate]


theorem Dig.vL_lt {l : List Nat} (h : Dig l) : vL l < 18446744073709551616 ^ l.length := h.vlt _
theorem split_q (x k : Nat) : x / 18446744073709551616 * (18446744073709551616 ^ k * 18446744073709551616) + x % 18446744073709551616 * 18446744073709551616 ^ k = x * 18446744073709551616 ^ k := by
  have hm : x % 18446744073709551616 + 18446744073709551616 * (x / 18446744073709551616) = x := Nat.mod_add_div x 18446744073709551616
  conv => rhs; rw [← hm, Nat.add_mul]
  rw [Nat.mul_comm (18446744073709551616 ^ k) 18446744073709551616, ← Nat.mul_assoc, Nat.mul_comm (x / 18446744073709551616) 18446744073709551616]; omega
theorem vL_four {b : List Nat} (h : b.length = 4) : vTo (dg b) 4 = vL b := by unfold vL; rw [h]
/-- What plus keeps. -/
structure PlusI (a b m : List Nat) (k c : Nat) : Prop where
  len : m.length = 4
  dig : Dig m
  cl : c ≤ 1
  val : vL m + c * 18446744073709551616 ^ k = vL a + vTo (dg b) k
theorem PlusI.start {a : List Nat} (b : List Nat) (h : a.length = 4) (hd : Dig a) : PlusI a b a 0 0 := ⟨h, hd, Nat.zero_le _, by simp only [vTo, Nat.zero_mul, Nat.add_zero]⟩
theorem PlusI.next {a b m : List Nat} {k c x : Nat} (h : PlusI a b m k c) (hb : Dig b) (hk : k < 4) (hx : x = dg m k + dg b k + c) : PlusI a b (m.set k (x % 18446744073709551616)) (k + 1) (x / 18446744073709551616) := by
  have b1 := h.dig.at k
  have b2 := hb.at k
  have b3 := h.cl
  refine ⟨by rw [List.length_set]; exact h.len, h.dig.set _ (Nat.mod_lt _ (by decide)), by omega, ?_⟩
  have hs := vL_set (l := m) (j := k) (x := x % 18446744073709551616) (by rw [h.len]; exact hk)
  have hv := h.val
  have e1 := split_q x k
  have e2 : x * 18446744073709551616 ^ k = dg m k * 18446744073709551616 ^ k + dg b k * 18446744073709551616 ^ k + c * 18446744073709551616 ^ k := by rw [hx, Nat.add_mul, Nat.add_mul]
  rw [Nat.pow_succ]
  simp only [vTo]
  omega
theorem PlusI.done {a b m : List Nat} {c : Nat} (h : PlusI a b m 4 c) (hb : b.length = 4) (hs : vL a + vL b < 18446744073709551616 ^ 4) : m = digL (vL a + vL b) 4 := by
  have hv := h.val
  rw [vL_four hb] at hv
  have hc : c = 0 := by
    rcases Nat.eq_zero_or_pos c with h1 | h1
    · exact h1
    · have := Nat.le_mul_of_pos_left (18446744073709551616 ^ 4) h1
      omega
  subst hc
  refine h.dig.ext (digL_dig _ _) (by rw [h.len, digL_length]) ?_
  rw [vL_digL_lt hs]
  omega
/-- What minus keeps. -/
structure MinusI (a b m : List Nat) (k c : Nat) : Prop where
  len : m.length = 4
  dig : Dig m
  cl : c ≤ 1
  val : vL m + vTo (dg b) k = vL a + c * 18446744073709551616 ^ k
theorem MinusI.start {a : List Nat} (b : List Nat) (h : a.length = 4) (hd : Dig a) : MinusI a b a 0 0 := ⟨h, hd, Nat.zero_le _, by simp only [vTo, Nat.zero_mul, Nat.add_zero]⟩
theorem MinusI.next {a b m : List Nat} {k c x d : Nat} (h : MinusI a b m k c) (hk : k < 4) (hx9 : x < 18446744073709551616) (hd : d ≤ 1) (hx : x + dg b k + c = dg m k + 18446744073709551616 * d) : MinusI a b (m.set k x) (k + 1) d := by
  refine ⟨by rw [List.length_set]; exact h.len, h.dig.set _ hx9, hd, ?_⟩
  have hs := vL_set (l := m) (j := k) (x := x) (by rw [h.len]; exact hk)
  have hv := h.val
  have e := congrArg (fun y => y * 18446744073709551616 ^ k) hx
  simp only [Nat.add_mul] at e
  rw [Nat.pow_succ, show d * (18446744073709551616 ^ k * 18446744073709551616) = 18446744073709551616 * d * 18446744073709551616 ^ k from by rw [Nat.mul_comm (18446744073709551616 ^ k) 18446744073709551616, ← Nat.mul_assoc, Nat.mul_comm d 18446744073709551616]]
  simp only [vTo]
  omega
theorem MinusI.done {a b m : List Nat} {c : Nat} (h : MinusI a b m 4 c) (ha : vL a < 18446744073709551616 ^ 4) (hb : b.length = 4) (hb2 : vL b < 18446744073709551616 ^ 4) : (c == 1) = decide (vL a < vL b) ∧ m = digL ((vL a + 18446744073709551616 ^ 4 - vL b) % 18446744073709551616 ^ 4) 4 := by
  have hv := h.val
  have hm := h.dig.vL_lt
  rw [h.len] at hm
  rw [vL_four hb] at hv
  have hcl := h.cl
  have hm2 : m = digL (vL m) 4 := by have := digL_of h.dig; rwa [h.len] at this
  generalize vL m = v at *
  subst hm2
  rcases (show c = 0 ∨ c = 1 by omega) with rfl | rfl
  · refine ⟨(decide_eq_false (by omega)).symm, ?_⟩
    rw [show vL a + 18446744073709551616 ^ 4 - vL b = v + 18446744073709551616 ^ 4 from by omega, Nat.add_mod_right, Nat.mod_eq_of_lt hm]
  · refine ⟨(decide_eq_true (by omega)).symm, ?_⟩
    rw [show vL a + 18446744073709551616 ^ 4 - vL b = v from by omega, Nat.mod_eq_of_lt hm]
theorem mul_lt_pow {x y n m k : Nat} (hk : n + m = k) (h1 : x < 18446744073709551616 ^ n) (h2 : y < 18446744073709551616 ^ m) : x * y < 18446744073709551616 ^ k := by
  rw [← hk, Nat.pow_add]; exact Nat.mul_lt_mul_of_lt_of_lt h1 h2
/-- What product keeps. -/
structure MulI (a b m : List Nat) (i k c : Nat) : Prop where
  len : m.length = 8
  dig : Dig m
  cl : c < 18446744073709551616
  val : vL m + c * 18446744073709551616 ^ (i + k) = vTo (dg a) i * vL b + dg a i * 18446744073709551616 ^ i * vTo (dg b) k
  top : ∀ j, i + 4 ≤ j → dg m j = 0
theorem MulI.next {a b m : List Nat} {i k c x : Nat} (h : MulI a b m i k c) (ha : Dig a) (hb : Dig b) (hi : i < 4) (hk : k < 4) (hx : x = dg a i * dg b k + dg m (i + k) + c) : MulI a b (m.set (i + k) (x % 18446744073709551616)) i (k + 1) (x / 18446744073709551616) := by
  have b1 : dg a i ≤ 18446744073709551616 - 1 := by have := ha.at i; omega
  have b2 : dg b k ≤ 18446744073709551616 - 1 := by have := hb.at k; omega
  have b3 := Nat.mul_le_mul b1 b2
  have b4 := h.dig.at (i + k)
  have b5 := h.cl
  refine ⟨by rw [List.length_set]; exact h.len, h.dig.set _ (Nat.mod_lt _ (by decide)), by omega, ?_, fun j hj => ?_⟩
  · have hs := vL_set (l := m) (j := i + k) (x := x % 18446744073709551616) (by rw [h.len]; omega)
    have hv := h.val
    have e1 := split_q x (i + k)
    have e2 : x * 18446744073709551616 ^ (i + k) = dg a i * 18446744073709551616 ^ i * (dg b k * 18446744073709551616 ^ k) + dg m (i + k) * 18446744073709551616 ^ (i + k) + c * 18446744073709551616 ^ (i + k) := by
      rw [hx, Nat.add_mul, Nat.add_mul, Nat.pow_add, Nat.mul_mul_mul_comm]
    rw [← Nat.add_assoc i k 1, Nat.pow_succ]
    simp only [vTo]
    rw [Nat.mul_add]
    omega
  · rw [dg_set (by rw [h.len]; omega), if_neg (by omega)]
    exact h.top j hj
theorem MulI.line {a b m : List Nat} {i c : Nat} (h : MulI a b m i 4 c) (hb : b.length = 4) (hi : i < 4) : MulI a b (m.set (i + 4) c) (i + 1) 0 0 := by
  refine ⟨by rw [List.length_set]; exact h.len, h.dig.set _ h.cl, by decide, ?_, fun j hj => ?_⟩
  · have hs := vL_set (l := m) (j := i + 4) (x := c) (by rw [h.len]; omega)
    have hv := h.val
    rw [h.top (i + 4) (Nat.le_refl _)] at hs
    rw [vL_four hb] at hv
    simp only [vTo, Nat.mul_zero, Nat.zero_mul, Nat.add_zero, Nat.add_mul] at hs ⊢
    omega
  · rw [dg_set (by rw [h.len]; omega), if_neg (by omega)]
    exact h.top j (by omega)
theorem MulI.start (a b : List Nat) : MulI a b (List.replicate 8 0) 0 0 0 := by
  refine ⟨rfl, Dig.zero, by decide, by rw [vL_zero]; simp only [vTo, Nat.zero_mul, Nat.mul_zero, Nat.add_zero], fun j hj => ?_⟩
  unfold dg
  rw [List.getElem?_replicate]
  split <;> rfl
theorem MulI.done {a b m : List Nat} {n : Nat} (h : MulI a b m n 0 0) (ha : a.length = n) (hl : m.length = 8) (hs : vL a * vL b < 18446744073709551616 ^ 8) : m = digL (vL a * vL b) 8 := by
  have hv := h.val
  have e : vTo (dg a) n = vL a := by unfold vL; rw [ha]
  rw [e] at hv
  simp only [vTo, Nat.mul_zero, Nat.zero_mul, Nat.add_zero] at hv
  rw [← hv] at hs ⊢
  have := digL_of h.dig
  rwa [hl] at this
/-- What folded keeps. -/
structure FoldI (l m : List Nat) (k c : Nat) : Prop where
  len : m.length = 4
  dig : Dig m
  cl : c ≤ 38
  val : vL m + c * 18446744073709551616 ^ k = 38 * vTo (fun j => dg l (j + 4)) k + vTo (dg l) k
  top : ∀ j, k ≤ j → dg m j = 0
theorem FoldI.start (l : List Nat) : FoldI l (List.replicate 4 0) 0 0 := by
  refine ⟨rfl, Dig.zero, by decide, by rw [vL_zero]; simp only [vTo, Nat.zero_mul, Nat.mul_zero, Nat.add_zero], fun j hj => ?_⟩
  unfold dg
  rw [List.getElem?_replicate]
  split <;> rfl
theorem FoldI.next {l m : List Nat} {k c x : Nat} (h : FoldI l m k c) (hl : Dig l) (hk : k < 4) (hx : x = dg l (k + 4) * 38 + dg l k + c) : FoldI l (m.set k (x % 18446744073709551616)) (k + 1) (x / 18446744073709551616) := by
  have b1 := hl.at (k + 4)
  have b2 := hl.at k
  have b3 := h.cl
  refine ⟨by rw [List.length_set]; exact h.len, h.dig.set _ (Nat.mod_lt _ (by decide)), by omega, ?_, fun j hj => ?_⟩
  · have hs := vL_set (l := m) (j := k) (x := x % 18446744073709551616) (by rw [h.len]; exact hk)
    rw [h.top k (Nat.le_refl _)] at hs
    have hv := h.val
    have e1 := split_q x k
    have e2 : x * 18446744073709551616 ^ k = 38 * (dg l (k + 4) * 18446744073709551616 ^ k) + dg l k * 18446744073709551616 ^ k + c * 18446744073709551616 ^ k := by
      rw [hx, Nat.add_mul, Nat.add_mul, Nat.mul_right_comm, Nat.mul_comm _ 38]
    rw [Nat.pow_succ]
    simp only [vTo, Nat.mul_add]
    omega
  · rw [dg_set (by rw [h.len]; exact hk), if_neg (by omega)]
    exact h.top j (by omega)
theorem vTo_shift (l : List Nat) (m n : Nat) : vTo (dg l) m + 18446744073709551616 ^ m * vTo (fun j => dg l (j + m)) n = vTo (dg l) (n + m) := by
  induction n with
  | zero => rw [Nat.zero_add]; simp only [vTo, Nat.mul_zero, Nat.add_zero]
  | succ n ih =>
    rw [show n + 1 + m = (n + m) + 1 from by omega]
    have e1 : vTo (dg l) (n + m + 1) = vTo (dg l) (n + m) + dg l (n + m) * 18446744073709551616 ^ (n + m) := rfl
    have e2 : vTo (fun j => dg l (j + m)) (n + 1) = vTo (fun j => dg l (j + m)) n + dg l (n + m) * 18446744073709551616 ^ n := rfl
    rw [e1, e2, ← ih, Nat.mul_add, Nat.pow_add 18446744073709551616 n m, Nat.mul_left_comm (18446744073709551616 ^ m), Nat.mul_comm (18446744073709551616 ^ m) (18446744073709551616 ^ n), Nat.add_assoc]
theorem FoldI.done {l m : List Nat} {n k c : Nat} (h : FoldI l m n c) (hn : n = 4) (hk : n + n = k) (hl : l.length = k) (hd : Dig l) : ∃ hi lo, vL l = lo + 18446744073709551616 ^ n * hi ∧ lo < 18446744073709551616 ^ n ∧ vL m + c * 18446744073709551616 ^ n = 38 * hi + lo := by
  refine ⟨vTo (fun j => dg l (j + n)) n, vTo (dg l) n, ?_, hd.vlt n, ?_⟩
  · rw [vTo_shift l n n, hk]
    unfold vL; rw [hl]
  · rw [h.val, hn]
/-- A number's word, by its value. -/
theorem dg_lt_of {m : List Nat} (h : Dig m) {q v : Nat} (hv : vL m < 18446744073709551616 ^ q * v) : dg m q < v := by
  rw [dg_of h]
  exact Nat.lt_of_le_of_lt (Nat.mod_le _ _) (Nat.div_lt_of_lt_mul hv)
theorem pow_split (k : Nat) : 256 ^ k = 18446744073709551616 ^ (k / 8) * 256 ^ (k % 8) := by
  rw [show 18446744073709551616 = 256 ^ 8 from by decide, ← Nat.pow_mul, ← Nat.pow_add]
  congr 1
  omega
theorem top_split {m : List Nat} (hl : m.length = 4) (h : Dig m) : dg m 3 / 9223372036854775808 = vL m / 2 ^ 255 ∧ m.set 3 (dg m 3 % 9223372036854775808) = digL (vL m % 2 ^ 255) 4 := by
  have hs := vL_set (l := m) (j := 3) (x := dg m 3 % 9223372036854775808) (by rw [hl]; decide)
  have hd := h.at 3
  have hv := h.vL_lt
  rw [hl] at hv
  have e : dg m 3 = vL m / 18446744073709551616 ^ 3 := by
    rw [dg_of h, Nat.mod_eq_of_lt]
    exact Nat.div_lt_of_lt_mul (by rw [show 18446744073709551616 ^ 3 * 18446744073709551616 = 18446744073709551616 ^ 4 from by decide]; exact hv)
  have e2 := Nat.div_add_mod (vL m) (18446744073709551616 ^ 3)
  have e3 : vL m % 18446744073709551616 ^ 3 < 18446744073709551616 ^ 3 := Nat.mod_lt _ (by decide)
  rw [← e] at e2
  generalize vL m = v at *
  generalize dg m 3 = d at *
  have k1 : d / 9223372036854775808 = v / 2 ^ 255 := by omega
  refine ⟨k1, ?_⟩
  have hdig : Dig (m.set 3 (d % 9223372036854775808)) := h.set _ (by omega)
  have hl2 : (m.set 3 (d % 9223372036854775808)).length = 4 := by rw [List.length_set]; exact hl
  refine hdig.ext (digL_dig _ _) (by rw [hl2, digL_length]) ?_
  rw [vL_digL_lt (by omega)]
  omega
/-- A byte laid in. -/
theorem read_next {m : List Nat} {a k x : Nat} (hl : m.length = 4) (h : Dig m) (hv : vL m = a % 256 ^ k) (hk : k < 32) (hx : x = a / 256 ^ k % 256) :
    dg m (k / 8) < 256 ^ (k % 8) ∧ x * 256 ^ (k % 8) < 18446744073709551616 ∧ dg m (k / 8) ||| x * 256 ^ (k % 8) = dg m (k / 8) + x * 256 ^ (k % 8) ∧ dg m (k / 8) + x * 256 ^ (k % 8) < 18446744073709551616 ∧
      vL (m.set (k / 8) (dg m (k / 8) + x * 256 ^ (k % 8))) = a % 256 ^ (k + 1) := by
  have hp : 0 < 256 ^ k := Nat.pow_pos (by decide)
  have h1 : dg m (k / 8) < 256 ^ (k % 8) := dg_lt_of h (by rw [← pow_split, hv]; exact Nat.mod_lt _ hp)
  have hx9 : x < 256 := by rw [hx]; exact Nat.mod_lt _ (by decide)
  have h2 : (x + 1) * 256 ^ (k % 8) ≤ 256 ^ 8 := by
    have e1 : (x + 1) * 256 ^ (k % 8) ≤ 256 * 256 ^ (k % 8) := Nat.mul_le_mul_right _ hx9
    have e2 : 256 * 256 ^ (k % 8) = 256 ^ (k % 8 + 1) := by rw [Nat.pow_succ, Nat.mul_comm]
    have e3 : 256 ^ (k % 8 + 1) ≤ 256 ^ 8 := Nat.pow_le_pow_right (by decide) (by omega)
    omega
  rw [Nat.add_mul, Nat.one_mul, show (256 : Nat) ^ 8 = 18446744073709551616 from by decide] at h2
  refine ⟨h1, by omega, ?_, by omega, ?_⟩
  · rw [Nat.or_comm, show (256 : Nat) ^ (k % 8) = 2 ^ (8 * (k % 8)) from by rw [Nat.pow_mul], Nat.mul_comm, ← Nat.two_pow_add_eq_or_of_lt (by rw [Nat.pow_mul]; exact h1)]
    omega
  · have hs := vL_set (l := m) (j := k / 8) (x := dg m (k / 8) + x * 256 ^ (k % 8)) (by rw [hl]; omega)
    rw [Nat.add_mul, Nat.mul_assoc, Nat.mul_comm (256 ^ (k % 8)), ← pow_split, hv] at hs
    rw [Nat.pow_succ, Nat.mod_mul, ← hx, Nat.mul_comm (256 ^ k)]
    omega
/-- A byte of a number, by its words. -/
theorem told_byte (a k : Nat) : a / 18446744073709551616 ^ (k / 8) % 18446744073709551616 / 256 ^ (k % 8) % 256 = a / 256 ^ k % 256 := by
  have hk : k % 8 < 8 := Nat.mod_lt _ (by decide)
  rw [pow_split k, ← Nat.div_div_eq_div_mul]
  generalize a / 18446744073709551616 ^ (k / 8) = b
  have e : 18446744073709551616 = 256 ^ (k % 8) * (256 * 256 ^ (7 - k % 8)) := by
    rw [show 256 * 256 ^ (7 - k % 8) = 256 ^ (8 - k % 8) from by rw [show 8 - k % 8 = (7 - k % 8) + 1 from by omega, Nat.pow_succ, Nat.mul_comm], ← Nat.pow_add, show k % 8 + (8 - k % 8) = 8 from by omega]
  rw [e, Nat.mod_mul_right_div_self, Nat.mod_mul_right_mod]
theorem power_bit (n i : Nat) : n / 18446744073709551616 ^ (i / 64) % 18446744073709551616 / 2 ^ (i % 64) % 2 = n / 2 ^ i % 2 := by
  have hk : i % 64 < 64 := Nat.mod_lt _ (by decide)
  have e0 : 2 ^ i = 18446744073709551616 ^ (i / 64) * 2 ^ (i % 64) := by
    rw [show 18446744073709551616 = 2 ^ 64 from by decide, ← Nat.pow_mul, ← Nat.pow_add]
    congr 1
    omega
  rw [e0, ← Nat.div_div_eq_div_mul]
  generalize n / 18446744073709551616 ^ (i / 64) = b
  have e : 18446744073709551616 = 2 ^ (i % 64) * (2 * 2 ^ (63 - i % 64)) := by
    rw [show 2 * 2 ^ (63 - i % 64) = 2 ^ (64 - i % 64) from by rw [show 64 - i % 64 = (63 - i % 64) + 1 from by omega, Nat.pow_succ, Nat.mul_comm], ← Nat.pow_add, show i % 64 + (64 - i % 64) = 64 from by omega]
  rw [e, Nat.mod_mul_right_div_self, Nat.mod_mul_right_mod]
end Go.Proofs.YtgofapndgjfnhaaDoor.W
