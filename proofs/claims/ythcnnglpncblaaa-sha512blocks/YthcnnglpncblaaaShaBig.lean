/-
  Layer 13, in plain words: numbers as digits of 16 bits, the lowest first: sums of products with carries, comparisons.
-/
namespace Go.Proofs.Ythcnnglpncblaaa
set_option linter.unusedVariables false
set_option maxRecDepth 8192

/-- What the first n digits say. -/
def vTo (f : Nat → Nat) : Nat → Nat
  | 0 => 0
  | n + 1 => vTo f n + f n * 65536 ^ n
def dg (l : List Nat) (i : Nat) : Nat := l[i]?.getD 0
def vL (l : List Nat) : Nat := vTo (dg l) l.length

theorem dg_past {l : List Nat} {i : Nat} (h : l.length ≤ i) : dg l i = 0 := by unfold dg; rw [List.getElem?_eq_none h]; rfl
theorem vTo_congr {f g : Nat → Nat} {n : Nat} (h : ∀ i, i < n → f i = g i) : vTo f n = vTo g n := by
  induction n with
  | zero => rfl
  | succ n ih => simp only [vTo]; rw [ih (fun i hi => h i (by omega)), h n (by omega)]
theorem vTo_lt {f : Nat → Nat} {n : Nat} (h : ∀ i, i < n → f i < 65536) : vTo f n < 65536 ^ n := by
  induction n with
  | zero => simp [vTo]
  | succ n ih =>
    have h1 := ih (fun i hi => h i (by omega))
    have h2 : f n + 1 ≤ 65536 := h n (by omega)
    have h3 := Nat.mul_le_mul_right (65536 ^ n) h2
    simp only [vTo, Nat.pow_succ]
    rw [Nat.add_mul] at h3
    rw [Nat.mul_comm (65536 ^ n)]
    omega
theorem vTo_tail {f : Nat → Nat} {n m : Nat} (hnm : n ≤ m) (h : ∀ i, n ≤ i → f i = 0) : vTo f m = vTo f n := by
  induction m with
  | zero => rw [show n = 0 from by omega]
  | succ m ih =>
    rcases Nat.lt_or_ge m n with h1 | h1
    · rw [show n = m + 1 from by omega]
    · simp only [vTo]; rw [ih h1, h m h1]; omega
theorem vL_to (l : List Nat) (m : Nat) (h : l.length ≤ m) : vTo (dg l) m = vL l := vTo_tail h (fun i hi => dg_past hi)
theorem vTo_ge {f : Nat → Nat} {n j : Nat} (h : j < n) : f j * 65536 ^ j ≤ vTo f n := by
  induction n with
  | zero => omega
  | succ n ih =>
    simp only [vTo]
    rcases Nat.lt_or_ge j n with h1 | h1
    · have := ih h1; omega
    · rw [show j = n from by omega]; omega
theorem vTo_mono (f : Nat → Nat) {n m : Nat} (h : n ≤ m) : vTo f n ≤ vTo f m := by
  induction m with
  | zero => rw [show n = 0 from by omega]; exact Nat.le_refl _
  | succ m ih =>
    rcases Nat.lt_or_ge m n with h1 | h1
    · rw [show n = m + 1 from by omega]; exact Nat.le_refl _
    · have := ih h1; simp only [vTo]; omega
theorem vTo_same {f g : Nat → Nat} {n m : Nat} (hnm : n ≤ m) (h : ∀ i, n ≤ i → i < m → f i = g i) : vTo f m + vTo g n = vTo g m + vTo f n := by
  induction m with
  | zero => rw [show n = 0 from by omega]; rfl
  | succ m ih =>
    rcases Nat.lt_or_ge m n with h1 | h1
    · rw [show n = m + 1 from by omega]; omega
    · have := ih h1 (fun i h2 h3 => h i h2 (by omega)); simp only [vTo]; rw [h m h1 (by omega)]; omega
theorem dg_set {l : List Nat} {j x : Nat} (hj : j < l.length) (i : Nat) : dg (l.set j x) i = if i = j then x else dg l i := by
  unfold dg
  rw [List.getElem?_set]
  by_cases h : j = i
  · subst h; simp [hj]
  · rw [if_neg h, if_neg (fun h' => h h'.symm)]
theorem vTo_upd {f g : Nat → Nat} {n j x : Nat} (hj : j < n) (hg : ∀ i, g i = if i = j then x else f i) : vTo g n + f j * 65536 ^ j = vTo f n + x * 65536 ^ j := by
  induction n with
  | zero => omega
  | succ n ih =>
    simp only [vTo]
    rcases Nat.lt_or_ge j n with h1 | h1
    · have := ih h1
      rw [hg n, if_neg (by omega)]
      omega
    · have e : j = n := by omega
      subst e
      rw [hg j, if_pos rfl, vTo_congr (g := f) (n := j) (fun i hi => by rw [hg i, if_neg (by omega)])]
      omega
theorem vL_set {l : List Nat} {j x : Nat} (hj : j < l.length) : vL (l.set j x) + dg l j * 65536 ^ j = vL l + x * 65536 ^ j := by
  unfold vL
  rw [List.length_set]
  exact vTo_upd hj (dg_set hj)

/-- Digits of a number. -/
def digL (x n : Nat) : List Nat := (List.range n).map (fun i => x / 65536 ^ i % 65536)
theorem digL_length (x n : Nat) : (digL x n).length = n := by simp [digL]
theorem digL_succ (x n : Nat) : digL x (n + 1) = digL x n ++ [x / 65536 ^ n % 65536] := by simp [digL, List.range_succ]
theorem dg_digL {x n i : Nat} (h : i < n) : dg (digL x n) i = x / 65536 ^ i % 65536 := by simp [dg, digL, h]
theorem vL_digL (x n : Nat) : vL (digL x n) = x % 65536 ^ n := by
  unfold vL
  rw [digL_length]
  have : ∀ m, vTo (fun i => x / 65536 ^ i % 65536) m = x % 65536 ^ m := by
    intro m
    induction m with
    | zero => simp [vTo, Nat.mod_one]
    | succ m ih => simp only [vTo]; rw [ih, Nat.pow_succ, Nat.mod_mul, Nat.mul_comm (65536 ^ m)]
  rw [← this n]
  exact vTo_congr (fun i hi => dg_digL hi)
def Dig (l : List Nat) : Prop := ∀ x ∈ l, x < 65536
theorem Dig.at {l : List Nat} (h : Dig l) (i : Nat) : dg l i < 65536 := by
  unfold dg
  rcases Nat.lt_or_ge i l.length with hi | hi
  · rw [List.getElem?_eq_getElem hi]; exact h _ (List.getElem_mem hi)
  · rw [List.getElem?_eq_none hi]; decide
theorem Dig.set {l : List Nat} (h : Dig l) (j : Nat) {x : Nat} (hx : x < 65536) : Dig (l.set j x) := by
  intro y hy
  rcases List.mem_or_eq_of_mem_set hy with h1 | rfl
  · exact h y h1
  · exact hx
theorem digL_dig (x n : Nat) : Dig (digL x n) := by
  intro y hy
  simp only [digL, List.mem_map] at hy
  obtain ⟨i, _, rfl⟩ := hy
  exact Nat.mod_lt _ (by decide)
theorem Dig.vlt {l : List Nat} (h : Dig l) (m : Nat) : vTo (dg l) m < 65536 ^ m := vTo_lt (fun i _ => h.at i)
theorem Dig.zero {n : Nat} : Dig (List.replicate n 0) := by
  intro x hx; rw [(List.mem_replicate.1 hx).2]; decide
theorem vL_zero (n : Nat) : vL (List.replicate n 0) = 0 := by
  have : ∀ m, vTo (dg (List.replicate n 0)) m = 0 := by
    intro m
    induction m with
    | zero => rfl
    | succ m ih =>
      simp only [vTo, ih]
      have : dg (List.replicate n 0) m = 0 := by
        unfold dg
        rw [List.getElem?_replicate]
        split <;> rfl
      rw [this]; omega
  exact this _

/-- What Times' inner loop keeps: a's first i digits times b are in out (that was o); of a's digit i times b's first k digits the rest is the carry. -/
structure TimI (a b o out : List Nat) (i k c : Nat) : Prop where
  len : out.length = a.length + b.length + 1
  dig : Dig out
  clt : c < 65536
  val : vL out + c * 65536 ^ (i + k) = vTo (dg a) i * vL b + dg a i * 65536 ^ i * vTo (dg b) k
theorem TimI.room {a b o out : List Nat} {i k c : Nat} (h : TimI a b o out i k c) (ha : Dig a) (hb : Dig b) (hi : i < a.length) (hk : k < b.length ∨ 0 < c) : i + k < a.length + b.length + 1 ∧ (b.length ≤ k → k = b.length) := by
  rcases hk with h1 | h1
  · exact ⟨by omega, fun h2 => by omega⟩
  · have e1 : vTo (dg b) k ≤ vL b := by
      rcases Nat.lt_or_ge k b.length with h2 | h2
      · exact vTo_mono _ (Nat.le_of_lt h2)
      · rw [vL_to b k h2]; exact Nat.le_refl _
    have e2 : vTo (dg a) i * vL b + dg a i * 65536 ^ i * vTo (dg b) k ≤ vTo (dg a) (i + 1) * vL b := by
      simp only [vTo]; rw [Nat.add_mul]
      exact Nat.add_le_add_left (Nat.mul_le_mul_left _ e1) _
    have e3 : vTo (dg a) (i + 1) * vL b < 65536 ^ (i + 1) * 65536 ^ b.length := by
      have p1 := ha.vlt (i + 1)
      have p2 := hb.vlt b.length
      rcases Nat.eq_zero_or_pos (vL b) with hz | hz
      · rw [hz]; simp [Nat.pow_pos]
      · exact Nat.lt_of_lt_of_le (Nat.mul_lt_mul_of_pos_right p1 hz) (Nat.mul_le_mul_left _ (Nat.le_of_lt p2))
    rw [← Nat.pow_add] at e3
    have e4 : 65536 ^ (i + k) ≤ c * 65536 ^ (i + k) := Nat.le_mul_of_pos_left _ h1
    have e5 := h.val
    have e6 : 65536 ^ (i + k) < 65536 ^ (i + 1 + b.length) := by omega
    have := (Nat.pow_lt_pow_iff_right (a := 65536) (by decide)).1 e6
    exact ⟨by omega, fun h2 => by omega⟩
theorem TimI.next {a b o out : List Nat} {i k c x : Nat} (h : TimI a b o out i k c) (ha : Dig a) (hb : Dig b) (hi : i + k < a.length + b.length + 1) (hx : x = dg out (i + k) + c + dg a i * dg b k) :
    TimI a b o (out.set (i + k) (x % 65536)) i (k + 1) (x / 65536) := by
  have b1 : dg a i ≤ 65535 := by have := ha.at i; omega
  have b2 : dg b k ≤ 65535 := by have := hb.at k; omega
  have b3 := Nat.mul_le_mul b1 b2
  have b4 := h.dig.at (i + k)
  have b5 := h.clt
  refine ⟨by rw [List.length_set]; exact h.len, h.dig.set _ (Nat.mod_lt _ (by decide)), by omega, ?_⟩
  have hs := vL_set (l := out) (j := i + k) (x := x % 65536) (by rw [h.len]; exact hi)
  have hv := h.val
  rw [← Nat.add_assoc i k 1, Nat.pow_succ]
  simp only [vTo]
  have hq : 65536 ^ (i + k) = 65536 ^ i * 65536 ^ k := Nat.pow_add _ _ _
  have hm : x % 65536 + 65536 * (x / 65536) = x := Nat.mod_add_div x 65536
  have e1 : x / 65536 * (65536 ^ (i + k) * 65536) + x % 65536 * 65536 ^ (i + k) = x * 65536 ^ (i + k) := by
    conv => rhs; rw [← hm, Nat.add_mul]
    rw [Nat.mul_comm (65536 ^ (i + k)) 65536, ← Nat.mul_assoc, Nat.mul_comm (x / 65536) 65536]; omega
  have e2 : x * 65536 ^ (i + k) = dg out (i + k) * 65536 ^ (i + k) + c * 65536 ^ (i + k) + dg a i * 65536 ^ i * (dg b k * 65536 ^ k) := by
    rw [hx, Nat.add_mul, Nat.add_mul]
    congr 1
    rw [hq, Nat.mul_mul_mul_comm]
  rw [Nat.mul_add]
  omega
theorem TimI.begin {a b out : List Nat} {i : Nat} (hl : out.length = a.length + b.length + 1) (hd : Dig out) (hv : vL out = vTo (dg a) i * vL b) : TimI a b out out i 0 0 :=
  ⟨hl, hd, by decide, by simp [vTo, hv]⟩
theorem TimI.done {a b o out : List Nat} {i k : Nat} (h : TimI a b o out i k 0) (hk : b.length ≤ k) : vL out = vTo (dg a) (i + 1) * vL b := by
  have := h.val
  rw [vL_to b k hk] at this
  simp only [vTo]; rw [Nat.add_mul]; omega

/-- Which of two numbers is above the other is told by the highest digit at which they are unlike. -/
theorem vTo_above {f g : Nat → Nat} {i n : Nat} (hi : i < n) (hf : ∀ j, f j < 65536) (hg : ∀ j, g j < 65536) (h : ∀ j, i < j → j < n → f j = g j) (hne : f i ≠ g i) : (g i < f i ↔ vTo g n < vTo f n) := by
  have e := vTo_same (f := f) (g := g) (n := i + 1) (m := n) (by omega) (fun j h1 h2 => h j (by omega) h2)
  have p1 := vTo_lt (f := f) (n := i) (fun j _ => hf j)
  have p2 := vTo_lt (f := g) (n := i) (fun j _ => hg j)
  simp only [vTo] at e
  constructor
  · intro h1
    have := Nat.mul_le_mul_right (65536 ^ i) (show g i + 1 ≤ f i from h1)
    rw [Nat.add_mul] at this
    omega
  · intro h1
    rcases Nat.lt_or_ge (g i) (f i) with h2 | h2
    · exact h2
    · have := Nat.mul_le_mul_right (65536 ^ i) (show f i + 1 ≤ g i from by omega)
      rw [Nat.add_mul] at this
      omega
theorem vL_snoc (l : List Nat) (x : Nat) : vL (l ++ [x]) = vL l + x * 65536 ^ l.length := by
  unfold vL
  rw [List.length_append, List.length_singleton]
  simp only [vTo]
  congr 1
  · exact vTo_congr (fun i hi => by unfold dg; rw [List.getElem?_append_left hi])
  · unfold dg; simp
end Go.Proofs.Ythcnnglpncblaaa
