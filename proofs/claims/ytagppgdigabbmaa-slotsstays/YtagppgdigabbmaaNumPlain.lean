/-
  Layer 15, in plain words: numbers as bytes, the lowest first: sums of products with carries, comparisons, normal bytes, what is left of a division.
-/
namespace Go.Proofs.Ytagppgdigabbmaa.N
set_option linter.unusedVariables false
set_option maxRecDepth 8192

/-- What the first n digits say. -/
def vTo (f : Nat → Nat) : Nat → Nat
  | 0 => 0
  | n + 1 => vTo f n + f n * 256 ^ n
def dg (l : List Nat) (i : Nat) : Nat := l[i]?.getD 0
def vL (l : List Nat) : Nat := vTo (dg l) l.length

theorem dg_past {l : List Nat} {i : Nat} (h : l.length ≤ i) : dg l i = 0 := by unfold dg; rw [List.getElem?_eq_none h]; rfl
theorem vTo_congr {f g : Nat → Nat} {n : Nat} (h : ∀ i, i < n → f i = g i) : vTo f n = vTo g n := by
  induction n with
  | zero => rfl
  | succ n ih => simp only [vTo]; rw [ih (fun i hi => h i (by omega)), h n (by omega)]
theorem vTo_lt {f : Nat → Nat} {n : Nat} (h : ∀ i, i < n → f i < 256) : vTo f n < 256 ^ n := by
  induction n with
  | zero => simp [vTo]
  | succ n ih =>
    have h1 := ih (fun i hi => h i (by omega))
    have h2 : f n + 1 ≤ 256 := h n (by omega)
    have h3 := Nat.mul_le_mul_right (256 ^ n) h2
    simp only [vTo, Nat.pow_succ]
    rw [Nat.add_mul] at h3
    rw [Nat.mul_comm (256 ^ n)]
    omega
theorem vTo_tail {f : Nat → Nat} {n m : Nat} (hnm : n ≤ m) (h : ∀ i, n ≤ i → f i = 0) : vTo f m = vTo f n := by
  induction m with
  | zero => rw [show n = 0 from by omega]
  | succ m ih =>
    rcases Nat.lt_or_ge m n with h1 | h1
    · rw [show n = m + 1 from by omega]
    · simp only [vTo]; rw [ih h1, h m h1]; omega
theorem vL_to (l : List Nat) (m : Nat) (h : l.length ≤ m) : vTo (dg l) m = vL l := vTo_tail h (fun i hi => dg_past hi)
theorem vTo_ge {f : Nat → Nat} {n j : Nat} (h : j < n) : f j * 256 ^ j ≤ vTo f n := by
  induction n with
  | zero => omega
  | succ n ih =>
    simp only [vTo]
    rcases Nat.lt_or_ge j n with h1 | h1
    · have := ih h1; omega
    · rw [show j = n from by omega]; omega
theorem vTo_mono (f : Nat → Nat) {n m : Nat} (h : n ≤ m) : vTo f n ≤ vTo f m := by
  induction m with
  | zero => rw [show n = 0 from by omega]; exact Nat.le_refl _
  | succ m ih =>
    rcases Nat.lt_or_ge m n with h1 | h1
    · rw [show n = m + 1 from by omega]; exact Nat.le_refl _
    · have := ih h1; simp only [vTo]; omega
theorem vTo_same {f g : Nat → Nat} {n m : Nat} (hnm : n ≤ m) (h : ∀ i, n ≤ i → i < m → f i = g i) : vTo f m + vTo g n = vTo g m + vTo f n := by
  induction m with
  | zero => rw [show n = 0 from by omega]; rfl
  | succ m ih =>
    rcases Nat.lt_or_ge m n with h1 | h1
    · rw [show n = m + 1 from by omega]; omega
    · have := ih h1 (fun i h2 h3 => h i h2 (by omega)); simp only [vTo]; rw [h m h1 (by omega)]; omega
theorem dg_set {l : List Nat} {j x : Nat} (hj : j < l.length) (i : Nat) : dg (l.set j x) i = if i = j then x else dg l i := by
  unfold dg
  rw [List.getElem?_set]
  by_cases h : j = i
  · subst h; simp [hj]
  · rw [if_neg h, if_neg (fun h' => h h'.symm)]
theorem vTo_upd {f g : Nat → Nat} {n j x : Nat} (hj : j < n) (hg : ∀ i, g i = if i = j then x else f i) : vTo g n + f j * 256 ^ j = vTo f n + x * 256 ^ j := by
  induction n with
  | zero => omega
  | succ n ih =>
    simp only [vTo]
    rcases Nat.lt_or_ge j n with h1 | h1
    · have := ih h1
      rw [hg n, if_neg (by omega)]
      omega
    · have e : j = n := by omega
      subst e
      rw [hg j, if_pos rfl, vTo_congr (g := f) (n := j) (fun i hi => by rw [hg i, if_neg (by omega)])]
      omega
theorem vL_set {l : List Nat} {j x : Nat} (hj : j < l.length) : vL (l.set j x) + dg l j * 256 ^ j = vL l + x * 256 ^ j := by
  unfold vL
  rw [List.length_set]
  exact vTo_upd hj (dg_set hj)

/-- Digits of a number. -/
def digL (x n : Nat) : List Nat := (List.range n).map (fun i => x / 256 ^ i % 256)
theorem digL_length (x n : Nat) : (digL x n).length = n := by simp [digL]
theorem digL_succ (x n : Nat) : digL x (n + 1) = digL x n ++ [x / 256 ^ n % 256] := by simp [digL, List.range_succ]
theorem dg_digL {x n i : Nat} (h : i < n) : dg (digL x n) i = x / 256 ^ i % 256 := by simp [dg, digL, h]
theorem vL_digL (x n : Nat) : vL (digL x n) = x % 256 ^ n := by
  unfold vL
  rw [digL_length]
  have : ∀ m, vTo (fun i => x / 256 ^ i % 256) m = x % 256 ^ m := by
    intro m
    induction m with
    | zero => simp [vTo, Nat.mod_one]
    | succ m ih => simp only [vTo]; rw [ih, Nat.pow_succ, Nat.mod_mul, Nat.mul_comm (256 ^ m)]
  rw [← this n]
  exact vTo_congr (fun i hi => dg_digL hi)
def Dig (l : List Nat) : Prop := ∀ x ∈ l, x < 256
theorem Dig.at {l : List Nat} (h : Dig l) (i : Nat) : dg l i < 256 := by
  unfold dg
  rcases Nat.lt_or_ge i l.length with hi | hi
  · rw [List.getElem?_eq_getElem hi]; exact h _ (List.getElem_mem hi)
  · rw [List.getElem?_eq_none hi]; decide
theorem Dig.set {l : List Nat} (h : Dig l) (j : Nat) {x : Nat} (hx : x < 256) : Dig (l.set j x) := by
  intro y hy
  rcases List.mem_or_eq_of_mem_set hy with h1 | rfl
  · exact h y h1
  · exact hx
theorem digL_dig (x n : Nat) : Dig (digL x n) := by
  intro y hy
  simp only [digL, List.mem_map] at hy
  obtain ⟨i, _, rfl⟩ := hy
  exact Nat.mod_lt _ (by decide)
theorem Dig.vlt {l : List Nat} (h : Dig l) (m : Nat) : vTo (dg l) m < 256 ^ m := vTo_lt (fun i _ => h.at i)
theorem Dig.zero {n : Nat} : Dig (List.replicate n 0) := by
  intro x hx; rw [(List.mem_replicate.1 hx).2]; decide
theorem vL_zero (n : Nat) : vL (List.replicate n 0) = 0 := by
  have : ∀ m, vTo (dg (List.replicate n 0)) m = 0 := by
    intro m
    induction m with
    | zero => rfl
    | succ m ih =>
      simp only [vTo, ih]
      have : dg (List.replicate n 0) m = 0 := by
        unfold dg
        rw [List.getElem?_replicate]
        split <;> rfl
      rw [this]; omega
  exact this _

/-- What Times' inner loop keeps: a's first i digits times b are in out (that was o); of a's digit i times b's first k digits the rest is the carry. -/
structure TimI (a b o out : List Nat) (i k c : Nat) : Prop where
  len : out.length = a.length + b.length + 1
  dig : Dig out
  clt : c < 256
  val : vL out + c * 256 ^ (i + k) = vTo (dg a) i * vL b + dg a i * 256 ^ i * vTo (dg b) k
theorem TimI.room {a b o out : List Nat} {i k c : Nat} (h : TimI a b o out i k c) (ha : Dig a) (hb : Dig b) (hi : i < a.length) (hk : k < b.length ∨ 0 < c) : i + k < a.length + b.length + 1 ∧ (b.length ≤ k → k = b.length) := by
  rcases hk with h1 | h1
  · exact ⟨by omega, fun h2 => by omega⟩
  · have e1 : vTo (dg b) k ≤ vL b := by
      rcases Nat.lt_or_ge k b.length with h2 | h2
      · exact vTo_mono _ (Nat.le_of_lt h2)
      · rw [vL_to b k h2]; exact Nat.le_refl _
    have e2 : vTo (dg a) i * vL b + dg a i * 256 ^ i * vTo (dg b) k ≤ vTo (dg a) (i + 1) * vL b := by
      simp only [vTo]; rw [Nat.add_mul]
      exact Nat.add_le_add_left (Nat.mul_le_mul_left _ e1) _
    have e3 : vTo (dg a) (i + 1) * vL b < 256 ^ (i + 1) * 256 ^ b.length := by
      have p1 := ha.vlt (i + 1)
      have p2 := hb.vlt b.length
      rcases Nat.eq_zero_or_pos (vL b) with hz | hz
      · rw [hz]; simp [Nat.pow_pos]
      · exact Nat.lt_of_lt_of_le (Nat.mul_lt_mul_of_pos_right p1 hz) (Nat.mul_le_mul_left _ (Nat.le_of_lt p2))
    rw [← Nat.pow_add] at e3
    have e4 : 256 ^ (i + k) ≤ c * 256 ^ (i + k) := Nat.le_mul_of_pos_left _ h1
    have e5 := h.val
    have e6 : 256 ^ (i + k) < 256 ^ (i + 1 + b.length) := by omega
    have := (Nat.pow_lt_pow_iff_right (a := 256) (by decide)).1 e6
    exact ⟨by omega, fun h2 => by omega⟩
theorem TimI.next {a b o out : List Nat} {i k c x : Nat} (h : TimI a b o out i k c) (ha : Dig a) (hb : Dig b) (hi : i + k < a.length + b.length + 1) (hx : x = dg out (i + k) + c + dg a i * dg b k) :
    TimI a b o (out.set (i + k) (x % 256)) i (k + 1) (x / 256) := by
  have b1 : dg a i ≤ 255 := by have := ha.at i; omega
  have b2 : dg b k ≤ 255 := by have := hb.at k; omega
  have b3 := Nat.mul_le_mul b1 b2
  have b4 := h.dig.at (i + k)
  have b5 := h.clt
  refine ⟨by rw [List.length_set]; exact h.len, h.dig.set _ (Nat.mod_lt _ (by decide)), by omega, ?_⟩
  have hs := vL_set (l := out) (j := i + k) (x := x % 256) (by rw [h.len]; exact hi)
  have hv := h.val
  rw [← Nat.add_assoc i k 1, Nat.pow_succ]
  simp only [vTo]
  have hq : 256 ^ (i + k) = 256 ^ i * 256 ^ k := Nat.pow_add _ _ _
  have hm : x % 256 + 256 * (x / 256) = x := Nat.mod_add_div x 256
  have e1 : x / 256 * (256 ^ (i + k) * 256) + x % 256 * 256 ^ (i + k) = x * 256 ^ (i + k) := by
    conv => rhs; rw [← hm, Nat.add_mul]
    rw [Nat.mul_comm (256 ^ (i + k)) 256, ← Nat.mul_assoc, Nat.mul_comm (x / 256) 256]; omega
  have e2 : x * 256 ^ (i + k) = dg out (i + k) * 256 ^ (i + k) + c * 256 ^ (i + k) + dg a i * 256 ^ i * (dg b k * 256 ^ k) := by
    rw [hx, Nat.add_mul, Nat.add_mul]
    congr 1
    rw [hq, Nat.mul_mul_mul_comm]
  rw [Nat.mul_add]
  omega
theorem TimI.begin {a b out : List Nat} {i : Nat} (hl : out.length = a.length + b.length + 1) (hd : Dig out) (hv : vL out = vTo (dg a) i * vL b) : TimI a b out out i 0 0 :=
  ⟨hl, hd, by decide, by simp [vTo, hv]⟩
theorem TimI.done {a b o out : List Nat} {i k : Nat} (h : TimI a b o out i k 0) (hk : b.length ≤ k) : vL out = vTo (dg a) (i + 1) * vL b := by
  have := h.val
  rw [vL_to b k hk] at this
  simp only [vTo]; rw [Nat.add_mul]; omega

/-- Which of two numbers is above the other is told by the highest digit at which they are unlike. -/
theorem vTo_above {f g : Nat → Nat} {i n : Nat} (hi : i < n) (hf : ∀ j, f j < 256) (hg : ∀ j, g j < 256) (h : ∀ j, i < j → j < n → f j = g j) (hne : f i ≠ g i) : (g i < f i ↔ vTo g n < vTo f n) := by
  have e := vTo_same (f := f) (g := g) (n := i + 1) (m := n) (by omega) (fun j h1 h2 => h j (by omega) h2)
  have p1 := vTo_lt (f := f) (n := i) (fun j _ => hf j)
  have p2 := vTo_lt (f := g) (n := i) (fun j _ => hg j)
  simp only [vTo] at e
  constructor
  · intro h1
    have := Nat.mul_le_mul_right (256 ^ i) (show g i + 1 ≤ f i from h1)
    rw [Nat.add_mul] at this
    omega
  · intro h1
    rcases Nat.lt_or_ge (g i) (f i) with h2 | h2
    · exact h2
    · have := Nat.mul_le_mul_right (256 ^ i) (show f i + 1 ≤ g i from by omega)
      rw [Nat.add_mul] at this
      omega
theorem vL_snoc (l : List Nat) (x : Nat) : vL (l ++ [x]) = vL l + x * 256 ^ l.length := by
  unfold vL
  rw [List.length_append, List.length_singleton]
  simp only [vTo]
  congr 1
  · exact vTo_congr (fun i hi => by unfold dg; rw [List.getElem?_append_left hi])
  · unfold dg; simp

/-- Numbers as integers. -/
def nI (l : List Nat) : List Int := l.map fun n : Nat => (n : Int)
theorem nI_length (l : List Nat) : (nI l).length = l.length := by simp [nI]
theorem nI_dg (l : List Nat) (i : Nat) : (nI l)[i]?.getD 0 = ((dg l i : Nat) : Int) := by
  unfold nI dg
  rw [List.getElem?_map]
  cases l[i]? <;> rfl
theorem nI_append (l m : List Nat) : nI (l ++ m) = nI l ++ nI m := by simp [nI]
theorem nI_take (l : List Nat) (k : Nat) : (nI l).take k = nI (l.take k) := by simp [nI, List.map_take]
theorem nI_drop (l : List Nat) (k : Nat) : (nI l).drop k = nI (l.drop k) := by simp [nI, List.map_drop]
theorem nI_set (l : List Nat) (k a : Nat) : (nI l).set k (a : Int) = nI (l.set k a) := by simp [nI, List.map_set]
theorem nI_inj {p q : List Nat} (h : nI p = nI q) : p = q := by
  have h2 := congrArg (List.map Int.toNat) h
  unfold nI at h2
  rw [List.map_map, List.map_map] at h2
  have e : ((Int.toNat) ∘ fun n : Nat => (n : Int)) = id := by funext n; simp
  simpa [e] using h2
theorem Dig.isB {l : List Nat} (h : Dig l) : ∀ n ∈ nI l, 0 ≤ n ∧ n ≤ 255 := by
  intro n hn
  obtain ⟨x, hx, rfl⟩ := List.mem_map.1 hn
  have := h x hx
  omega

theorem pow_pos256 (n : Nat) : 0 < 256 ^ n := Nat.pow_pos (by decide)
/-- A digit is what the number says. -/
theorem dg_of {l : List Nat} (h : Dig l) (i : Nat) : dg l i = vL l / 256 ^ i % 256 := by
  rcases Nat.lt_or_ge i l.length with hi | hi
  · have e : ∀ m, i < m → vTo (dg l) m / 256 ^ i % 256 = dg l i := by
      intro m
      induction m with
      | zero => intro h; omega
      | succ m ih =>
        intro him
        simp only [vTo]
        rcases Nat.lt_or_ge i m with h1 | h1
        · obtain ⟨d, rfl⟩ : ∃ d, m = i + 1 + d := ⟨m - (i + 1), by omega⟩
          rw [show dg l (i + 1 + d) * 256 ^ (i + 1 + d) = 256 ^ i * (256 * (dg l (i + 1 + d) * 256 ^ d)) from by
            rw [Nat.pow_add, Nat.pow_add]; simp only [Nat.pow_one, Nat.mul_comm, Nat.mul_left_comm, Nat.mul_assoc]]
          rw [Nat.add_mul_div_left _ _ (pow_pos256 i), Nat.add_mul_mod_self_left]
          exact ih h1
        · obtain rfl : i = m := by omega
          rw [Nat.mul_comm (dg l i), Nat.add_mul_div_left _ _ (pow_pos256 i), Nat.div_eq_of_lt (h.vlt i), Nat.zero_add]
          exact Nat.mod_eq_of_lt (h.at i)
    exact (e l.length hi).symm
  · rw [dg_past hi]
    have : vL l < 256 ^ i := Nat.lt_of_lt_of_le (h.vlt l.length) (Nat.pow_le_pow_right (by decide) hi)
    rw [Nat.div_eq_of_lt this]
theorem list_dg {l m : List Nat} (hl : l.length = m.length) (h : ∀ i, dg l i = dg m i) : l = m := by
  apply List.ext_getElem hl
  intro i h1 h2
  have := h i
  unfold dg at this
  rw [List.getElem?_eq_getElem h1, List.getElem?_eq_getElem h2] at this
  exact this
theorem Dig.ext {l m : List Nat} (h : Dig l) (h' : Dig m) (hl : l.length = m.length) (hv : vL l = vL m) : l = m :=
  list_dg hl (fun i => by rw [dg_of h, dg_of h', hv])
theorem digL_of {l : List Nat} (h : Dig l) : l = digL (vL l) l.length := by
  refine h.ext (digL_dig _ _) (digL_length _ _).symm ?_
  rw [vL_digL]; exact (Nat.mod_eq_of_lt (h.vlt l.length)).symm
theorem vL_digL_lt {x n : Nat} (h : x < 256 ^ n) : vL (digL x n) = x := by rw [vL_digL, Nat.mod_eq_of_lt h]
theorem digL_zero (n : Nat) : digL 0 n = List.replicate n 0 := by
  rw [digL_of (Dig.zero (n := n)), vL_zero, List.length_replicate]

/-- How many of the first n digits are left without the noughts at their end. -/
def tlTo (l : List Nat) : Nat → Nat
  | 0 => 0
  | n + 1 => if dg l n = 0 then tlTo l n else n + 1
def tl (l : List Nat) : Nat := tlTo l l.length
theorem tlTo_le (l : List Nat) (n : Nat) : tlTo l n ≤ n := by
  induction n with
  | zero => exact Nat.le_refl _
  | succ n ih => simp only [tlTo]; split <;> omega
theorem tlTo_past (l : List Nat) (n : Nat) {i : Nat} (h : tlTo l n ≤ i) (hi : i < n) : dg l i = 0 := by
  induction n with
  | zero => omega
  | succ n ih =>
    simp only [tlTo] at h
    split at h
    · rcases Nat.lt_or_ge i n with h1 | h1
      · exact ih h h1
      · rw [show i = n from by omega]; assumption
    · omega
theorem tlTo_top (l : List Nat) (n : Nat) (h : tlTo l n ≠ 0) : dg l (tlTo l n - 1) ≠ 0 := by
  induction n with
  | zero => exact absurd rfl h
  | succ n ih =>
    simp only [tlTo] at h ⊢
    split
    · rename_i h0; rw [if_pos h0] at h; exact ih h
    · rename_i h0; exact h0
theorem tl_le (l : List Nat) : tl l ≤ l.length := tlTo_le _ _
/-- Without noughts at the end. -/
def nt (l : List Nat) : List Nat := l.take (tl l)
theorem nt_length (l : List Nat) : (nt l).length = tl l := by unfold nt; rw [List.length_take]; have := tl_le l; omega
theorem dg_take {l : List Nat} {n i : Nat} (h : i < n) : dg (l.take n) i = dg l i := by
  unfold dg; rw [List.getElem?_take, if_pos h]
theorem dg_nt (l : List Nat) (i : Nat) : dg (nt l) i = dg l i := by
  rcases Nat.lt_or_ge i (tl l) with h | h
  · exact dg_take h
  · rw [dg_past (l := nt l) (by rw [nt_length]; exact h)]
    rcases Nat.lt_or_ge i l.length with h1 | h1
    · exact (tlTo_past l l.length h h1).symm
    · exact (dg_past h1).symm
theorem Dig.nt {l : List Nat} (h : Dig l) : Dig (nt l) := fun x hx => h x (List.mem_of_mem_take hx)
theorem vL_nt (l : List Nat) : vL (nt l) = vL l := by
  rw [← vL_to (nt l) l.length (by rw [nt_length]; exact tl_le l)]
  exact vTo_congr (fun i _ => dg_nt l i)
/-- Bytes without noughts at the end. -/
structure Nrm (l : List Nat) : Prop where
  dig : Dig l
  top : l.length ≠ 0 → dg l (l.length - 1) ≠ 0
theorem nrm_nt {l : List Nat} (h : Dig l) : Nrm (nt l) := ⟨h.nt, fun h0 => by
  rw [nt_length] at h0 ⊢
  rw [dg_nt]
  exact tlTo_top l l.length h0⟩
theorem Nrm.ge {l : List Nat} (h : Nrm l) (n : Nat) (hn : l.length = n + 1) : 256 ^ n ≤ vL l := by
  have h1 := h.top (by omega)
  rw [hn, Nat.add_sub_cancel] at h1
  have h2 := vTo_ge (f := dg l) (n := l.length) (j := n) (by omega)
  exact Nat.le_trans (Nat.le_mul_of_pos_left _ (Nat.pos_of_ne_zero h1)) h2
theorem Dig.vL_lt {l : List Nat} (h : Dig l) : vL l < 256 ^ l.length := h.vlt _
/-- Fewer digits, a lesser number. -/
theorem Nrm.short {l m : List Nat} (h : Dig l) (h' : Nrm m) (hl : l.length < m.length) : vL l < vL m := by
  obtain ⟨n, hn⟩ : ∃ n, m.length = n + 1 := ⟨m.length - 1, by omega⟩
  exact Nat.lt_of_lt_of_le h.vL_lt (Nat.le_trans (Nat.pow_le_pow_right (by decide) (by omega)) (h'.ge n hn))
theorem Nrm.ext {l m : List Nat} (h : Nrm l) (h' : Nrm m) (hv : vL l = vL m) : l = m := by
  rcases Nat.lt_trichotomy l.length m.length with h1 | h1 | h1
  · have := Nrm.short h.dig h' h1; omega
  · exact h.dig.ext h'.dig h1 hv
  · have := Nrm.short h'.dig h h1; omega
theorem lt_pow256 (v : Nat) : v < 256 ^ v := Nat.lt_pow_self (by decide)
/-- The normal bytes of a number. -/
def nb (v : Nat) : List Nat := nt (digL v v)
theorem vL_nb (v : Nat) : vL (nb v) = v := by unfold nb; rw [vL_nt, vL_digL_lt (lt_pow256 v)]
theorem nrm_nb (v : Nat) : Nrm (nb v) := nrm_nt (digL_dig _ _)
theorem dig_nb (v : Nat) : Dig (nb v) := (nrm_nb v).dig
theorem nb_of {l : List Nat} (h : Nrm l) {v : Nat} (hv : vL l = v) : nb v = l := (nrm_nb v).ext h (by rw [vL_nb, hv])
theorem nt_nb {l : List Nat} (h : Dig l) : nt l = nb (vL l) := (nb_of (nrm_nt h) (vL_nt l)).symm
theorem nt_digL {v n : Nat} (h : v < 256 ^ n) : nt (digL v n) = nb v := by rw [nt_nb (digL_dig _ _), vL_digL_lt h]
theorem nb_inj {a b : Nat} (h : nb a = nb b) : a = b := by rw [← vL_nb a, h, vL_nb]
theorem nb_len {v n : Nat} (h : v < 256 ^ n) : (nb v).length ≤ n := by
  rw [← nt_digL h, nt_length]
  have := tl_le (digL v n)
  rwa [digL_length] at this
theorem nb_zero : nb 0 = [] := nb_of ⟨fun x hx => absurd hx (List.not_mem_nil), fun h => absurd rfl h⟩ rfl
theorem nb_nil {v : Nat} : (nb v).length = 0 ↔ v = 0 := by
  constructor
  · intro h; rw [← vL_nb v, List.eq_nil_of_length_eq_zero h]; rfl
  · rintro rfl; rw [nb_zero]; rfl
theorem tl_digL {v n : Nat} (h : v < 256 ^ n) : tl (digL v n) = (nb v).length := by rw [← nt_digL h, nt_length]
theorem tl_nb {l : List Nat} (h : Dig l) : tl l = (nb (vL l)).length := by rw [← nt_nb h, nt_length]

/-- -1, 0 or 1. -/
def cmpN (a b : Nat) : Int := if a < b then -1 else if b < a then 1 else 0
theorem cmp_bounds (a b : Nat) : -1 ≤ cmpN a b ∧ cmpN a b ≤ 1 := by
  unfold cmpN; split
  · decide
  · split <;> decide

/-- What 'change' keeps: of l and t times z's first k digits, from off on, what is done lies in out, what isn't is the carry. -/
structure ChgI (l z : List Nat) (t : Int) (off : Nat) (out : List Nat) (k : Nat) (c : Int) : Prop where
  len : out.length = l.length
  dig : Dig out
  lo : -255 ≤ c
  hi : c ≤ 255
  same : ∀ i, off + k ≤ i → dg out i = dg l i
  val : (vL out : Int) + c * ((256 ^ (off + k) : Nat) : Int) = (vL l : Int) + t * ((256 ^ off * vTo (dg z) k : Nat) : Int)
theorem ChgI.begin {l z : List Nat} {t : Int} {off : Nat} (h : Dig l) : ChgI l z t off l 0 0 :=
  ⟨rfl, h, by decide, by decide, fun _ _ => rfl, by simp [vTo]⟩
theorem byte_times {t : Int} (h1 : -255 ≤ t) (h2 : t ≤ 255) {x : Nat} (hx : x < 256) : -65025 ≤ t * (x : Int) ∧ t * (x : Int) ≤ 65025 := by
  have hx0 : (0 : Int) ≤ (x : Int) := by omega
  have a := Int.mul_le_mul_of_nonneg_right h2 hx0
  have b := Int.mul_le_mul_of_nonneg_right h1 hx0
  omega
theorem ChgI.next {l z out : List Nat} {t c x : Int} {off k : Nat} (h : ChgI l z t off out k c) (hz : Dig z) (h1 : -255 ≤ t) (h2 : t ≤ 255) (hi : off + k < l.length) (hx : x = c + (dg out (off + k) : Int) + t * (dg z k : Int)) :
    ChgI l z t off (out.set (off + k) (x % 256).toNat) (k + 1) (x / 256) := by
  have b1 := byte_times h1 h2 (hz.at k)
  have b4 := h.dig.at (off + k)
  have b5 := h.lo
  have b6 := h.hi
  have hl : off + k < out.length := by rw [h.len]; exact hi
  refine ⟨by rw [List.length_set]; exact h.len, h.dig.set _ (by omega), by omega, by omega, fun i h3 => ?_, ?_⟩
  · rw [dg_set hl, if_neg (by omega)]; exact h.same i (by omega)
  · have hs := vL_set (l := out) (j := off + k) (x := (x % 256).toNat) hl
    have hv := h.val
    rw [← Nat.add_assoc off k 1, Nat.pow_succ]
    simp only [vTo]
    have hq : 256 ^ (off + k) = 256 ^ off * 256 ^ k := Nat.pow_add _ _ _
    have hs' : (vL (out.set (off + k) (x % 256).toNat) : Int) + (dg out (off + k) : Int) * ((256 ^ (off + k) : Nat) : Int) = (vL out : Int) + (x % 256) * ((256 ^ (off + k) : Nat) : Int) := by
      have := congrArg (Int.ofNat) hs
      simp only [Int.ofNat_eq_natCast, Int.natCast_add, Int.natCast_mul] at this
      rw [show (((x % 256).toNat : Nat) : Int) = x % 256 from by omega] at this
      exact this
    have e3 : t * ((256 ^ off * (vTo (dg z) k + dg z k * 256 ^ k) : Nat) : Int) = t * ((256 ^ off * vTo (dg z) k : Nat) : Int) + t * (dg z k : Int) * ((256 ^ (off + k) : Nat) : Int) := by
      rw [hq, Nat.mul_add, Int.natCast_add, Int.mul_add]
      congr 1
      simp only [Int.natCast_mul, Int.mul_comm, Int.mul_left_comm, Int.mul_assoc]
    rw [e3]
    have e4 : ((256 ^ (off + k) * 256 : Nat) : Int) = ((256 ^ (off + k) : Nat) : Int) * 256 := Int.natCast_mul _ _
    rw [e4]
    generalize ((256 ^ (off + k) : Nat) : Int) = P at *
    have e5 : x % 256 * P + x / 256 * (P * 256) = x * P := by
      have := Int.emod_add_mul_ediv x 256
      rw [show x / 256 * (P * 256) = 256 * (x / 256) * P from by rw [Int.mul_comm P, ← Int.mul_assoc, Int.mul_comm (x / 256)], ← Int.add_mul, this]
    have e6 : x * P = c * P + (dg out (off + k) : Int) * P + t * (dg z k : Int) * P := by rw [hx, Int.add_mul, Int.add_mul]
    omega
/-- All digits from n on are 0: the number is below 256 to the power of n. -/
theorem vL_top {l : List Nat} (h : Dig l) {n : Nat} (ht : ∀ i, n ≤ i → dg l i = 0) : vL l < 256 ^ n := by
  rcases Nat.lt_or_ge n l.length with h1 | h1
  · have := vTo_tail (f := dg l) (n := n) (m := l.length) (by omega) ht
    unfold vL
    rw [this]
    exact h.vlt n
  · exact Nat.lt_of_lt_of_le h.vL_lt (Nat.pow_le_pow_right (by decide) h1)
theorem dg_top {l : List Nat} (h : Dig l) {n i : Nat} (hv : vL l < 256 ^ n) (hi : n ≤ i) : dg l i = 0 := by
  rw [dg_of h, Nat.div_eq_of_lt (Nat.lt_of_lt_of_le hv (Nat.pow_le_pow_right (by decide) hi))]
theorem ChgI.room {l z out : List Nat} {t c : Int} {off k n V : Nat} (h : ChgI l z t off out k c) (hl : Dig l) (hk : z.length ≤ k) (hV : (V : Int) = (vL l : Int) + t * ((256 ^ off * vL z : Nat) : Int)) (h1 : vL l < 256 ^ (off + n)) (h2 : V < 256 ^ (off + n)) (hc : c ≠ 0) : k < n := by
  rcases Nat.lt_or_ge k n with h3 | h3
  · exact h3
  · exfalso
    have hv := h.val
    rw [vL_to z k hk, ← hV] at hv
    have hp : 256 ^ (off + n) ≤ 256 ^ (off + k) := Nat.pow_le_pow_right (by decide) (by omega)
    have ho : vL out < 256 ^ (off + k) := vL_top h.dig (fun i hi => by
      rw [h.same i hi]
      exact dg_top hl h1 (by omega))
    generalize 256 ^ (off + k) = P at *
    rcases Int.lt_or_gt_of_ne hc with h4 | h4
    · have := Int.mul_le_mul_of_nonneg_right (show c ≤ -1 by omega) (show (0 : Int) ≤ (P : Int) by omega)
      omega
    · have := Int.mul_le_mul_of_nonneg_right (show (1 : Int) ≤ c by omega) (show (0 : Int) ≤ (P : Int) by omega)
      omega
theorem ChgI.done {l z out : List Nat} {t : Int} {off k V n : Nat} (h : ChgI l z t off out k 0) (hk : z.length ≤ k) (hn : l.length = n) (hV : (V : Int) = (vL l : Int) + t * ((256 ^ off * vL z : Nat) : Int)) : out = digL V n := by
  have hv := h.val
  rw [vL_to z k hk, ← hV] at hv
  have e : vL out = V := by omega
  rw [digL_of h.dig, e, h.len, hn]

/-- A part of a number's digits. -/
theorem digL_part {v n off len : Nat} (h : off + len ≤ n) : ((digL v n).drop off).take len = digL (v / 256 ^ off) len := by
  apply list_dg
  · rw [List.length_take, List.length_drop, digL_length, digL_length]; omega
  · intro i
    rcases Nat.lt_or_ge i len with h1 | h1
    · rw [dg_take h1, dg_digL h1]
      unfold dg
      rw [List.getElem?_drop]
      show dg (digL v n) (off + i) = _
      rw [dg_digL (by omega), Nat.div_div_eq_div_mul, Nat.pow_add]
    · rw [dg_past (by rw [List.length_take, List.length_drop]; omega), dg_past (by rw [digL_length]; exact h1)]
theorem dg_drop (l : List Nat) (o i : Nat) : dg (l.drop o) i = dg l (o + i) := by unfold dg; rw [List.getElem?_drop]
theorem Dig.drop {l : List Nat} (h : Dig l) (o : Nat) : Dig (l.drop o) := fun x hx => h x (List.mem_of_mem_drop hx)
theorem vL_drop {l : List Nat} (h : Dig l) (o : Nat) : vL (l.drop o) = vL l / 256 ^ o := by
  have e : l.drop o = digL (vL l / 256 ^ o) (l.length - o) := by
    apply list_dg
    · rw [List.length_drop, digL_length]
    · intro i
      rw [dg_drop, dg_of h]
      rcases Nat.lt_or_ge i (l.length - o) with h1 | h1
      · rw [dg_digL h1, Nat.div_div_eq_div_mul, Nat.pow_add]
      · rw [← dg_of h, dg_past (l := digL _ _) (by rw [digL_length]; exact h1), dg_past (by omega)]
  rw [e, vL_digL_lt]
  rw [Nat.div_lt_iff_lt_mul (pow_pos256 o), ← Nat.pow_add]
  exact Nat.lt_of_lt_of_le h.vL_lt (Nat.pow_le_pow_right (by decide) (by omega))

/-- The guess by the highest bytes is at most one too low. -/
theorem guess_ok {P M L q : Nat} (hL : 0 < L) (hM : 281474976710656 ≤ M / L) (hP : P < 256 * M) (hq : q = (P / L) / (M / L + 1)) : q * M ≤ P ∧ P < (q + 2) * M ∧ q ≤ 255 := by
  have hp1 := Nat.div_add_mod P L
  have hp2 := Nat.mod_lt P hL
  have hm1 := Nat.div_add_mod M L
  have hm2 := Nat.mod_lt M hL
  have hd1 := Nat.div_add_mod (P / L) (M / L + 1)
  have hd2 := Nat.mod_lt (P / L) (Nat.succ_pos (M / L))
  rw [← hq] at hd1
  generalize P / L / (M / L + 1) = qq at *
  generalize hA : P / L = A at *
  generalize hB : M / L = B at *
  generalize A % (B + 1) = r at *
  generalize P % L = p at *
  generalize M % L = m at *
  -- P = L*A + p, M = L*B + m, A = (B+1)*q + r
  have e1 : q * M ≤ P := by
    have h1 : M ≤ L * (B + 1) := by rw [Nat.mul_add, Nat.mul_one]; omega
    have h2 : q * M ≤ q * (L * (B + 1)) := Nat.mul_le_mul_left _ h1
    have h3 : q * (L * (B + 1)) = L * ((B + 1) * q) := by rw [Nat.mul_comm q, Nat.mul_assoc]
    have h4 : L * ((B + 1) * q) ≤ L * A := Nat.mul_le_mul_left _ (by omega)
    omega
  have e2 : q ≤ 255 := by
    rcases Nat.lt_or_ge q 256 with h | h
    · omega
    · have := Nat.mul_le_mul_right M h; omega
  refine ⟨e1, ?_, e2⟩
  -- P < L*(A+1) ≤ L*((B+1)*q + B + 1) ; (q+2)*M ≥ (q+2)*L*B
  have h1 : A + 1 ≤ (q + 2) * B := by
    have : (B + 1) * q = B * q + q := by rw [Nat.add_mul, Nat.one_mul]
    have h5 : (q + 2) * B = B * q + 2 * B := by rw [Nat.add_mul, Nat.mul_comm q]
    omega
  have h2 : L * (A + 1) ≤ L * ((q + 2) * B) := Nat.mul_le_mul_left _ h1
  have h3 : L * ((q + 2) * B) = (q + 2) * (L * B) := Nat.mul_left_comm _ _ _
  have h4 : (q + 2) * (L * B) ≤ (q + 2) * M := Nat.mul_le_mul_left _ (by omega)
  rw [Nat.mul_add, Nat.mul_one] at h2
  omega
theorem guess_exact {P M q : Nat} (hP : P < 256 * M) (hq : q = P / M) : q * M ≤ P ∧ P < (q + 2) * M ∧ q ≤ 255 := by
  subst hq
  have hM : 0 < M := by omega
  have h1 := Nat.div_add_mod P M
  have h2 := Nat.mod_lt P hM
  have h3 : P / M < 256 := by rw [Nat.div_lt_iff_lt_mul hM]; exact hP
  refine ⟨Nat.div_mul_le_self _ _, ?_, by omega⟩
  rw [Nat.add_mul, Nat.mul_comm (P / M)]
  omega
/-- What is left when m is taken away from the part above a place as often as it can be. -/
theorem rest_of {R M D q : Nat} (hq : q * (M * D) ≤ R) (hr : R - q * (M * D) < M * D) : R - q * (M * D) = R % (M * D) := by
  generalize M * D = N at *
  generalize hx : R - q * N = x at *
  have e : R = x + N * q := by rw [Nat.mul_comm]; omega
  rw [e, Nat.add_mul_mod_self_left, Nat.mod_eq_of_lt hr]
theorem rest_step (A M K : Nat) : A % (M * 256 ^ (K + 1)) % (M * 256 ^ K) = A % (M * 256 ^ K) :=
  Nat.mod_mod_of_dvd _ ⟨256, by rw [Nat.pow_succ, Nat.mul_assoc]⟩
theorem rest_start {a m : List Nat} (ha : Dig a) (hm : Nrm m) (h0 : m.length ≠ 0) {K : Nat} (hK : a.length + 1 ≤ m.length + K) : vL a % (vL m * 256 ^ K) = vL a := by
  apply Nat.mod_eq_of_lt
  obtain ⟨n, hn⟩ : ∃ n, m.length = n + 1 := ⟨m.length - 1, by omega⟩
  have h1 := hm.ge n hn
  have h2 : 256 ^ n * 256 ^ K ≤ vL m * 256 ^ K := Nat.mul_le_mul_right _ h1
  rw [← Nat.pow_add] at h2
  exact Nat.lt_of_lt_of_le ha.vL_lt (Nat.le_trans (Nat.pow_le_pow_right (by decide) (by omega)) h2)
end Go.Proofs.Ytagppgdigabbmaa.N
