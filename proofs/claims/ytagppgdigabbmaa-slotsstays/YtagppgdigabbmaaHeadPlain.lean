/-
  Layer 9, plain: a head's page, and the numbers that a page says.
-/
import Derived.Test.YtagppgdigabbmaaBits
import Derived.Laws.BitsAllLaws
import Derived.Laws.BitsLemmas
namespace Go.Proofs.Ytagppgdigabbmaa
open Go.RowKit
set_option linter.unusedVariables false
set_option maxRecDepth 8192

/-- A number's four bytes, the lowest first. -/
def four (n : Int) : List Int := [n % 256, n / 256 % 256, n / 65536 % 256, n / 16777216 % 256]
/-- What a head's page begins with. -/
def sixteen (a b c : Int) : List Int := [99, 97, 115, 101] ++ four a ++ four b ++ four c
/-- A head's page of R bytes. -/
def pageOf (R : Nat) (a b c : Int) : List Int := sixteen a b c ++ List.replicate (R - 16) 0
/-- So much of it as is laid down behind j bytes of numbers. -/
def pageTo (R : Nat) (a b c : Int) (j : Nat) : List Int := (sixteen a b c).take (4 + j) ++ List.replicate (R - (4 + j)) 0
/-- The number of the first k bytes behind the place o. -/
def numTo (z : List Int) (o : Nat) : Nat → Int
  | 0 => 0
  | k + 1 => numTo z o k + z[o + k]?.getD 0 * 256 ^ k
/-- The number that four bytes say. -/
def numAt (z : List Int) (o : Nat) : Int := z[o]?.getD 0 + 256 * z[o + 1]?.getD 0 + 65536 * z[o + 2]?.getD 0 + 16777216 * z[o + 3]?.getD 0
/-- The same from the top down. -/
def hornTo (z : List Int) : Nat → Int
  | 0 => 0
  | k + 1 => 256 * hornTo z k + z[3 - k]?.getD 0
/-- May a head be, of a logical block with room for C bytes? -/
def mayH (C a b c : Int) : Bool := decide (0 ≤ a ∧ a ≤ 63 ∧ 0 ≤ b ∧ b ≤ C ∧ 1 ≤ c ∧ c ≤ 1000000000)
theorem mayH_yes {C a b c : Int} (h : mayH C a b c = true) : 0 ≤ a ∧ a ≤ 63 ∧ 0 ≤ b ∧ b ≤ C ∧ 1 ≤ c ∧ c ≤ 1000000000 := by unfold mayH at h; exact of_decide_eq_true h
theorem mayH_no {C a b c : Int} (h : ¬ (0 ≤ a ∧ a ≤ 63 ∧ 0 ≤ b ∧ b ≤ C ∧ 1 ≤ c ∧ c ≤ 1000000000)) : mayH C a b c = false := by unfold mayH; rw [decide_eq_false_iff_not]; exact h
/-- What a page is read as. -/
def readH (C : Int) (R : Nat) (z : List Int) : Bool := mayH C (numAt z 4) (numAt z 8) (numAt z 12) && decide (pageOf R (numAt z 4) (numAt z 8) (numAt z 12) = z)

theorem sixteen_len (a b c : Int) : (sixteen a b c).length = 16 := rfl
theorem pageOf_len {R : Nat} (a b c : Int) (hR : 16 ≤ R) : (pageOf R a b c).length = R := by unfold pageOf; rw [List.length_append, sixteen_len, List.length_replicate]; omega
theorem pageTo_len {R : Nat} (a b c : Int) (j : Nat) (hR : 16 ≤ R) (hj : j ≤ 12) : (pageTo R a b c j).length = R := by
  unfold pageTo
  rw [List.length_append, List.length_take, sixteen_len, List.length_replicate]; omega
theorem pageTo_zero (R : Nat) (a b c : Int) : pageTo R a b c 0 = [99, 97, 115, 101] ++ List.replicate (R - 4) 0 := rfl
theorem pageTo_end (R : Nat) (a b c : Int) : pageTo R a b c 12 = pageOf R a b c := rfl
theorem pageTo_set {R : Nat} (a b c : Int) (j : Nat) (hR : 16 ≤ R) (hj : j < 12) : (pageTo R a b c j).set (4 + j) ((sixteen a b c)[4 + j]?.getD 0) = pageTo R a b c (j + 1) := by
  unfold pageTo
  have hl : ((sixteen a b c).take (4 + j)).length = 4 + j := by rw [List.length_take, sixteen_len]; omega
  have h4 : 4 + j < (sixteen a b c).length := by rw [sixteen_len]; omega
  rw [List.set_append_right _ _ (by omega), hl, Nat.sub_self, show R - (4 + j) = (R - (4 + (j + 1))) + 1 by omega, List.replicate_succ, List.set_cons_zero,
    show 4 + (j + 1) = 4 + j + 1 by omega, List.take_succ_eq_append_getElem h4, List.getElem?_eq_getElem h4, List.append_assoc]
  rfl
/-- The k-th byte of the i-th number. -/
theorem sixteen_at (a b c : Int) (i k : Nat) (hi : i < 3) (hk : k < 4) : (sixteen a b c)[4 + (4 * i + k)]?.getD 0 = ([a, b, c][i]?.getD 0) / 256 ^ k % 256 := by
  rcases (show i = 0 ∨ i = 1 ∨ i = 2 by omega) with rfl | rfl | rfl <;> rcases (show k = 0 ∨ k = 1 ∨ k = 2 ∨ k = 3 by omega) with rfl | rfl | rfl | rfl <;> simp [sixteen, four]
theorem div_step256 (x : Int) (k : Nat) : x / 256 ^ k / 256 = x / 256 ^ (k + 1) := by
  rw [Int.ediv_ediv_of_nonneg (by exact Int.pow_nonneg (by decide)), Int.pow_succ]
theorem isB_four (n : Int) : IsB (four n) := by
  intro x hx
  simp only [four, List.mem_cons, List.not_mem_nil, or_false] at hx
  omega
theorem isB_app {x y : List Int} (hx : IsB x) (hy : IsB y) : IsB (x ++ y) := fun n hn => by
  rcases List.mem_append.1 hn with h | h
  · exact hx n h
  · exact hy n h
theorem isB_sixteen (a b c : Int) : IsB (sixteen a b c) := isB_app (isB_app (isB_app (by unfold IsB; decide) (isB_four a)) (isB_four b)) (isB_four c)
theorem isB_page (R : Nat) (a b c : Int) : IsB (pageOf R a b c) := isB_app (isB_sixteen a b c) (fun n hn => by rw [(List.mem_replicate.1 hn).2]; decide)
theorem numTo_bd {z : List Int} (h : IsB z) (o k : Nat) : 0 ≤ numTo z o k ∧ numTo z o k < 256 ^ k := by
  induction k with
  | zero => simp [numTo]
  | succ k ih =>
    have hz := h.idx (o + k)
    have hp : (0 : Int) < 256 ^ k := Int.pow_pos (by decide)
    rw [Int.pow_succ]
    unfold numTo
    have h1 : 0 * 256 ^ k ≤ z[o + k]?.getD 0 * 256 ^ k := Int.mul_le_mul_of_nonneg_right hz.1 (by omega)
    have h2 : z[o + k]?.getD 0 * 256 ^ k ≤ 255 * 256 ^ k := Int.mul_le_mul_of_nonneg_right hz.2 (by omega)
    omega
theorem numTo_four (z : List Int) (o : Nat) : numTo z o 4 = numAt z o := by simp [numTo, numAt]; omega
theorem numAt_bd {z : List Int} (h : IsB z) (o : Nat) : 0 ≤ numAt z o ∧ numAt z o < 4294967296 := by rw [← numTo_four]; exact numTo_bd h o 4
theorem hornTo_bd {z : List Int} (h : IsB z) (k : Nat) : 0 ≤ hornTo z k ∧ hornTo z k < 256 ^ k := by
  induction k with
  | zero => simp [hornTo]
  | succ k ih => have hz := h.idx (3 - k); rw [Int.pow_succ]; unfold hornTo; omega
theorem hornTo_four (z : List Int) : hornTo z 4 = numAt z 0 := by simp [hornTo, numAt]; omega
theorem numAt_drop (z : List Int) (o n : Nat) (hn : 4 ≤ n) : numAt ((z.drop o).take n) 0 = numAt z o := by
  simp [numAt, List.getElem?_drop, show 0 < n by omega, show 1 < n by omega, show 2 < n by omega, show 3 < n by omega]
theorem four_num (a : Int) (h0 : 0 ≤ a) (h1 : a < 4294967296) : a % 256 + 256 * (a / 256 % 256) + 65536 * (a / 65536 % 256) + 16777216 * (a / 16777216 % 256) = a := by omega
theorem page_num0 {R : Nat} {a b c : Int} (h0 : 0 ≤ a) (h1 : a < 4294967296) : numAt (pageOf R a b c) 4 = a := four_num a h0 h1
theorem page_num1 {R : Nat} {a b c : Int} (h0 : 0 ≤ b) (h1 : b < 4294967296) : numAt (pageOf R a b c) 8 = b := four_num b h0 h1
theorem page_num2 {R : Nat} {a b c : Int} (h0 : 0 ≤ c) (h1 : c < 4294967296) : numAt (pageOf R a b c) 12 = c := four_num c h0 h1
/-- What is laid down is read as itself. -/
theorem readH_page {C a b c : Int} {R : Nat} (hC : C < 4294967296) (h : mayH C a b c = true) : numAt (pageOf R a b c) 4 = a ∧ numAt (pageOf R a b c) 8 = b ∧ numAt (pageOf R a b c) 12 = c ∧ readH C R (pageOf R a b c) = true := by
  have hh := mayH_yes h
  have e0 : numAt (pageOf R a b c) 4 = a := page_num0 (by omega) (by omega)
  have e1 : numAt (pageOf R a b c) 8 = b := page_num1 (by omega) (by omega)
  have e2 : numAt (pageOf R a b c) 12 = c := page_num2 (by omega) (by omega)
  refine ⟨e0, e1, e2, ?_⟩
  unfold readH
  rw [e0, e1, e2, h]
  simp
theorem readH_may {C : Int} {R : Nat} {z : List Int} (h : readH C R z = true) : mayH C (numAt z 4) (numAt z 8) (numAt z 12) = true ∧ pageOf R (numAt z 4) (numAt z 8) (numAt z 12) = z := by
  unfold readH at h
  simpa using h
/-- Unlike heads have unlike pages. -/
theorem page_inj {C a b c a' b' c' : Int} {R : Nat} (hC : C < 4294967296) (h : mayH C a b c = true) (h' : mayH C a' b' c' = true) (he : pageOf R a b c = pageOf R a' b' c') : a = a' ∧ b = b' ∧ c = c' := by
  obtain ⟨e0, e1, e2, _⟩ := readH_page (R := R) hC h
  obtain ⟨f0, f1, f2, _⟩ := readH_page (R := R) hC h'
  rw [he] at e0 e1 e2
  exact ⟨e0.symm.trans f0, e1.symm.trans f1, e2.symm.trans f2⟩
/-- How many pages of R bytes n bytes take. -/
def pagesOf (R n : Nat) : Nat := (n + R - 1) / R
theorem pagesOf_lt {R n k : Nat} (hR : 0 < R) : k < pagesOf R n ↔ k * R < n := by
  unfold pagesOf
  rw [Nat.lt_iff_add_one_le, Nat.le_div_iff_mul_le hR, Nat.add_mul]
  omega
theorem pagesOf_room {R n : Nat} (hR : 0 < R) : n ≤ pagesOf R n * R := by
  have := (pagesOf_lt (n := n) (k := pagesOf R n) hR)
  omega
theorem pagesOf_mono {R m n : Nat} (h : m ≤ n) : pagesOf R m ≤ pagesOf R n := Nat.div_le_div_right (by omega)
theorem pagesOf_mul {R p : Nat} (hR : 0 < R) : pagesOf R (p * R) = p := by
  rcases Nat.lt_trichotomy (pagesOf R (p * R)) p with h | h | h
  · have := pagesOf_room (n := p * R) hR
    have := Nat.mul_lt_mul_of_pos_right h hR
    omega
  · exact h
  · have := (pagesOf_lt hR).1 h
    omega
/-- 'or' of what lies apart. -/
theorem or_apart (n x : Int) (i : Nat) (hi : i ≤ 24) (hn : 0 ≤ n) (hn1 : n < 2 ^ i) (hx0 : 0 ≤ x) (hx1 : x ≤ 255) : bits .or .i64 n (x * 2 ^ i) = n + x * 2 ^ i := by
  have hp : (0 : Int) < 2 ^ i := Int.pow_pos (by decide)
  have hp2 : (2 : Int) ^ i ≤ 2 ^ 24 := by exact_mod_cast Nat.pow_le_pow_right (n := 2) (by decide) hi
  have h1 : 0 * 2 ^ i ≤ x * 2 ^ i := Int.mul_le_mul_of_nonneg_right hx0 (by omega)
  have h2 : x * 2 ^ i ≤ 255 * 2 ^ i := Int.mul_le_mul_of_nonneg_right hx1 (by omega)
  have hc : bits .or .i64 n (x * 2 ^ i) = bits .or .i64 (x * 2 ^ i) n := by simp only [bits, BitVec.or_comm]
  rw [hc, bits_join .i64 62 (by decide) (fun n h0 h1 => by rw [IntKind.wrap_i64]; omega) i (x * 2 ^ i) n (by omega) (by simp) (by omega) hn hn1 (by omega)]
  omega
theorem or_num (n x : Int) (k : Nat) (hk : k < 4) (hn : 0 ≤ n) (hn1 : n < 256 ^ k) (hx0 : 0 ≤ x) (hx1 : x ≤ 255) : bits .or .i64 n (wrap64 (x * 2 ^ (8 * k))) = n + x * 256 ^ k := by
  have e : (256 : Int) ^ k = 2 ^ (8 * k) := by rw [Int.pow_mul]; rfl
  rw [e] at hn1 ⊢
  have hp : (0 : Int) < 2 ^ (8 * k) := Int.pow_pos (by decide)
  have hp2 : (2 : Int) ^ (8 * k) ≤ 2 ^ 24 := by exact_mod_cast Nat.pow_le_pow_right (n := 2) (by decide) (show 8 * k ≤ 24 by omega)
  have h1 : 0 * 2 ^ (8 * k) ≤ x * 2 ^ (8 * k) := Int.mul_le_mul_of_nonneg_right hx0 (by omega)
  have h2 : x * 2 ^ (8 * k) ≤ 255 * 2 ^ (8 * k) := Int.mul_le_mul_of_nonneg_right hx1 (by omega)
  have hw : wrap64 (x * 2 ^ (8 * k)) = x * 2 ^ (8 * k) := by unfold wrap64; omega
  rw [hw, or_apart n x (8 * k) (by omega) hn hn1 hx0 hx1]

end Go.Proofs.Ytagppgdigabbmaa
