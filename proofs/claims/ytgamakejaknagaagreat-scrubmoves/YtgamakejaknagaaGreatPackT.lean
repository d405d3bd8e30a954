/-
  Layer 9, plain: a head's page, and the numbers that a page says.
-/
import Derived.Test.YtgamakejaknagaaGreatPackA
import Derived.Laws.BitsAllLaws
import Derived.Laws.BitsLemmas
import Derived.Test.YtgamakejaknagaaGreatPackL
import Derived.Lib.BufferWrite
import Derived.RangeFuncRecord
namespace Go.Proofs.YtgamakejaknagaaGreat
open Go.RowKit
set_option linter.unusedVariables false
set_option maxRecDepth 8192

/-- A number's four bytes, the lowest first. -/
def four (n : Int) : List Int := [n % 256, n / 256 % 256, n / 65536 % 256, n / 16777216 % 256]
/-- What a head's page begins with. -/
def sixteen (a b c : Int) : List Int := [99, 97, 115, 101] ++ four a ++ four b ++ four c
/-- A head's page of R bytes. -/
def pageOf (R : Nat) (a b c : Int) : List Int := sixteen a b c ++ List.replicate (R - 16) 0
/-- So much of it as is laid down behind j bytes of numbers. -/
def pageTo (R : Nat) (a b c : Int) (j : Nat) : List Int := (sixteen a b c).take (4 + j) ++ List.replicate (R - (4 + j)) 0
/-- The number of the first k bytes behind the place o. -/
def numTo (z : List Int) (o : Nat) : Nat → Int
  | 0 => 0
  | k + 1 => numTo z o k + z[o + k]?.getD 0 * 256 ^ k
/-- The number that four bytes say. -/
def numAt (z : List Int) (o : Nat) : Int := z[o]?.getD 0 + 256 * z[o + 1]?.getD 0 + 65536 * z[o + 2]?.getD 0 + 16777216 * z[o + 3]?.getD 0
/-- May a head be, of a logical block with room for C bytes? -/
def mayH (C a b c : Int) : Bool := decide (0 ≤ a ∧ a ≤ 63 ∧ 0 ≤ b ∧ b ≤ C ∧ 1 ≤ c ∧ c ≤ 1000000000)
theorem mayH_yes {C a b c : Int} (h : mayH C a b c = true) : 0 ≤ a ∧ a ≤ 63 ∧ 0 ≤ b ∧ b ≤ C ∧ 1 ≤ c ∧ c ≤ 1000000000 := by unfold mayH at h; exact of_decide_eq_true h
theorem mayH_no {C a b c : Int} (h : ¬ (0 ≤ a ∧ a ≤ 63 ∧ 0 ≤ b ∧ b ≤ C ∧ 1 ≤ c ∧ c ≤ 1000000000)) : mayH C a b c = false := by unfold mayH; rw [decide_eq_false_iff_not]; exact h
/-- What a page is read as. -/
def readH (C : Int) (R : Nat) (z : List Int) : Bool := mayH C (numAt z 4) (numAt z 8) (numAt z 12) && decide (pageOf R (numAt z 4) (numAt z 8) (numAt z 12) = z)

theorem sixteen_len (a b c : Int) : (sixteen a b c).length = 16 := rfl
theorem pageOf_len {R : Nat} (a b c : Int) (hR : 16 ≤ R) : (pageOf R a b c).length = R := by unfold pageOf; rw [List.length_append, sixteen_len, List.length_replicate]; omega
theorem pageTo_len {R : Nat} (a b c : Int) (j : Nat) (hR : 16 ≤ R) (hj : j ≤ 12) : (pageTo R a b c j).length = R := by
  unfold pageTo
  rw [List.length_append, List.length_take, sixteen_len, List.length_replicate]; omega
theorem pageTo_zero (R : Nat) (a b c : Int) : pageTo R a b c 0 = [99, 97, 115, 101] ++ List.replicate (R - 4) 0 := rfl
theorem pageTo_end (R : Nat) (a b c : Int) : pageTo R a b c 12 = pageOf R a b c := rfl
theorem pageTo_set {R : Nat} (a b c : Int) (j : Nat) (hR : 16 ≤ R) (hj : j < 12) : (pageTo R a b c j).set (4 + j) ((sixteen a b c)[4 + j]?.getD 0) = pageTo R a b c (j + 1) := by
  unfold pageTo
  have hl : ((sixteen a b c).take (4 + j)).length = 4 + j := by rw [List.length_take, sixteen_len]; omega
  have h4 : 4 + j < (sixteen a b c).length := by rw [sixteen_len]; omega
  rw [List.set_append_right _ _ (by omega), hl, Nat.sub_self, show R - (4 + j) = (R - (4 + (j + 1))) + 1 by omega, List.replicate_succ, List.set_cons_zero,
    show 4 + (j + 1) = 4 + j + 1 by omega, List.take_succ_eq_append_getElem h4, List.getElem?_eq_getElem h4, List.append_assoc]
  rfl
/-- The k-th byte of the i-th number. -/
theorem sixteen_at (a b c : Int) (i k : Nat) (hi : i < 3) (hk : k < 4) : (sixteen a b c)[4 + (4 * i + k)]?.getD 0 = ([a, b, c][i]?.getD 0) / 256 ^ k % 256 := by
  rcases (show i = 0 ∨ i = 1 ∨ i = 2 by omega) with rfl | rfl | rfl <;> rcases (show k = 0 ∨ k = 1 ∨ k = 2 ∨ k = 3 by omega) with rfl | rfl | rfl | rfl <;> simp [sixteen, four]
theorem div_step256 (x : Int) (k : Nat) : x / 256 ^ k / 256 = x / 256 ^ (k + 1) := by
  rw [Int.ediv_ediv_of_nonneg (by exact Int.pow_nonneg (by decide)), Int.pow_succ]
theorem isB_four (n : Int) : IsB (four n) := by
  intro x hx
  simp only [four, List.mem_cons, List.not_mem_nil, or_false] at hx
  omega
theorem isB_app {x y : List Int} (hx : IsB x) (hy : IsB y) : IsB (x ++ y) := fun n hn => by
  rcases List.mem_append.1 hn with h | h
  · exact hx n h
  · exact hy n h
theorem isB_sixteen (a b c : Int) : IsB (sixteen a b c) := isB_app (isB_app (isB_app (by unfold IsB; decide) (isB_four a)) (isB_four b)) (isB_four c)
theorem isB_page (R : Nat) (a b c : Int) : IsB (pageOf R a b c) := isB_app (isB_sixteen a b c) (fun n hn => by rw [(List.mem_replicate.1 hn).2]; decide)
theorem numTo_bd {z : List Int} (h : IsB z) (o k : Nat) : 0 ≤ numTo z o k ∧ numTo z o k < 256 ^ k := by
  induction k with
  | zero => simp [numTo]
  | succ k ih =>
    have hz := h.idx (o + k)
    have hp : (0 : Int) < 256 ^ k := Int.pow_pos (by decide)
    rw [Int.pow_succ]
    unfold numTo
    have h1 : 0 * 256 ^ k ≤ z[o + k]?.getD 0 * 256 ^ k := Int.mul_le_mul_of_nonneg_right hz.1 (by omega)
    have h2 : z[o + k]?.getD 0 * 256 ^ k ≤ 255 * 256 ^ k := Int.mul_le_mul_of_nonneg_right hz.2 (by omega)
    omega
theorem numTo_four (z : List Int) (o : Nat) : numTo z o 4 = numAt z o := by simp [numTo, numAt]; omega
theorem four_num (a : Int) (h0 : 0 ≤ a) (h1 : a < 4294967296) : a % 256 + 256 * (a / 256 % 256) + 65536 * (a / 65536 % 256) + 16777216 * (a / 16777216 % 256) = a := by omega
theorem page_num0 {R : Nat} {a b c : Int} (h0 : 0 ≤ a) (h1 : a < 4294967296) : numAt (pageOf R a b c) 4 = a := four_num a h0 h1
theorem page_num1 {R : Nat} {a b c : Int} (h0 : 0 ≤ b) (h1 : b < 4294967296) : numAt (pageOf R a b c) 8 = b := four_num b h0 h1
theorem page_num2 {R : Nat} {a b c : Int} (h0 : 0 ≤ c) (h1 : c < 4294967296) : numAt (pageOf R a b c) 12 = c := four_num c h0 h1
/-- What is laid down is read as itself. -/
theorem readH_page {C a b c : Int} {R : Nat} (hC : C < 4294967296) (h : mayH C a b c = true) : numAt (pageOf R a b c) 4 = a ∧ numAt (pageOf R a b c) 8 = b ∧ numAt (pageOf R a b c) 12 = c ∧ readH C R (pageOf R a b c) = true := by
  have hh := mayH_yes h
  have e0 : numAt (pageOf R a b c) 4 = a := page_num0 (by omega) (by omega)
  have e1 : numAt (pageOf R a b c) 8 = b := page_num1 (by omega) (by omega)
  have e2 : numAt (pageOf R a b c) 12 = c := page_num2 (by omega) (by omega)
  refine ⟨e0, e1, e2, ?_⟩
  unfold readH
  rw [e0, e1, e2, h]
  simp
/-- How many pages of R bytes n bytes take. -/
def pagesOf (R n : Nat) : Nat := (n + R - 1) / R
theorem pagesOf_lt {R n k : Nat} (hR : 0 < R) : k < pagesOf R n ↔ k * R < n := by
  unfold pagesOf
  rw [Nat.lt_iff_add_one_le, Nat.le_div_iff_mul_le hR, Nat.add_mul]
  omega
theorem pagesOf_room {R n : Nat} (hR : 0 < R) : n ≤ pagesOf R n * R := by
  have := (pagesOf_lt (n := n) (k := pagesOf R n) hR)
  omega
theorem pagesOf_mono {R m n : Nat} (h : m ≤ n) : pagesOf R m ≤ pagesOf R n := Nat.div_le_div_right (by omega)
theorem pagesOf_mul {R p : Nat} (hR : 0 < R) : pagesOf R (p * R) = p := by
  rcases Nat.lt_trichotomy (pagesOf R (p * R)) p with h | h | h
  · have := pagesOf_room (n := p * R) hR
    have := Nat.mul_lt_mul_of_pos_right h hR
    omega
  · exact h
  · have := (pagesOf_lt hR).1 h
    omega
/-- 'or' of what lies apart. -/
theorem or_apart (n x : Int) (i : Nat) (hi : i ≤ 24) (hn : 0 ≤ n) (hn1 : n < 2 ^ i) (hx0 : 0 ≤ x) (hx1 : x ≤ 255) : bits .or .i64 n (x * 2 ^ i) = n + x * 2 ^ i := by
  have hp : (0 : Int) < 2 ^ i := Int.pow_pos (by decide)
  have hp2 : (2 : Int) ^ i ≤ 2 ^ 24 := by exact_mod_cast Nat.pow_le_pow_right (n := 2) (by decide) hi
  have h1 : 0 * 2 ^ i ≤ x * 2 ^ i := Int.mul_le_mul_of_nonneg_right hx0 (by omega)
  have h2 : x * 2 ^ i ≤ 255 * 2 ^ i := Int.mul_le_mul_of_nonneg_right hx1 (by omega)
  have hc : bits .or .i64 n (x * 2 ^ i) = bits .or .i64 (x * 2 ^ i) n := by simp only [bits, BitVec.or_comm]
  rw [hc, bits_join .i64 62 (by decide) (fun n h0 h1 => by rw [IntKind.wrap_i64]; omega) i (x * 2 ^ i) n (by omega) (by simp) (by omega) hn hn1 (by omega)]
  omega
theorem or_num (n x : Int) (k : Nat) (hk : k < 4) (hn : 0 ≤ n) (hn1 : n < 256 ^ k) (hx0 : 0 ≤ x) (hx1 : x ≤ 255) : bits .or .i64 n (wrap64 (x * 2 ^ (8 * k))) = n + x * 256 ^ k := by
  have e : (256 : Int) ^ k = 2 ^ (8 * k) := by rw [Int.pow_mul]; rfl
  rw [e] at hn1 ⊢
  have hp : (0 : Int) < 2 ^ (8 * k) := Int.pow_pos (by decide)
  have hp2 : (2 : Int) ^ (8 * k) ≤ 2 ^ 24 := by exact_mod_cast Nat.pow_le_pow_right (n := 2) (by decide) (show 8 * k ≤ 24 by omega)
  have h1 : 0 * 2 ^ (8 * k) ≤ x * 2 ^ (8 * k) := Int.mul_le_mul_of_nonneg_right hx0 (by omega)
  have h2 : x * 2 ^ (8 * k) ≤ 255 * 2 ^ (8 * k) := Int.mul_le_mul_of_nonneg_right hx1 (by omega)
  have hw : wrap64 (x * 2 ^ (8 * k)) = x * 2 ^ (8 * k) := by unfold wrap64; omega
  rw [hw, or_apart n x (8 * k) (by omega) hn hn1 hx0 hx1]

end Go.Proofs.YtgamakejaknagaaGreat

/-
  The code of layer 9 (head), as it landed: within, mayBe, sizes, Cap, Pages, number, lay, Bytes. Any geometry that may be.
-/
namespace Go.Proofs.YtgamakejaknagaaGreat
open Go.RowKit
set_option linter.unusedVariables false
set_option maxRecDepth 8192

/-- A geometry that may be, whatever its pages: R data bytes of a page, C bytes of a logical block. -/
structure GMay (b p : Int) (s n : Nat) (f : Int) (R C : Nat) : Prop where
  may : mayG b p s n f = true
  hs : s ≤ 8
  hn : n ≤ 512
  hR : s * n = R
  hR1 : 16 ≤ R ∧ R ≤ 4096
  hp : 2 ≤ p ∧ p ≤ 64
  hC : (p - 1) * (R : Int) = C
  hC1 : 16 ≤ C ∧ C ≤ 258048
theorem GMay.C32 {b p : Int} {s n : Nat} {f : Int} {R C : Nat} (h : GMay b p s n f R C) : (C : Int) < 4294967296 := by have := h.hC1; omega

/-- A head lies in the block g. -/
structure HBox (w : World) (g : Nat) (a b c : Int) : Prop where
  lt : g < w.heap.size
  c0 : w.cell? ⟨g, 0, none⟩ = some (.int .i64 a)
  c1 : w.cell? ⟨g, 1, none⟩ = some (.int .i64 b)
  c2 : w.cell? ⟨g, 2, none⟩ = some (.int .i64 c)
theorem HBox.below {w w' : World} {g B : Nat} {a b c : Int} (h : HBox w g a b c) (hb : Below B w w') (hB : w.heap.size ≤ B) : HBox w' g a b c := by
  have hlt := h.lt
  refine ⟨by have := hb.size; omega, ?_, ?_, ?_⟩
  · rw [hb.cell (by show g < B; omega)]; exact h.c0
  · rw [hb.cell (by show g < B; omega)]; exact h.c1
  · rw [hb.cell (by show g < B; omega)]; exact h.c2
theorem hbox_new (w : World) (T : TypeId) (a b c : Int) : HBox (w.alloc (.cells #[.int .i64 a, .int .i64 b, .int .i64 c] T)) w.heap.size a b c := by
  refine ⟨by simp, ?_, ?_, ?_⟩ <;> (rw [World.cell?_alloc_at _ _ _ _ rfl]; rfl)
theorem hbox_two (w : World) (o : Obj) (T : TypeId) (a b c : Int) : HBox ((w.alloc o).alloc (.cells #[.int .i64 a, .int .i64 b, .int .i64 c] T)) (w.heap.size + 1) a b c := by
  have h := hbox_new (w.alloc o) T a b c
  have e : (w.alloc o).heap.size = w.heap.size + 1 := by simp
  rw [e] at h
  exact h

theorem eccRoom_may {b p : Int} {s n : Nat} {f : Int} {R C : Nat} (G : GMay b p s n f R C) (w : World) : Calls Tryz.prog 114 #[.agg #[.int .i64 b, .int .i64 p, .int .i64 ((s : Nat)), .int .i64 ((n : Nat)), .int .i64 f]] w fun e w' => e = .returned (.tuple #[.int .i64 (R : Int), .int .i64 0]) ∧ Below w.heap.size w w' := by
  have HM : Hid (mayG b p s n f = true) := G.may
  have hroom := room_any b p f s n R G.hR G.hs G.hn
  clear G
  go_enter Tryz.func114, Tryz.ntmps114
  go_wp2_with fail
  refine (eccMayBe_any b p s n f _).mono ?_
  rintro e w1 ⟨rfl, q1⟩
  rw [HM.out]
  obtain ⟨_, c0, c1, c2, c3, c4⟩ := (gbox_new w 23 b p s n f).below q1 (Nat.le_refl _)
  go_wp2_with fail
  refine (hroom _).mono ?_
  rintro e w2 ⟨rfl, q2⟩
  go_wp2_with fail
  go_ret2
  exact ⟨rfl, btrans (btrans (below_one _ _) q1) q2⟩
theorem hwithin_any (n a b : Int) (w : World) : Calls Tryz.prog 82 #[.int .i64 n, .int .i64 a, .int .i64 b] w fun e w' => e = .returned (.bool (withB n a b)) ∧ w = w' := by
  by_cases h : a ≤ n
  · go_enter Tryz.func82, Tryz.ntmps82
    go_wp2
    go_ret
    exact ⟨ret_bool (by unfold withB; simp [h]), rfl⟩
  · go_enter Tryz.func82, Tryz.ntmps82
    go_wp2
    go_ret
    exact ⟨ret_bool (by unfold withB; symm; rw [decide_eq_false_iff_not]; omega), rfl⟩
set_option maxHeartbeats 800000 in
theorem hMayBe_any (a b c C : Int) (w : World) : Calls Tryz.prog 101 #[.agg #[.int .i64 a, .int .i64 b, .int .i64 c], .int .i64 C] w fun e w' => e = .returned (.bool (mayH C a b c)) ∧ Below w.heap.size w w' := by
  go_enter Tryz.func101, Tryz.ntmps101
  go_wp2_with fail
  refine (hwithin_any a 0 63 _).mono ?_
  rintro e w' ⟨rfl, rfl⟩
  cases h1 : withB a 0 63
  · have hm : mayH C a b c = false := mayH_no (fun h => withB_no h1 (by omega))
    go_wp2_with fail
    go_ret
    exact ⟨ret_bool hm.symm, below_one _ _⟩
  go_wp2_with fail
  refine (hwithin_any b 0 C _).mono ?_
  rintro e w' ⟨rfl, rfl⟩
  cases h2 : withB b 0 C
  · have hm : mayH C a b c = false := mayH_no (fun h => withB_no h2 (by omega))
    go_wp2_with fail
    go_ret
    exact ⟨ret_bool hm.symm, below_one _ _⟩
  go_wp2_with fail
  refine (hwithin_any c 1 1000000000 _).mono ?_
  rintro e w' ⟨rfl, rfl⟩
  have HM : Hid (mayH C a b c = withB c 1 1000000000) := by
    show _ = _
    have k1 := withB_yes h1
    have k2 := withB_yes h2
    unfold mayH withB
    rw [decide_eq_decide]
    omega
  go_wp2_with fail
  go_ret
  exact ⟨ret_bool HM.out.symm, below_one _ _⟩
set_option maxHeartbeats 800000 in
theorem sizes_yes {b p : Int} {s n : Nat} {f : Int} {R C : Nat} (G : GMay b p s n f R C) (w : World) : Calls Tryz.prog 78 #[.agg #[.int .i64 b, .int .i64 p, .int .i64 ((s : Nat)), .int .i64 ((n : Nat)), .int .i64 f]] w fun e w' => e = .returned (.tuple #[.int .i64 (R : Int), .int .i64 (C : Int), .int .i64 0]) ∧ Below w.heap.size w w' := by
  have hroom := eccRoom_may G
  have HC : Hid ((p - 1) * (R : Int) = C) := G.hC
  have hR := G.hR1
  have hp := G.hp
  have hC := G.hC1
  clear G
  go_enter Tryz.func78, Tryz.ntmps78
  go_wp2_with fail
  refine (hroom _).mono ?_
  rintro e w1 ⟨rfl, q1⟩
  obtain ⟨_, c0, c1, c2, c3, c4⟩ := (gbox_new w 23 b p s n f).below q1 (Nat.le_refl _)
  go_wp2_with fail
  go_quiet (fail)
  go_wp2_with fail
  go_ret3
  have HW : wrap64 ((p - 1) * (R : Int)) = C := by rw [HC.out]; unfold wrap64; omega
  refine ⟨?_, btrans (btrans (below_one _ _) q1) (below_drews _ _)⟩
  show Ending.returned (.tuple #[.int .i64 (R : Int), .int .i64 (wrap64 ((p - 1) * (R : Int))), .int .i64 0]) = _
  rw [HW]
theorem hCap_yes {b p : Int} {s n : Nat} {f : Int} {R C : Nat} (G : GMay b p s n f R C) (w : World) : Calls Tryz.prog 67 #[.agg #[.int .i64 b, .int .i64 p, .int .i64 ((s : Nat)), .int .i64 ((n : Nat)), .int .i64 f]] w fun e w' => e = .returned (.tuple #[.int .i64 (C : Int), .int .i64 0]) ∧ Below w.heap.size w w' := by
  have hsz := sizes_yes G
  clear G
  go_enter Tryz.func67, Tryz.ntmps67
  go_wp2_with fail
  refine (hsz _).mono ?_
  rintro e w1 ⟨rfl, q1⟩
  go_wp2_with fail
  go_ret2
  exact ⟨rfl, btrans (below_one _ _) q1⟩
set_option maxHeartbeats 800000 in
theorem hPages_yes {b p : Int} {s n : Nat} {f : Int} {R C : Nat} (G : GMay b p s n f R C) (k : Nat) (w : World) (hk : k ≤ C) : Calls Tryz.prog 49 #[.agg #[.int .i64 b, .int .i64 p, .int .i64 ((s : Nat)), .int .i64 ((n : Nat)), .int .i64 f], .int .i64 (k : Nat)] w fun e w' => e = .returned (.tuple #[.int .i64 (pagesOf R k : Nat), .int .i64 0]) ∧ Below w.heap.size w w' := by
  have hsz := sizes_yes G
  have hR := G.hR1
  have hC := G.hC1
  have hw : withB (k : Int) 0 (C : Int) = true := by unfold withB; rw [decide_eq_true_iff]; omega
  have hR0 : ¬ (R : Int) = 0 := by omega
  have HP : Hid (((k : Int) + (R : Int) - 1) / (R : Int) = (pagesOf R k : Nat)) := by
    show _ = _
    rw [show (k : Int) + (R : Int) - 1 = ((k + R - 1 : Nat) : Int) by omega]
    rfl
  clear G
  go_enter Tryz.func49, Tryz.ntmps49
  go_wp2_with fail
  refine (hsz _).mono ?_
  rintro e w1 ⟨rfl, q1⟩
  go_wp2_with fail
  refine (hwithin_any k 0 C _).mono ?_
  rintro e w' ⟨rfl, rfl⟩
  rw [hw]
  go_wp2_with fail
  go_ret2
  refine ⟨?_, btrans (below_one _ _) q1⟩
  show Ending.returned (.tuple #[.int .i64 (((k : Int) + (R : Int) - 1) / (R : Int)), .int .i64 0]) = _
  rw [HP.out]
end Go.Proofs.YtgamakejaknagaaGreat

/-
  The code of layer 9 (head), as it landed: number, lay, Bytes.
-/
namespace Go.Proofs.YtgamakejaknagaaGreat
open Go.RowKit
set_option linter.unusedVariables false
set_option maxRecDepth 8192

set_option maxHeartbeats 1600000 in
theorem hnumber_any (a : Option Addr) (len cap : Nat) (z : List Int) (i : Nat) (w : World) (hr : Row .u8 w a len cap z) (hb : IsB z) (hi : i ≤ 2) (h16 : 16 ≤ len) :
    Calls Tryz.prog 79 #[.slice a len cap, .int .i64 (i : Nat)] w fun e w' => e = .returned (.int .i64 (numAt z (4 + 4 * i))) ∧ w = w' := by
  obtain ⟨b, off, rfl, hbs, hcell⟩ := hr.hcell (by omega)
  have hm := hr.hmax
  have hcp := hr.hcap
  unfold maxLen at hm
  have HN : Hid (numTo z (4 + 4 * i) 4 = numAt z (4 + 4 * i)) := numTo_four z _
  have hF : 4 + 4 * i ≤ 12 := by omega
  have eF : 4 + (i : Int) * 4 = ((4 + 4 * i : Nat) : Int) := by omega
  go_enter Tryz.func79, Tryz.ntmps79
  go_wp2
  go_loop [6, 11] (fun n y => ∃ k : Nat, k ≤ 4 ∧ y = .int .i64 (k : Int) ∧ n = .int .i64 (numTo z (4 + 4 * i) k)) (fun _ y => 4 - (RowKit.intOf y).toNat)
  case atStart => exact ⟨0, Nat.zero_le _, rfl, rfl⟩
  case round =>
    obtain ⟨k, hk, rfl, rfl⟩ := hrel
    by_cases hlt : k < 4
    · have hc1 := hcell (4 + 4 * i + k) (by omega)
      have hx := hb.idx (4 + 4 * i + k)
      have hn := numTo_bd hb (4 + 4 * i) k
      have HS : Hid (numTo z (4 + 4 * i) (k + 1) = numTo z (4 + 4 * i) k + z[4 + 4 * i + k]?.getD 0 * 256 ^ k) := rfl
      have HO : Hid (bits .or .i64 (numTo z (4 + 4 * i) k) (wrap64 (z[4 + 4 * i + k]?.getD 0 * 2 ^ (8 * k))) = numTo z (4 + 4 * i) k + z[4 + 4 * i + k]?.getD 0 * 256 ^ k) := or_num _ _ k hlt hn.1 hn.2 hx.1 hx.2
      generalize numTo z (4 + 4 * i) k = nn at *
      generalize z[4 + 4 * i + k]?.getD 0 = x at *
      go_wp2
      go_round
      case rel => exact ⟨k + 1, by omega, by go_num, by rw [HO.out, HS.out]⟩
      case measure => simp [RowKit.intOf]; omega
    · have e : k = 4 := by omega
      subst e
      rw [HN.out]
      go_wp2
      go_ret
      exact ⟨rfl, rfl⟩
theorem byteCells_case : Lib.byteCells (ByteArray.mk #[99, 97, 115, 101]).data.toList = ([99, 97, 115, 101] : List Int).map (Value.int .u8) := rfl
/-- 'copy(page, "case")', page a row of noughts. -/
theorem copy_case {P : Program} {w0 w : World} {B g n : Nat} {dT sT elem ty : TypeId} (hu : P.underlying dT = some (.slice elem)) (hsz : (P.info? elem).map (·.size) = some 1)
    (hg : w.heap[g]? = some (.cells ((List.replicate n (0 : Int)).map (Value.int .u8)).toArray elem (0, 0))) (hle : 4 ≤ n) (hb : Below B w0 w) (hB : B ≤ g) :
    ∃ w2, Sem.run P (Builtin.copy_ #[dT, sT] ty #[.slice (some ⟨g, 0, none⟩) n n, .string (ByteArray.mk #[99, 97, 115, 101])]) w = .ok (.int .i64 4) w2 ∧ w2.heap[g]? = some (.cells (([99, 97, 115, 101] ++ List.replicate (n - 4) 0 : List Int).map (Value.int .u8)).toArray elem (0, 0)) ∧ Below B w0 w2 := by
  have hrun := Lib.run_copy_row_string (P := P) w dT sT ty elem g 0 n n (ByteArray.mk #[99, 97, 115, 101]) _ elem hu hsz hg (by show 4 ≤ n; omega) (by show 0 + 4 ≤ _; simp; omega)
  refine ⟨_, hrun, ?_, below_setRow hb hB _⟩
  rw [setRow_heap w g _ _ elem _ hg, byteCells_case]
  have e : List.drop (0 + (ByteArray.mk #[99, 97, 115, 101]).size) ((List.replicate n (0 : Int)).map (Value.int .u8)).toArray.toList = (List.replicate (n - 4) (0 : Int)).map (Value.int .u8) := by
    show List.drop 4 _ = _
    simp
  rw [e, List.map_append]
  rfl
set_option maxHeartbeats 3200000 in
theorem hlay_any (R : Nat) (a b c : Int) (ad : Option Addr) (cap : Nat) (w : World) (hr : Row .i64 w ad 3 cap [a, b, c]) (hR : 16 ≤ R ∧ R ≤ 4096) (ha : 0 ≤ a ∧ a < 4294967296) (hb : 0 ≤ b ∧ b < 4294967296) (hc : 0 ≤ c ∧ c < 4294967296) :
    Calls Tryz.prog 102 #[.int .i64 (R : Nat), .slice ad 3 cap] w fun e w' => e = .returned (.slice (some ⟨w.heap.size, 0, none⟩) R R) ∧ w'.ownsRow w.heap.size 5 1 (.slice (some ⟨w.heap.size, 0, none⟩) R R) R ((pageOf R a b c).map (Value.int .u8)) ∧ Below w.heap.size w w' := by
  obtain ⟨i0, hi0, hz0, hz1, hz2⟩ := info_parts Tryz.info5
  have hmax : R ≤ maxLen := by unfold maxLen; omega
  have hmk : ∀ w1 : World, w1.ownsRow w.heap.size 5 1 (.slice (some ⟨w.heap.size, 0, none⟩) R R) R (madeCells (Value.int IntKind.u8 0).cells (R * 1)).toList → w.grownBy w1 none → w1.heap[w.heap.size]? = some (.cells ((List.replicate R (0 : Int)).map (Value.int .u8)).toArray 5 (0, 0)) ∧ Below w.heap.size w w1 := fun w1 h1 h2 => by
    rw [made_ints] at h1
    exact ⟨heap_of_owns h1, (Below.refl _ _).grown h2 (Nat.le_refl _) (by simp)⟩
  have HX : Hid (∀ i, i < 3 → 0 ≤ [a, b, c][i]?.getD 0 ∧ [a, b, c][i]?.getD 0 < 4294967296 ∧ ∀ k, k < 4 → (pageTo R a b c (4 * i + k)).set (4 + (4 * i + k)) ([a, b, c][i]?.getD 0 / 256 ^ k % 256) = pageTo R a b c (4 * i + (k + 1))) := fun i hi => by
    refine ⟨?_, ?_, fun k hk => ?_⟩
    · rcases (show i = 0 ∨ i = 1 ∨ i = 2 by omega) with rfl | rfl | rfl
      · exact ha.1
      · exact hb.1
      · exact hc.1
    · rcases (show i = 0 ∨ i = 1 ∨ i = 2 by omega) with rfl | rfl | rfl
      · exact ha.2
      · exact hb.2
      · exact hc.2
    · rw [← sixteen_at a b c i k hi hk]
      exact pageTo_set a b c (4 * i + k) hR.1 (by omega)
  have HE : Hid (pageTo R a b c 12 = pageOf R a b c) := pageTo_end R a b c
  have HLN : Hid (∀ j, j ≤ 12 → (pageTo R a b c j).length = R) := fun j hj => pageTo_len a b c j hR.1 hj
  have H0 : Hid ([99, 97, 115, 101] ++ List.replicate (R - 4) 0 = pageTo R a b c 0) := pageTo_zero R a b c
  have hrow : Hid (Row .i64 w ad 3 cap [a, b, c]) := hr
  obtain ⟨nb, noff, rfl, _, _⟩ := hr.hcell (by decide)
  clear hr
  generalize hns : ([a, b, c] : List Int) = ns at *
  clear ha hb hc hns
  go_enter Tryz.func102, Tryz.ntmps102
  go_wp2_with (at_make; refine wpList_make_full _ rfl _ _ 33 rfl w.heap.size 5 i0 (.int .u8 0) 1 Tryz.underlying33 hi0 hz0 hz1 _ _ _ _ R rfl rfl rfl rfl (by rw [hz2]; omega) hmax (Nat.le_refl _) ?_; intro w1 hown1 hgrow1)
  obtain ⟨hg1, hb1⟩ := hmk w1 hown1 hgrow1
  obtain ⟨w2, hrun, hg2, hb2⟩ := copy_case (P := Tryz.prog) (dT := 33) (sT := 9) (ty := 3) (elem := 5) Tryz.underlying33 (by kernel_rfl) hg1 (show 4 ≤ R by omega) hb1 (Nat.le_refl _)
  rw [H0.out] at hg2
  have hown2 : w2.ownsRow w.heap.size 5 1 (.slice (some ⟨w.heap.size, 0, none⟩) R R) R ((pageTo R a b c (4 * 0)).map (Value.int .u8)) :=
    owns_of_heap hg2 (by rw [List.length_map]; exact HLN.out 0 (by omega)) (Nat.le_refl _) hmax
  rw [hrun]
  clear hg2 hg1 hb1 hmk hown1 hgrow1 hrun H0
  generalize hgg : w.heap.size = g at *
  have HGG : Hid (w.heap.size = g) := hgg
  clear hgg
  go_wp2
  go_loopw [6, 15] (fun at_ y wr => ∃ i : Nat, i ≤ 3 ∧ y = .int .i64 (i : Int) ∧ at_ = .int .i64 ((4 + 4 * i : Nat) : Int) ∧ wr.ownsRow g 5 1 (.slice (some ⟨g, 0, none⟩) R R) R ((pageTo R a b c (4 * i)).map (Value.int .u8)) ∧ Below g w wr) (fun _ y _ => 3 - (RowKit.intOf y).toNat)
  case atStart => exact ⟨0, Nat.zero_le _, rfl, rfl, hown2, hb2⟩
  case round =>
    clear hown2 hb2
    obtain ⟨i, hi, rfl, rfl, hown, hnx⟩ := hrel
    by_cases hlt : i < 3
    · have hrr := hrow.out.below hnx (by rw [HGG.out]; exact Nat.le_refl _)
      obtain ⟨nb', noff', hnn, _, hcell⟩ := hrr.hcell (by decide)
      cases hnn
      have hc1 := hcell i hlt
      clear hcell hrr
      obtain ⟨hx0, hx1, hx2⟩ := HX.out i hlt
      have HX2 : Hid (∀ k, k < 4 → (pageTo R a b c (4 * i + k)).set (4 + (4 * i + k)) (ns[i]?.getD 0 / 256 ^ k % 256) = pageTo R a b c (4 * i + (k + 1))) := hx2
      clear hx2
      generalize ns[i]?.getD 0 = x at *
      have u5 : (i : Int) < 3 := by omega
      obtain ⟨wo, hwo⟩ : ∃ x, x = wr := ⟨_, rfl⟩
      subst hwo
      go_wp2
      go_loopw [6, 8, 19] (fun at_ n y wq => ∃ k : Nat, k ≤ 4 ∧ y = .int .i64 (k : Int) ∧ at_ = .int .i64 ((4 + (4 * i + k) : Nat) : Int) ∧ n = .int .i64 (x / 256 ^ k) ∧ wq.ownsRow g 5 1 (.slice (some ⟨g, 0, none⟩) R R) R ((pageTo R a b c (4 * i + k)).map (Value.int .u8)) ∧ Below g w wq) (fun _ _ y _ => 4 - (RowKit.intOf y).toNat)
      case atStart => exact ⟨0, Nat.zero_le _, rfl, rfl, by simp, hown, hnx⟩
      case round =>
        clear hown hnx hc1
        obtain ⟨k, hk, rfl, rfl, rfl, hown, hnx⟩ := hrel
        by_cases hlt2 : k < 4
        · have hcl := owned_cell hown (4 + (4 * i + k)) (by omega)
          have hfz := hown.frozenAt (4 + (4 * i + k))
          have RR := owned_set (q := 4 + (4 * i + k)) (x := x / 256 ^ k % 256) (Nat.le_refl _) hown hnx
          rw [HX2.out k hlt2] at RR
          have HR : Hid _ := RR
          have HD : Hid (x / 256 ^ k / 256 = x / 256 ^ (k + 1)) := div_step256 x k
          have hd0 : 0 ≤ x / 256 ^ k := Int.ediv_nonneg hx0 (Int.pow_nonneg (by decide))
          have hd1 : x / 256 ^ k ≤ x := Int.ediv_le_self _ hx0
          clear RR hown hnx
          generalize (pageTo R a b c (4 * i + k))[4 + (4 * i + k)]?.getD 0 = zi at *
          generalize x / 256 ^ k = y at *
          have u6 : (k : Int) < 4 := by omega
          go_wp2
          go_roundw
          case rel => exact ⟨k + 1, by omega, by go_num, by go_num, by rw [HD.out], HR.out.1, HR.out.2⟩
          case measure => simp [RowKit.intOf]; omega
        · have e : k = 4 := by omega
          subst e
          go_wp2
          go_roundw
          case rel => exact ⟨i + 1, by omega, by go_num, by go_num, hown, hnx⟩
          case measure => simp [RowKit.intOf]; omega
    · have e : i = 3 := by omega
      subst e
      rw [HE.out] at hown
      go_wp2
      go_ret
      rw [HGG.out]
      exact ⟨rfl, hown, hnx⟩
theorem hBytes_no {b p : Int} {s n : Nat} {f : Int} {R C : Nat} (G : GMay b p s n f R C) (x y z : Int) (w : World) (hm : mayH C x y z = false) : Calls Tryz.prog 69 #[.agg #[.int .i64 b, .int .i64 p, .int .i64 ((s : Nat)), .int .i64 ((n : Nat)), .int .i64 f], .agg #[.int .i64 x, .int .i64 y, .int .i64 z]] w fun e w' => e = .returned (.tuple #[.slice none 0 0, .int .i64 1]) ∧ Below w.heap.size w w' := by
  have hsz := sizes_yes G
  clear G
  go_enter Tryz.func69, Tryz.ntmps69
  go_wp2_with fail
  have q0 := below_two w (.cells #[.int .i64 b, .int .i64 p, .int .i64 s, .int .i64 n, .int .i64 f] 23) (.cells #[.int .i64 x, .int .i64 y, .int .i64 z] 90)
  have hx := hbox_two w (.cells #[.int .i64 b, .int .i64 p, .int .i64 s, .int .i64 n, .int .i64 f] 23) 90 x y z
  generalize (w.alloc (.cells #[.int .i64 b, .int .i64 p, .int .i64 s, .int .i64 n, .int .i64 f] 23)).alloc (.cells #[.int .i64 x, .int .i64 y, .int .i64 z] 90) = w0 at *
  refine (hsz _).mono ?_
  rintro e w1 ⟨rfl, q1⟩
  replace q0 := btrans q0 q1
  obtain ⟨_, c0, c1, c2⟩ := hx.below q1 (Nat.le_refl _)
  clear hx q1
  go_wp2_with fail
  refine (hMayBe_any x y z C _).mono ?_
  rintro e w2 ⟨rfl, q2⟩
  rw [hm]
  go_wp2_with fail
  go_ret2
  exact ⟨rfl, btrans q0 q2⟩
set_option maxHeartbeats 1600000 in
theorem hBytes_yes {b p : Int} {s n : Nat} {f : Int} {R C : Nat} (G : GMay b p s n f R C) (x y z : Int) (w : World) (hm : mayH C x y z = true) :
    Calls Tryz.prog 69 #[.agg #[.int .i64 b, .int .i64 p, .int .i64 ((s : Nat)), .int .i64 ((n : Nat)), .int .i64 f], .agg #[.int .i64 x, .int .i64 y, .int .i64 z]] w fun e w' => ∃ g, w.heap.size ≤ g ∧ e = .returned (.tuple #[.slice (some ⟨g, 0, none⟩) R R, .int .i64 0]) ∧ w'.ownsRow w.heap.size 5 1 (.slice (some ⟨g, 0, none⟩) R R) R ((pageOf R x y z).map (Value.int .u8)) ∧ Below w.heap.size w w' := by
  have hsz := sizes_yes G
  have hR := G.hR1
  have hC := G.hC1
  have hh := mayH_yes hm
  clear G
  go_enter Tryz.func69, Tryz.ntmps69
  go_wp2_with fail
  have q0 := below_two w (.cells #[.int .i64 b, .int .i64 p, .int .i64 s, .int .i64 n, .int .i64 f] 23) (.cells #[.int .i64 x, .int .i64 y, .int .i64 z] 90)
  have hx := hbox_two w (.cells #[.int .i64 b, .int .i64 p, .int .i64 s, .int .i64 n, .int .i64 f] 23) 90 x y z
  generalize (w.alloc (.cells #[.int .i64 b, .int .i64 p, .int .i64 s, .int .i64 n, .int .i64 f] 23)).alloc (.cells #[.int .i64 x, .int .i64 y, .int .i64 z] 90) = w0 at *
  refine (hsz _).mono ?_
  rintro e w1 ⟨rfl, q1⟩
  replace q0 := btrans q0 q1
  replace hx := hx.below q1 (Nat.le_refl _)
  clear q1
  have hx1 := hx
  obtain ⟨_, c0, c1, c2⟩ := hx1
  go_wp2_with fail
  refine (hMayBe_any x y z C _).mono ?_
  rintro e w2 ⟨rfl, q2⟩
  rw [hm]
  replace q0 := btrans q0 q2
  obtain ⟨_, c0, c1, c2⟩ := hx.below q2 (Nat.le_refl _)
  clear hx q2
  have rn := row_new .i64 w2 3 w2.heap.size rfl [x, y, z] 3 rfl (by unfold maxLen; omega) #[.int .i64 x, .int .i64 y, .int .i64 z] rfl
  have qn := below_one w2 (.cells #[.int .i64 x, .int .i64 y, .int .i64 z] 3)
  go_wp2_with fail
  generalize w2.alloc (.cells #[.int .i64 x, .int .i64 y, .int .i64 z] 3) = w3 at *
  generalize hg2 : w2.heap.size = g2 at *
  refine (hlay_any R x y z _ _ _ rn hR (by omega) (by omega) (by omega)).mono ?_
  rintro e w4 ⟨rfl, own4, q4⟩
  have qa := btrans (btrans q0 (by rw [hg2]; exact qn)) q4
  have hsz3 : w.heap.size ≤ w3.heap.size := (btrans q0 (by rw [hg2]; exact qn)).size
  clear q0 qn q4 rn c0 c1 c2
  generalize w3.heap.size = g3 at *
  go_wp2_with fail
  go_ret2
  exact ⟨g3, hsz3, rfl, owns_base own4 hsz3, qa⟩
end Go.Proofs.YtgamakejaknagaaGreat

/-
  The code of layer 9 (head), as it landed: bytes.Equal, Parse.
-/
namespace Go.Proofs.YtgamakejaknagaaGreat
open Go.RowKit
set_option linter.unusedVariables false
set_option maxRecDepth 8192

theorem block_two (w : World) (o : Obj) (C : Array Value) (T : TypeId) : ((w.alloc o).alloc (.cells C T)).heap[w.heap.size + 1]? = some (.cells C T (0, 0)) := by
  have h := block_new (w.alloc o) C T
  have e : (w.alloc o).heap.size = w.heap.size + 1 := by simp
  rw [e] at h
  exact h
theorem gbox_two (w : World) (T : TypeId) (b p s n f : Int) (o : Obj) : GBox ((w.alloc (.cells #[.int .i64 b, .int .i64 p, .int .i64 s, .int .i64 n, .int .i64 f] T)).alloc o) w.heap.size b p s n f :=
  (gbox_new w T b p s n f).below (below_one _ o) (Nat.le_refl _)
theorem below_set3 {B : Nat} {w w1 : World} {g : Nat} (h : Below B w w1) (hB : B ≤ g) (u v x : Value) : Below B w (((w1.setCell ⟨g, 0, none⟩ u).setCell ⟨g, 1, none⟩ v).setCell ⟨g, 2, none⟩ x) :=
  ((h.setCell hB _).setCell hB _).setCell hB _
theorem str_beq {x y : List Int} (hx : IsB x) (hy : IsB y) : ((strOfNums x).toList == (strOfNums y).toList) = decide (x = y) := by
  rw [Lib.toList_data, Lib.toList_data]
  by_cases e : x = y
  · subst e; simp
  · rw [decide_eq_false e, beq_eq_false_iff_ne]
    exact fun h => e (strOfNums_inj hx hy (WideShapes.bytes_inj h))
theorem bytesEqual_any (a c : Option Addr) (len cap len' cap' : Nat) (x y : List Int) (w : World) (hr : Row .u8 w a len cap x) (hr' : Row .u8 w c len' cap' y) (hx : IsB x) (hy : IsB y) :
    Calls Tryz.prog 80 #[.slice a len cap, .slice c len' cap'] w fun e w' => e = .returned (.bool (decide (x = y))) ∧ w = w' := by
  have k1 := conv_row (P := Tryz.prog) Tryz.underlying33 Tryz.underlying5 Tryz.underlying9 hr
  have k2 := conv_row (P := Tryz.prog) Tryz.underlying33 Tryz.underlying5 Tryz.underlying9 hr'
  have HE : Hid (((strOfNums x).toList == (strOfNums y).toList) = decide (x = y)) := str_beq hx hy
  go_enter Tryz.func80, Tryz.ntmps80
  go_wp2
  go_ret
  exact ⟨ret_bool HE.out, rfl⟩
set_option maxHeartbeats 3200000 in
theorem hParse_any {b p : Int} {s n : Nat} {f : Int} {R C : Nat} (G : GMay b p s n f R C) (a : Option Addr) (cap : Nat) (z : List Int) (w : World) (hr : Row .u8 w a R cap z) (hz : IsB z) :
    Calls Tryz.prog 47 #[.agg #[.int .i64 b, .int .i64 p, .int .i64 ((s : Nat)), .int .i64 ((n : Nat)), .int .i64 f], .slice a R cap] w fun e w' => (e = .returned (.tuple #[.agg #[.int .i64 0, .int .i64 0, .int .i64 0], .int .i64 4]) ∧ readH C R z = false ∨ e = .returned (.tuple #[.agg #[.int .i64 (numAt z 4), .int .i64 (numAt z 8), .int .i64 (numAt z 12)], .int .i64 0]) ∧ readH C R z = true) ∧ Below w.heap.size w w' := by
  have hsz := sizes_yes G
  have hR := G.hR1
  have hbn := hBytes_no G (numAt z 4) (numAt z 8) (numAt z 12)
  have hby := hBytes_yes G (numAt z 4) (numAt z 8) (numAt z 12)
  clear G
  have HRD : Hid (readH C R z = (mayH C (numAt z 4) (numAt z 8) (numAt z 12) && decide (pageOf R (numAt z 4) (numAt z 8) (numAt z 12) = z))) := rfl
  have hPB : IsB (pageOf R (numAt z 4) (numAt z 8) (numAt z 12)) := isB_page _ _ _ _
  have q0 := below_two w (.cells #[.int .i64 b, .int .i64 p, .int .i64 s, .int .i64 n, .int .i64 f] 23) (.cells #[.int .i64 0, .int .i64 0, .int .i64 0] 90)
  have hb0 := block_two w (.cells #[.int .i64 b, .int .i64 p, .int .i64 s, .int .i64 n, .int .i64 f] 23) #[.int .i64 0, .int .i64 0, .int .i64 0] 90
  have gb := gbox_two w 23 b p s n f (.cells #[.int .i64 0, .int .i64 0, .int .i64 0] 90)
  have hr0 := hr.below q0 (Nat.le_refl _)
  have hn0 := fun w1 h => hnumber_any a R cap z 0 w1 h hz (by decide) hR.1
  have hn1 := fun w1 h => hnumber_any a R cap z 1 w1 h hz (by decide) hR.1
  have hn2 := fun w1 h => hnumber_any a R cap z 2 w1 h hz (by decide) hR.1
  have hRR : R ≤ 4096 := hR.2
  clear hr
  go_enter Tryz.func47, Tryz.ntmps47
  go_wp2_with fail
  generalize (w.alloc (.cells #[.int .i64 b, .int .i64 p, .int .i64 s, .int .i64 n, .int .i64 f] 23)).alloc (.cells #[.int .i64 0, .int .i64 0, .int .i64 0] 90) = w0 at *
  refine (hsz _).mono ?_
  rintro e w1 ⟨rfl, q1⟩
  have hb1 := block_below hb0 q1 (lt_of_block hb0)
  have HQA : Hid (Below w.heap.size w w1) := btrans q0 q1
  have gb1 := gb.below q1 (Nat.le_refl _)
  have hr1 := hr0.below q1 (Nat.le_refl _)
  clear hb0 q0 q1 hsz gb hr0
  generalize hgg : w.heap.size = g at *
  have HGG : Hid (w.heap.size = g) := hgg
  clear hgg
  go_wp2_with fail
  refine (hn0 _ hr1).mono ?_
  rintro e w' ⟨rfl, rfl⟩
  go_wp2_with fail
  refine (hn1 _ hr1).mono ?_
  rintro e w' ⟨rfl, rfl⟩
  go_wp2_with fail
  refine (hn2 _ hr1).mono ?_
  rintro e w' ⟨rfl, rfl⟩
  have q2 := below_one w1 (.cells #[.int .i64 (numAt z 4), .int .i64 (numAt z 8), .int .i64 (numAt z 12)] 90)
  have gb2 := gb1.below q2 (Nat.le_refl _)
  have hh2 := hbox_new w1 90 (numAt z 4) (numAt z 8) (numAt z 12)
  have hr2 := hr1.below q2 (Nat.le_refl _)
  have hb2 := block_below hb1 q2 (lt_of_block hb1)
  have HQB : Hid (Below w.heap.size w _) := btrans (by rw [HGG.out]; exact HQA.out) q2
  clear q2 gb1 hr1 hb1 HQA hn0 hn1 hn2
  have gb3 := gb2
  obtain ⟨_, c0, c1, c2, c3, c4⟩ := gb3
  have hh3 := hh2
  obtain ⟨_, d0, d1, d2⟩ := hh3
  go_wp2_with fail
  clear c0 c1 c2 c3 c4 d0 d1 d2 gb2
  generalize w1.alloc (.cells #[.int .i64 (numAt z 4), .int .i64 (numAt z 8), .int .i64 (numAt z 12)] 90) = w2 at *
  generalize w1.heap.size = g2 at *
  have HQ3 : ∀ w3, Below w2.heap.size w2 w3 → Hid (Below w.heap.size w w3) := fun w3 q => btrans HQB.out q
  cases hm : mayH C (numAt z 4) (numAt z 8) (numAt z 12)
  · rw [hm, Bool.false_and] at HRD
    clear hby
    refine (hbn _ hm).mono ?_
    rintro e w3 ⟨rfl, q3⟩
    have hb3 := block_below hb2 q3 (lt_of_block hb2)
    have HQC := HQ3 w3 q3
    clear HQ3 q3 hbn hb2 hh2 hr2 HQB
    have k0 : w3.cell? ⟨g + 1, 0, none⟩ = some (.int .i64 0) := by simp [World.cell?, hb3]
    have k1 : w3.cell? ⟨g + 1, 1, none⟩ = some (.int .i64 0) := by simp [World.cell?, hb3]
    have k2 : w3.cell? ⟨g + 1, 2, none⟩ = some (.int .i64 0) := by simp [World.cell?, hb3]
    have kf : ∀ i, w3.frozen? ⟨g + 1, i, none⟩ = false := fun i => by simp [World.frozen?, hb3]
    clear hb3
    go_wp2_with fail
    refine bodyPost_ret (v := .tuple #[.agg #[.int .i64 0, .int .i64 0, .int .i64 0], .int .i64 4]) (by simp [results, Tryz.results47, go_sem, k0, k1, k2]) rfl ?_
    rw [HGG.out] at *
    refine ⟨.inl ⟨rfl, HRD.out⟩, below_set3 HQC.out (Nat.le_succ _) _ _ _⟩
  · rw [hm, Bool.true_and] at HRD
    clear hbn
    refine (hby _ hm).mono ?_
    rintro e w3 ⟨g3, hg3, rfl, own3, q3⟩
    have hb3 := block_below hb2 q3 (lt_of_block hb2)
    have hr3 := hr2.below q3 (Nat.le_refl _)
    obtain ⟨_, d0, d1, d2⟩ := hh2.below q3 (Nat.le_refl _)
    have HQC := HQ3 w3 q3
    obtain ⟨ao, co, he, rp⟩ := row_of_owns own3
    cases he
    clear HQ3 q3 hby hb2 hh2 hr2 HQB own3
    have k0 : w3.cell? ⟨g + 1, 0, none⟩ = some (.int .i64 0) := by simp [World.cell?, hb3]
    have k1 : w3.cell? ⟨g + 1, 1, none⟩ = some (.int .i64 0) := by simp [World.cell?, hb3]
    have k2 : w3.cell? ⟨g + 1, 2, none⟩ = some (.int .i64 0) := by simp [World.cell?, hb3]
    have kf : ∀ i, w3.frozen? ⟨g + 1, i, none⟩ = false := fun i => by simp [World.frozen?, hb3]
    clear hb3
    have heq := bytesEqual_any _ _ _ _ _ _ _ z w3 rp hr3 hPB hz
    rw [← HRD.out] at heq
    clear HRD
    cases hrd : readH C R z
    · rw [hrd] at heq
      go_wp2_with fail
      refine heq.mono ?_
      rintro e w' ⟨rfl, rfl⟩
      go_wp2_with fail
      refine bodyPost_ret (v := .tuple #[.agg #[.int .i64 0, .int .i64 0, .int .i64 0], .int .i64 4]) (by simp [results, Tryz.results47, go_sem, k0, k1, k2]) rfl ?_
      rw [HGG.out] at *
      exact ⟨.inl ⟨rfl, hrd⟩, below_set3 HQC.out (Nat.le_succ _) _ _ _⟩
    · rw [hrd] at heq
      go_wp2_with fail
      refine heq.mono ?_
      rintro e w' ⟨rfl, rfl⟩
      go_wp2_with fail
      refine bodyPost_ret (v := .tuple #[.agg #[.int .i64 (numAt z 4), .int .i64 (numAt z 8), .int .i64 (numAt z 12)], .int .i64 0]) (by simp [results, Tryz.results47, go_sem, k0, k1, k2]) rfl ?_
      rw [HGG.out] at *
      exact ⟨.inr ⟨rfl, hrd⟩, below_set3 HQC.out (Nat.le_succ _) _ _ _⟩
end Go.Proofs.YtgamakejaknagaaGreat

/-
  The document's answer of layer 9 (casemateref09): Cap, Pages, Four, Number. (Written by tools/gen/head_ref.py.)
-/
namespace Go.Proofs.YtgamakejaknagaaGreat
open Go.RowKit
set_option linter.unusedVariables false
set_option maxRecDepth 8192

set_option maxHeartbeats 800000 in
theorem refCap9_any {b p : Int} {s n : Nat} {f : Int} {R C : Nat} (G : GMay b p s n f R C) (w : World) : Calls Tryz.prog 24 #[.agg #[.int .i64 b, .int .i64 p, .int .i64 ((s : Nat)), .int .i64 ((n : Nat)), .int .i64 f]] w fun e w' => e = .returned (.int .i64 (C : Int)) ∧ Below w.heap.size w w' := by
  have hroom := refRoom_any b p f s n R G.hR G.hs G.hn
  have HC : Hid ((p - 1) * (R : Int) = C) := G.hC
  have hR := G.hR1
  have hp := G.hp
  have hC := G.hC1
  clear G
  go_enter Tryz.func24, Tryz.ntmps24
  go_wp2_with fail
  have gb := gbox_new w 23 b p s n f
  have q1 := below_one w (.cells #[.int .i64 b, .int .i64 p, .int .i64 s, .int .i64 n, .int .i64 f] 23)
  generalize w.alloc (.cells #[.int .i64 b, .int .i64 p, .int .i64 s, .int .i64 n, .int .i64 f] 23) = w0 at *
  generalize hgg : w.heap.size = g at gb
  go_wp2_with fail
  refine held_begin (by kernel_rfl) ?_
  refine held_reads (rs := [0, 1, 2, 3]) (fuel := 3) (by kernel_rfl) (fun c d v a w h => by cases d <;> exact h) (by kernel_rfl) (Since.drew _) (fun K hK => ?_)
  refine calm_do (.pointer (some ⟨g, 1, none⟩)) rfl (by rfl) (fun w' hw' => ?_) ?_
  · skip
    go_simp
  go_simp
  refine calm_do (.int .i64 p) rfl (by rfl) (fun w' hw' => ?_) ?_
  · have gb' := gb.below hw' (Nat.le_refl _)
    obtain ⟨_, c0, c1, c2, c3, c4⟩ := gb'
    go_simp
  go_simp
  refine calm_do (.int .i64 (p - 1)) rfl (by rfl) (fun w' hw' => ?_) ?_
  · skip
    go_simp
    all_goals (rw [IntKind.wrap_i64]; omega)
  go_simp
  refine calm_do (.agg #[.int .i64 b, .int .i64 p, .int .i64 s, .int .i64 n, .int .i64 f]) rfl (by rfl) (fun w' hw' => ?_) ?_
  · have gb' := gb.below hw' (Nat.le_refl _)
    obtain ⟨_, c0, c1, c2, c3, c4⟩ := gb'
    go_simp
  go_simp
  refine calm_nil (hK.out _ ?_)
  clear hK K
  refine held_call (i := 4) (fuel := 2) (by kernel_rfl) rfl (by rfl) (fun K hK => ?_)
  go_simp
  have qd := Since.drew w0
  replace gb := gb.below qd (Nat.le_refl _)
  replace q1 := btrans q1 qd
  clear qd
  refine (hroom _).mono ?_
  rintro e w1 ⟨rfl, qq0⟩
  refine hK _ _ (Since.trans (Since.drew _) qq0) ?_
  have qq : Since _ _ := qq0
  clear hK K qq0
  replace gb := gb.below qq (Nat.le_refl _)
  replace q1 := btrans q1 qq
  clear qq
  refine held_reads (rs := [5, 6]) (fuel := 0) (by kernel_rfl) (fun c d v a w h => by cases d <;> exact h) (by kernel_rfl) (Since.refl _) (fun K hK => ?_)
  go_simp
  refine calm_do (.int .i64 C) rfl (by rfl) (fun w' hw' => ?_) ?_
  · skip
    go_simp
    all_goals (rw [HC.out, IntKind.wrap_i64]; omega)
  go_simp
  refine calm_assign _ rfl (by rfl) rfl ?_
  go_simp
  refine calm_nil (hK.out _ ?_)
  clear hK K
  refine wpAnyH_done (by kernel_rfl) ?_ _
  go_wp2
  go_ret
  exact ⟨rfl, q1⟩
end Go.Proofs.YtgamakejaknagaaGreat
