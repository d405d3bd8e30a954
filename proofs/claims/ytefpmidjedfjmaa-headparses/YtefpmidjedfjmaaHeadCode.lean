/-
  The code of layer 9 (head), as it landed: within, mayBe, sizes, Cap, Pages, number, lay, Bytes. Any geometry that may be.
-/
import Derived.Test.YtefpmidjedfjmaaHeadPlain
import Derived.Test.YtefpmidjedfjmaaChipLow
import Derived.Lib.BufferWrite
import Derived.RangeFuncRecord
namespace Go.Proofs.Ytefpmidjedfjmaa
open Go.RowKit
set_option linter.unusedVariables false
set_option maxRecDepth 8192

theorem block_new (w : World) (C : Array Value) (T : TypeId) : (w.alloc (.cells C T)).heap[w.heap.size]? = some (.cells C T (0, 0)) := World.alloc_heap_new w _
theorem lt_of_block {w : World} {g : Nat} {o : Obj} (h : w.heap[g]? = some o) : g < w.heap.size := by
  rcases Nat.lt_or_ge g w.heap.size with h' | h'
  · exact h'
  · rw [Array.getElem?_eq_none h'] at h; simp at h
theorem block_below {w w' : World} {g B : Nat} {o : Obj} (h : w.heap[g]? = some o) (hb : Below B w w') (hg : g < B) : w'.heap[g]? = some o := by rw [hb.block g hg]; exact h
theorem cell_of_blk {w : World} {g : Nat} {cs : Array Value} {t : TypeId} {fr : Nat × Nat} (h : w.heap[g]? = some (.cells cs t fr)) (i : Nat) : w.cell? ⟨g, i, none⟩ = cs[i]? := by simp [World.cell?, h]
theorem unfrozen_of_blk {w : World} {g : Nat} {cs : Array Value} {t : TypeId} (h : w.heap[g]? = some (.cells cs t (0, 0))) (i : Nat) : w.frozen? ⟨g, i, none⟩ = false := by simp [World.frozen?, h]
/-- A geometry that may be, whatever its pages: R data bytes of a page, C bytes of a logical block. -/
structure GMay (b p : Int) (s n : Nat) (f : Int) (R C : Nat) : Prop where
  may : mayG b p s n f = true
  hs : s ≤ 8
  hn : n ≤ 512
  hR : s * n = R
  hR1 : 16 ≤ R ∧ R ≤ 4096
  hp : 2 ≤ p ∧ p ≤ 64
  hC : (p - 1) * (R : Int) = C
  hC1 : 16 ≤ C ∧ C ≤ 258048
theorem gmay_of {b p s n f : Int} (h : mayG b p s n f = true) : ∃ (S N R C : Nat), s = S ∧ n = N ∧ GMay b p S N f R C := by
  have hm := h
  unfold mayG at h
  rw [decide_eq_true_iff] at h
  obtain ⟨h1, h2, h3, h4, h5, h6, h7, h8, h9, h10, h11, h12⟩ := h
  obtain ⟨S, rfl⟩ := Int.eq_ofNat_of_zero_le (show 0 ≤ s by omega)
  obtain ⟨N, rfl⟩ := Int.eq_ofNat_of_zero_le (show 0 ≤ n by omega)
  obtain ⟨P, hP⟩ := Int.eq_ofNat_of_zero_le (show 0 ≤ p - 1 by omega)
  have hr : S * N ≤ 8 * 512 := Nat.mul_le_mul (by omega) (by omega)
  rw [← Int.natCast_mul] at h12
  have hc : P * (S * N) ≤ 63 * 4096 := Nat.mul_le_mul (by omega) hr
  have hc0 : 1 * (S * N) ≤ P * (S * N) := Nat.mul_le_mul_right _ (by omega)
  exact ⟨S, N, S * N, P * (S * N), rfl, rfl, ⟨hm, by omega, by omega, rfl, by omega, ⟨h3, h4⟩, by rw [hP, ← Int.natCast_mul], by omega⟩⟩
theorem GMay.C32 {b p : Int} {s n : Nat} {f : Int} {R C : Nat} (h : GMay b p s n f R C) : (C : Int) < 4294967296 := by have := h.hC1; omega

/-- A head lies in the block g. -/
structure HBox (w : World) (g : Nat) (a b c : Int) : Prop where
  lt : g < w.heap.size
  c0 : w.cell? ⟨g, 0, none⟩ = some (.int .i64 a)
  c1 : w.cell? ⟨g, 1, none⟩ = some (.int .i64 b)
  c2 : w.cell? ⟨g, 2, none⟩ = some (.int .i64 c)
theorem HBox.below {w w' : World} {g B : Nat} {a b c : Int} (h : HBox w g a b c) (hb : Below B w w') (hB : w.heap.size ≤ B) : HBox w' g a b c := by
  have hlt := h.lt
  refine ⟨by have := hb.size; omega, ?_, ?_, ?_⟩
  · rw [hb.cell (by show g < B; omega)]; exact h.c0
  · rw [hb.cell (by show g < B; omega)]; exact h.c1
  · rw [hb.cell (by show g < B; omega)]; exact h.c2
theorem hbox_new (w : World) (T : TypeId) (a b c : Int) : HBox (w.alloc (.cells #[.int .i64 a, .int .i64 b, .int .i64 c] T)) w.heap.size a b c := by
  refine ⟨by simp, ?_, ?_, ?_⟩ <;> (rw [World.cell?_alloc_at _ _ _ _ rfl]; rfl)
theorem hbox_two (w : World) (o : Obj) (T : TypeId) (a b c : Int) : HBox ((w.alloc o).alloc (.cells #[.int .i64 a, .int .i64 b, .int .i64 c] T)) (w.heap.size + 1) a b c := by
  have h := hbox_new (w.alloc o) T a b c
  have e : (w.alloc o).heap.size = w.heap.size + 1 := by simp
  rw [e] at h
  exact h

theorem eccRoom_may {b p : Int} {s n : Nat} {f : Int} {R C : Nat} (G : GMay b p s n f R C) (w : World) : Calls Try.prog 29 #[.agg #[.int .i64 b, .int .i64 p, .int .i64 ((s : Nat)), .int .i64 ((n : Nat)), .int .i64 f]] w fun e w' => e = .returned (.tuple #[.int .i64 (R : Int), .int .i64 0]) ∧ Below w.heap.size w w' := by
  have HM : Hid (mayG b p s n f = true) := G.may
  have hroom := room_any b p f s n R G.hR G.hs G.hn
  clear G
  go_enter Try.func29, Try.ntmps29
  go_wp2_with fail
  refine (eccMayBe_any b p s n f _).mono ?_
  rintro e w1 ⟨rfl, q1⟩
  rw [HM.out]
  obtain ⟨_, c0, c1, c2, c3, c4⟩ := (gbox_new w 23 b p s n f).below q1 (Nat.le_refl _)
  go_wp2_with fail
  refine (hroom _).mono ?_
  rintro e w2 ⟨rfl, q2⟩
  go_wp2_with fail
  go_ret2
  exact ⟨rfl, btrans (btrans (below_one _ _) q1) q2⟩
theorem hwithin_any (n a b : Int) (w : World) : Calls Try.prog 21 #[.int .i64 n, .int .i64 a, .int .i64 b] w fun e w' => e = .returned (.bool (withB n a b)) ∧ w = w' := by
  by_cases h : a ≤ n
  · go_enter Try.func21, Try.ntmps21
    go_wp2
    go_ret
    exact ⟨ret_bool (by unfold withB; simp [h]), rfl⟩
  · go_enter Try.func21, Try.ntmps21
    go_wp2
    go_ret
    exact ⟨ret_bool (by unfold withB; symm; rw [decide_eq_false_iff_not]; omega), rfl⟩
set_option maxHeartbeats 800000 in
theorem hMayBe_any (a b c C : Int) (w : World) : Calls Try.prog 22 #[.agg #[.int .i64 a, .int .i64 b, .int .i64 c], .int .i64 C] w fun e w' => e = .returned (.bool (mayH C a b c)) ∧ Below w.heap.size w w' := by
  go_enter Try.func22, Try.ntmps22
  go_wp2_with fail
  refine (hwithin_any a 0 63 _).mono ?_
  rintro e w' ⟨rfl, rfl⟩
  cases h1 : withB a 0 63
  · have hm : mayH C a b c = false := mayH_no (fun h => withB_no h1 (by omega))
    go_wp2_with fail
    go_ret
    exact ⟨ret_bool hm.symm, below_one _ _⟩
  go_wp2_with fail
  refine (hwithin_any b 0 C _).mono ?_
  rintro e w' ⟨rfl, rfl⟩
  cases h2 : withB b 0 C
  · have hm : mayH C a b c = false := mayH_no (fun h => withB_no h2 (by omega))
    go_wp2_with fail
    go_ret
    exact ⟨ret_bool hm.symm, below_one _ _⟩
  go_wp2_with fail
  refine (hwithin_any c 1 1000000000 _).mono ?_
  rintro e w' ⟨rfl, rfl⟩
  have HM : Hid (mayH C a b c = withB c 1 1000000000) := by
    show _ = _
    have k1 := withB_yes h1
    have k2 := withB_yes h2
    unfold mayH withB
    rw [decide_eq_decide]
    omega
  go_wp2_with fail
  go_ret
  exact ⟨ret_bool HM.out.symm, below_one _ _⟩
theorem sizes_no (b p s n f : Int) (w : World) (hm : mayG b p s n f = false) : Calls Try.prog 20 #[.agg #[.int .i64 b, .int .i64 p, .int .i64 s, .int .i64 n, .int .i64 f]] w fun e w' => e = .returned (.tuple #[.int .i64 0, .int .i64 0, .int .i64 1]) ∧ Below w.heap.size w w' := by
  go_enter Try.func20, Try.ntmps20
  go_wp2_with fail
  refine (eccRoom_no b p s n f _ hm).mono ?_
  rintro e w1 ⟨rfl, q1⟩
  go_wp2_with fail
  go_ret3
  exact ⟨rfl, btrans (below_one _ _) q1⟩
set_option maxHeartbeats 800000 in
theorem sizes_yes {b p : Int} {s n : Nat} {f : Int} {R C : Nat} (G : GMay b p s n f R C) (w : World) : Calls Try.prog 20 #[.agg #[.int .i64 b, .int .i64 p, .int .i64 ((s : Nat)), .int .i64 ((n : Nat)), .int .i64 f]] w fun e w' => e = .returned (.tuple #[.int .i64 (R : Int), .int .i64 (C : Int), .int .i64 0]) ∧ Below w.heap.size w w' := by
  have hroom := eccRoom_may G
  have HC : Hid ((p - 1) * (R : Int) = C) := G.hC
  have hR := G.hR1
  have hp := G.hp
  have hC := G.hC1
  clear G
  go_enter Try.func20, Try.ntmps20
  go_wp2_with fail
  refine (hroom _).mono ?_
  rintro e w1 ⟨rfl, q1⟩
  obtain ⟨_, c0, c1, c2, c3, c4⟩ := (gbox_new w 23 b p s n f).below q1 (Nat.le_refl _)
  go_wp2_with fail
  go_quiet (fail)
  go_wp2_with fail
  go_ret3
  have HW : wrap64 ((p - 1) * (R : Int)) = C := by rw [HC.out]; unfold wrap64; omega
  refine ⟨?_, btrans (btrans (below_one _ _) q1) (below_drews _ _)⟩
  show Ending.returned (.tuple #[.int .i64 (R : Int), .int .i64 (wrap64 ((p - 1) * (R : Int))), .int .i64 0]) = _
  rw [HW]
theorem hCap_no (b p s n f : Int) (w : World) (hm : mayG b p s n f = false) : Calls Try.prog 8 #[.agg #[.int .i64 b, .int .i64 p, .int .i64 s, .int .i64 n, .int .i64 f]] w fun e w' => e = .returned (.tuple #[.int .i64 0, .int .i64 1]) ∧ Below w.heap.size w w' := by
  go_enter Try.func8, Try.ntmps8
  go_wp2_with fail
  refine (sizes_no b p s n f _ hm).mono ?_
  rintro e w1 ⟨rfl, q1⟩
  go_wp2_with fail
  go_ret2
  exact ⟨rfl, btrans (below_one _ _) q1⟩
theorem hCap_yes {b p : Int} {s n : Nat} {f : Int} {R C : Nat} (G : GMay b p s n f R C) (w : World) : Calls Try.prog 8 #[.agg #[.int .i64 b, .int .i64 p, .int .i64 ((s : Nat)), .int .i64 ((n : Nat)), .int .i64 f]] w fun e w' => e = .returned (.tuple #[.int .i64 (C : Int), .int .i64 0]) ∧ Below w.heap.size w w' := by
  have hsz := sizes_yes G
  clear G
  go_enter Try.func8, Try.ntmps8
  go_wp2_with fail
  refine (hsz _).mono ?_
  rintro e w1 ⟨rfl, q1⟩
  go_wp2_with fail
  go_ret2
  exact ⟨rfl, btrans (below_one _ _) q1⟩
theorem hPages_geo (b p s n f x : Int) (w : World) (hm : mayG b p s n f = false) : Calls Try.prog 9 #[.agg #[.int .i64 b, .int .i64 p, .int .i64 s, .int .i64 n, .int .i64 f], .int .i64 x] w fun e w' => e = .returned (.tuple #[.int .i64 0, .int .i64 1]) ∧ Below w.heap.size w w' := by
  go_enter Try.func9, Try.ntmps9
  go_wp2_with fail
  refine (sizes_no b p s n f _ hm).mono ?_
  rintro e w1 ⟨rfl, q1⟩
  go_wp2_with fail
  go_ret2
  exact ⟨rfl, btrans (below_one _ _) q1⟩
theorem hPages_no {b p : Int} {s n : Nat} {f : Int} {R C : Nat} (G : GMay b p s n f R C) (x : Int) (w : World) (hx : withB x 0 (C : Int) = false) : Calls Try.prog 9 #[.agg #[.int .i64 b, .int .i64 p, .int .i64 ((s : Nat)), .int .i64 ((n : Nat)), .int .i64 f], .int .i64 x] w fun e w' => e = .returned (.tuple #[.int .i64 0, .int .i64 1]) ∧ Below w.heap.size w w' := by
  have hsz := sizes_yes G
  clear G
  go_enter Try.func9, Try.ntmps9
  go_wp2_with fail
  refine (hsz _).mono ?_
  rintro e w1 ⟨rfl, q1⟩
  go_wp2_with fail
  refine (hwithin_any x 0 C _).mono ?_
  rintro e w' ⟨rfl, rfl⟩
  rw [hx]
  go_wp2_with fail
  go_ret2
  exact ⟨rfl, btrans (below_one _ _) q1⟩
set_option maxHeartbeats 800000 in
theorem hPages_yes {b p : Int} {s n : Nat} {f : Int} {R C : Nat} (G : GMay b p s n f R C) (k : Nat) (w : World) (hk : k ≤ C) : Calls Try.prog 9 #[.agg #[.int .i64 b, .int .i64 p, .int .i64 ((s : Nat)), .int .i64 ((n : Nat)), .int .i64 f], .int .i64 (k : Nat)] w fun e w' => e = .returned (.tuple #[.int .i64 (pagesOf R k : Nat), .int .i64 0]) ∧ Below w.heap.size w w' := by
  have hsz := sizes_yes G
  have hR := G.hR1
  have hC := G.hC1
  have hw : withB (k : Int) 0 (C : Int) = true := by unfold withB; rw [decide_eq_true_iff]; omega
  have hR0 : ¬ (R : Int) = 0 := by omega
  have HP : Hid (((k : Int) + (R : Int) - 1) / (R : Int) = (pagesOf R k : Nat)) := by
    show _ = _
    rw [show (k : Int) + (R : Int) - 1 = ((k + R - 1 : Nat) : Int) by omega]
    rfl
  clear G
  go_enter Try.func9, Try.ntmps9
  go_wp2_with fail
  refine (hsz _).mono ?_
  rintro e w1 ⟨rfl, q1⟩
  go_wp2_with fail
  refine (hwithin_any k 0 C _).mono ?_
  rintro e w' ⟨rfl, rfl⟩
  rw [hw]
  go_wp2_with fail
  go_ret2
  refine ⟨?_, btrans (below_one _ _) q1⟩
  show Ending.returned (.tuple #[.int .i64 (((k : Int) + (R : Int) - 1) / (R : Int)), .int .i64 0]) = _
  rw [HP.out]
end Go.Proofs.Ytefpmidjedfjmaa
