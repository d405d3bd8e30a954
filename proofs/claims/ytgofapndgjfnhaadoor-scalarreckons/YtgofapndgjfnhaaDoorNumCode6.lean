/-
  The code of layer 15 (nums), as it landed: Mul, Mod.
-/
import Derived.Test.YtgofapndgjfnhaaDoorNumCode4
import Derived.Test.YtgofapndgjfnhaaDoorNumCode5
namespace Go.Proofs.YtgofapndgjfnhaaDoor.N
open Go.RowKit
set_option linter.unusedVariables false
set_option maxRecDepth 8192

theorem mul_lt {x y n m : Nat} (hx : x < 256 ^ n) (hy : y < 256 ^ m) : x * y < 256 ^ (n + m) := by
  rw [Nat.pow_add]
  rcases Nat.eq_zero_or_pos y with rfl | h
  · rw [Nat.mul_zero]; exact Nat.mul_pos (pow_pos256 _) (pow_pos256 _)
  · exact Nat.lt_of_lt_of_le (Nat.mul_lt_mul_of_pos_right hx h) (Nat.mul_le_mul_left _ (Nat.le_of_lt hy))
set_option maxHeartbeats 1600000 in
theorem mul_core (x y : List Nat) (ax ay : Option Addr) (n m cx cy la ca lb cb : Nat) (w : World) (nx : Nrm x) (ny : Nrm y) (rx : Row .u8 w ax n cx (nI x)) (ry : Row .u8 w ay m cy (nI y)) (hn : n ≤ 100000) (hm : m ≤ 100000)
    (hTa : Calls Tryd.prog 42 #[.slice ax la ca] w fun e w' => e = .returned (.slice ax n cx) ∧ w = w')
    (hTb : Calls Tryd.prog 42 #[.slice ay lb cb] w fun e w' => e = .returned (.slice ay m cy) ∧ w = w') :
    Calls Tryd.prog 47 #[.slice ax la ca, .slice ay lb cb] w (Gives w (nb (vL x * vL y))) := by
  obtain ⟨i0, hi0, hz0, hz1, hz2⟩ := info_parts Tryd.info5
  have HLx : Hid (x.length = n) := by have := rx.hlen; rwa [nI_length] at this
  have HLy : Hid (y.length = m) := by have := ry.hlen; rwa [nI_length] at this
  have hxl : vL x < 256 ^ n := by rw [← HLx.out]; exact nx.dig.vL_lt
  have hyl : vL y < 256 ^ m := by rw [← HLy.out]; exact ny.dig.vL_lt
  have HV : Hid (vL x * vL y < 256 ^ (n + m)) := mul_lt hxl hyl
  have HVi : Hid (∀ i, i < n → vTo (dg x) (i + 1) * vL y < 256 ^ (n + m)) := fun i hi =>
    Nat.lt_of_lt_of_le (mul_lt (nx.dig.vlt (i + 1)) hyl) (Nat.pow_le_pow_right (by decide) (by omega))
  have HUi : Hid (∀ i, i ≤ n → vTo (dg x) i * vL y < 256 ^ (n + m)) := fun i hi =>
    Nat.lt_of_lt_of_le (mul_lt (nx.dig.vlt i) hyl) (Nat.pow_le_pow_right (by decide) (by omega))
  have HW : Hid (vTo (dg x) n = vL x) := by show _ = _; unfold vL; rw [HLx.out]
  have hmax : n + m ≤ maxLen := by unfold maxLen; omega
  have hwr : IntKind.i64.wrap ((n : Int) + (m : Int)) = ((n + m : Nat) : Int) := by rw [IntKind.wrap_i64]; omega
  clear hxl hyl
  obtain ⟨L, hL⟩ : ∃ L, n + m = L := ⟨_, rfl⟩
  have hLs : (n : Int) + (m : Int) = (L : Int) := by omega
  have hL9 : L ≤ 200000 := by omega
  have hnL : n ≤ L := by omega
  have hnmL : ∀ i, i < n → m ≤ L - i := fun i hi => by omega
  rw [hL] at hmax HV HVi HUi hwr
  clear hL
  go_enter Tryd.func47, Tryd.ntmps47
  go_wp2_with fail
  refine hTa.mono ?_
  rintro e w' ⟨rfl, rfl⟩
  go_wp2_with fail
  refine hTb.mono ?_
  rintro e w' ⟨rfl, rfl⟩
  clear hTa hTb
  go_wp2_with (at_make; refine wpList_make_full _ rfl _ _ 22 rfl w.heap.size 5 i0 (.int .u8 0) 1 Tryd.underlying22 hi0 hz0 hz1 _ _ _ _ L rfl rfl (by omega) (by omega) (by rw [hz2]; omega) hmax (Nat.le_refl _) ?_; intro w1 hown1 hgrow1)
  obtain ⟨A1, q1⟩ := made_arr hown1 hgrow1
  clear hown1 hgrow1
  have A2 : Arr w1 w.heap.size 5 .u8 (nI (digL (vTo (dg x) 0 * vL y) L)) := by
    simp only [vTo]
    rw [Nat.zero_mul, digL_zero]
    simpa [nI] using A1
  clear A1
  go_wp2_with fail
  go_loopw [20] (fun y' wr => ∃ i : Nat, i ≤ n ∧ y' = .int .i64 (i : Int) ∧ Hid (Arr wr w.heap.size 5 .u8 (nI (digL (vTo (dg x) i * vL y) L))) ∧ Hid (Below w.heap.size w wr)) (fun y' _ => n - (intOf y').toNat)
  case atStart => exact ⟨0, Nat.zero_le _, rfl, A2, q1⟩
  case round =>
    clear A2 q1
    obtain ⟨i, hi, rfl, HA, HB⟩ := hrel
    by_cases hlt : i < n
    · obtain ⟨bA, oA, rfl, hbA, hcA⟩ := (rx.below HB.out (Nat.le_refl _)).hcell (by omega)
      have hc1 := hcA i hlt
      clear hcA
      rw [nI_dg] at hc1
      have hx := nx.dig.at i
      have hVI : ((vTo (dg x) (i + 1) * vL y : Nat) : Int) = ((vTo (dg x) i * vL y : Nat) : Int) + ((dg x i : Nat) : Int) * ((256 ^ i * vL y : Nat) : Int) := by
        rw [← Int.natCast_mul, ← Int.natCast_add]
        congr 1
        simp only [vTo]
        rw [Nat.add_mul, Nat.mul_assoc]
      have cC := change_any (vTo (dg x) i * vL y) (vTo (dg x) (i + 1) * vL y) L i (L - i) (L - i) m cy ((dg x i : Nat) : Int) y ay 5 w.heap.size w wr HA.out ry HB.out (Nat.le_refl _) ny.dig (by omega) (by omega) hVI (by rw [show i + (L - i) = L from by omega]; exact HUi.out i hi) (by rw [show i + (L - i) = L from by omega]; exact HVi.out i hlt) (hnmL i hlt) (by omega) (by omega)
      have HN : Hid (vTo (dg x) (i + 1) * vL y = vTo (dg x) (i + 1) * vL y) := rfl
      clear hVI
      generalize vTo (dg x) i * vL y = U at *
      generalize hVV : vTo (dg x) (i + 1) * vL y = V at *
      have HVV : Hid (vTo (dg x) (i + 1) * vL y = V) := hVV
      clear hVV
      generalize dg x i = d at *
      have hiL : i ≤ L := by omega
      go_wp2_with fail
      refine cC.mono ?_
      rintro e w2 ⟨rfl, A2, q2⟩
      clear cC
      have HA2 : Hid (Arr w2 w.heap.size 5 .u8 (nI (digL (vTo (dg x) (i + 1) * vL y) L))) := by show Arr _ _ _ _ _; rw [HVV.out]; exact A2
      have HB2 : Hid (Below w.heap.size w w2) := HB.out.trans q2
      clear A2 q2
      go_wp2_with fail
      go_roundw
      case rel => exact ⟨i + 1, by omega, by go_num, HA2, HB2⟩
      case measure => simp [intOf]; omega
    · obtain rfl : i = n := by omega
      have A3 := HA.out
      rw [HW.out] at A3
      have hV := HV.out
      generalize vL x * vL y = V at *
      go_wp2_with fail
      refine (trim_own A3 hV (by omega)).mono ?_
      rintro e w' ⟨rfl, rfl⟩
      have R := A3.nb (w1 := w) hV (by omega)
      go_wp2_with fail
      go_ret
      exact ⟨_, _, rfl, R, HB.out⟩
theorem mul_any (a b : List Nat) (aa ab : Option Addr) (la ca lb cb : Nat) (w : World) (da : Dig a) (db : Dig b) (ra : Row .u8 w aa la ca (nI a)) (rb : Row .u8 w ab lb cb (nI b)) (hla : la ≤ 100000) (hlb : lb ≤ 100000) :
    Calls Tryd.prog 47 #[.slice aa la ca, .slice ab lb cb] w (Gives w (nb (vL a * vL b))) := by
  have h1 := ra.hlen
  have h2 := rb.hlen
  rw [nI_length] at h1 h2
  have t1 := tl_le a
  have t2 := tl_le b
  have cA := trim_any a aa la ca w ra (by omega)
  have cB := trim_any b ab lb cb w rb (by omega)
  rw [← vL_nt a, ← vL_nt b]
  exact mul_core (nt a) (nt b) aa ab (tl a) (tl b) ca cb la ca lb cb w (nrm_nt da) (nrm_nt db) (row_nt ra) (row_nt rb) (by omega) (by omega) cA cB
set_option maxHeartbeats 1600000 in
theorem mod_zero (a b : List Nat) (aa ab : Option Addr) (la ca lb cb : Nat) (w : World) (da : Dig a) (db : Dig b) (ra : Row .u8 w aa la ca (nI a)) (rb : Row .u8 w ab lb cb (nI b)) (hla : la ≤ 100000) (hlb : lb ≤ 100000) (h0 : vL b = 0) :
    Calls Tryd.prog 40 #[.slice aa la ca, .slice ab lb cb] w (GivesE w [] 20) := by
  have cA := trim_any a aa la ca w ra (by omega)
  have cB := trim_any b ab lb cb w rb (by omega)
  rw [tl_nb db, h0, nb_zero, List.length_nil] at cB
  clear h0
  generalize tl a = n at *
  go_enter Tryd.func40, Tryd.ntmps40
  go_wp2_with fail
  refine cA.mono ?_
  rintro e w' ⟨rfl, rfl⟩
  go_wp2_with fail
  refine cB.mono ?_
  rintro e w' ⟨rfl, rfl⟩
  go_wp2_with fail
  go_ret2
  exact ⟨_, _, rfl, ⟨rfl, Nat.le_refl _, Nat.zero_le _, fun _ => rfl, fun h => absurd h (by simp)⟩, Below.refl _ _⟩
set_option maxHeartbeats 1600000 in
theorem mod_core (x z : List Nat) (ax am : Option Addr) (n lm cx cm la ca lb cb : Nat) (w : World) (nx : Nrm x) (nz : Nrm z) (rx : Row .u8 w ax n cx (nI x)) (rz : Row .u8 w am lm cm (nI z)) (hn : n ≤ 100000) (hm : lm ≤ 100000) (hm0 : 0 < lm)
    (hTa : Calls Tryd.prog 42 #[.slice ax la ca] w fun e w' => e = .returned (.slice ax n cx) ∧ w = w')
    (hTb : Calls Tryd.prog 42 #[.slice am lb cb] w fun e w' => e = .returned (.slice am lm cm) ∧ w = w') :
    Calls Tryd.prog 40 #[.slice ax la ca, .slice am lb cb] w (GivesE w (nb (vL x % vL z)) 0) := by
  obtain ⟨i0, hi0, hz0, hz1, hz2⟩ := info_parts Tryd.info5
  have HLx : Hid (x.length = n) := by have := rx.hlen; rwa [nI_length] at this
  have HLz : Hid (z.length = lm) := by have := rz.hlen; rwa [nI_length] at this
  have hxl : vL x < 256 ^ n := by rw [← HLx.out]; exact nx.dig.vL_lt
  have HXL : Hid (vL x < 256 ^ (n + 1)) := Nat.lt_of_lt_of_le hxl (Nat.pow_le_pow_right (by decide) (by omega))
  have hmax : n + 1 ≤ maxLen := by unfold maxLen; omega
  have HF0 : Hid (nI x ++ List.replicate (n + 1 - n) 0 = nI (digL (vL x) (n + 1))) := by
    show _ = _
    rw [show n + 1 - n = 1 from by omega, nI_front nx.dig 1, HLx.out]
  have HM0 : Hid (0 < vL z) := by
    have h1 := nz.ge (lm - 1) (by rw [HLz.out]; omega)
    exact Nat.lt_of_lt_of_le (pow_pos256 _) h1
  have HXS : Hid (vL x = vL x % (vL z * 256 ^ ((n : Int) - (lm : Int) + 1).toNat)) := (rest_start nx.dig nz (by rw [HLz.out]; omega) (K := ((n : Int) - (lm : Int) + 1).toNat) (by rw [HLx.out, HLz.out]; omega)).symm
  have hwr : IntKind.i64.wrap ((n : Int) - (lm : Int)) = (n : Int) - (lm : Int) := by rw [IntKind.wrap_i64]; omega
  clear hxl
  go_enter Tryd.func40, Tryd.ntmps40
  go_wp2_with fail
  refine hTa.mono ?_
  rintro e w' ⟨rfl, rfl⟩
  go_wp2_with fail
  refine hTb.mono ?_
  rintro e w' ⟨rfl, rfl⟩
  clear hTa hTb
  go_wp2_with (at_make; refine wpList_make_full _ rfl _ _ 22 rfl w.heap.size 5 i0 (.int .u8 0) 1 Tryd.underlying22 hi0 hz0 hz1 _ _ _ _ (n + 1) rfl rfl (by omega) (by omega) (by rw [hz2]; omega) hmax (Nat.le_refl _) ?_; intro w1 hown1 hgrow1)
  obtain ⟨A1, q1⟩ := made_arr hown1 hgrow1
  clear hown1 hgrow1
  obtain ⟨w2, hrun, hg2, q2⟩ := copy_front (P := Tryd.prog) (dT := 22) (elem := 5) (ty := 3) (cap := cx) (a := ax) Tryd.underlying22 (by kernel_rfl) A1 (Nat.le_succ n) (rx.below q1 (Nat.le_refl _)) q1 (Nat.le_refl _)
  rw [hrun]
  clear hrun A1 q1
  rw [HF0.out] at hg2
  have HA2 : Hid (Arr w2 w.heap.size 5 .u8 (nI (digL (vL x % (vL z * 256 ^ ((n : Int) - (lm : Int) + 1).toNat)) (n + 1)))) := by
    show Arr _ _ _ _ _
    rw [← HXS.out]
    exact hg2
  clear hg2 HF0
  go_wp2_with fail
  go_loopw [7] (fun y wr => ∃ v : Int, y = .int .i64 v ∧ -1000000 ≤ v ∧ v + (lm : Int) ≤ (n : Int) ∧ Hid (Arr wr w.heap.size 5 .u8 (nI (digL (vL x % (vL z * 256 ^ (v + 1).toNat)) (n + 1)))) ∧ Hid (Below w.heap.size w wr)) (fun y _ => (intOf y + 1).toNat)
  case atStart => exact ⟨(n : Int) - (lm : Int), by go_num, by omega, by omega, HA2, q2⟩
  case round =>
    clear HA2 q2 HXS hwr
    obtain ⟨v, rfl, hv1, hv2, HA, HB⟩ := hrel
    by_cases hv0 : 0 ≤ v
    · obtain ⟨k, rfl⟩ : ∃ k : Nat, v = (k : Int) := ⟨v.toNat, by omega⟩
      have hkn : k + (lm + 1) ≤ n + 1 := by omega
      have A := HA.out
      rw [show ((k : Int) + 1).toNat = k + 1 from by omega] at A
      have HRE := rest_step (vL x) (vL z) k
      have hR : vL x % (vL z * 256 ^ (k + 1)) < vL z * 256 ^ (k + 1) := Nat.mod_lt _ (Nat.mul_pos HM0.out (pow_pos256 _))
      have cL := lessen_any (vL x % (vL z * 256 ^ (k + 1))) (n + 1) k (n + 1 - k) lm cm z am 5 w.heap.size w wr A rz HB.out (Nat.le_refl _) nz hm0 hR hkn (by omega) (by omega) (by omega)
      rw [HRE] at cL
      clear HRE hR HA A
      have HX1 : Hid (∀ w2, Arr w2 w.heap.size 5 .u8 (nI (digL (vL x % (vL z * 256 ^ k)) (n + 1))) → Arr w2 w.heap.size 5 .u8 (nI (digL (vL x % (vL z * 256 ^ ((k : Int) - 1 + 1).toNat)) (n + 1)))) := fun w2 h => by
        rw [show ((k : Int) - 1 + 1).toNat = k from by omega]
        exact h
      have s1 : (k : Int) + (lm : Int) + 1 ≤ (n : Int) + 1 := by omega
      have s2 : ((k : Int) + (lm : Int) + 1).toNat = k + lm + 1 := by omega
      have s3 : k + lm + 1 - k = lm + 1 := by omega
      have s4 : (k : Int) ≤ (k : Int) + (lm : Int) + 1 := by omega
      generalize vL x % (vL z * 256 ^ k) = R at *
      go_wp2_with fail
      refine cL.mono ?_
      rintro e w3 ⟨rfl, A3, q3⟩
      have HA3 : Hid (Arr w3 w.heap.size 5 .u8 (nI (digL (vL x % (vL z * 256 ^ ((k : Int) - 1 + 1).toNat)) (n + 1)))) := HX1.out w3 A3
      have HB3 : Hid (Below w.heap.size w w3) := HB.out.trans q3
      clear cL A3 q3 HX1 s1 s2 s3 s4
      go_wp2_with fail
      go_roundw
      case rel => exact ⟨(k : Int) - 1, by go_num, by omega, by omega, HA3, HB3⟩
      case measure => simp [intOf] <;> omega
    · have A := HA.out
      rw [show (v + 1).toNat = 0 from by omega, Nat.pow_zero, Nat.mul_one] at A
      have hRl : vL x % vL z < 256 ^ (n + 1) := Nat.lt_of_le_of_lt (Nat.mod_le _ _) HXL.out
      generalize vL x % vL z = R at *
      have cN := norm_any (digL R (n + 1)) (digL_dig _ _) (some ⟨w.heap.size, 0, none⟩) (n + 1) (n + 1) wr (A.full (by omega)) (by omega)
      rw [vL_digL_lt hRl] at cN
      clear HA
      go_wp2_with fail
      refine cN.mono ?_
      rintro e w3 ⟨a3, c3, rfl, r3, q3⟩
      have HB3 := HB.out.trans (q3.mono HB.out.size)
      go_wp2_with fail
      go_ret2
      exact ⟨_, _, rfl, r3, HB3⟩
theorem mod_any (a b : List Nat) (aa ab : Option Addr) (la ca lb cb : Nat) (w : World) (da : Dig a) (db : Dig b) (ra : Row .u8 w aa la ca (nI a)) (rb : Row .u8 w ab lb cb (nI b)) (hla : la ≤ 100000) (hlb : lb ≤ 100000) (h0 : vL b ≠ 0) :
    Calls Tryd.prog 40 #[.slice aa la ca, .slice ab lb cb] w (GivesE w (nb (vL a % vL b)) 0) := by
  have h1 := ra.hlen
  have h2 := rb.hlen
  rw [nI_length] at h1 h2
  have t1 := tl_le a
  have t2 := tl_le b
  have cA := trim_any a aa la ca w ra (by omega)
  have cB := trim_any b ab lb cb w rb (by omega)
  have t0 : 0 < tl b := by
    rw [tl_nb db]
    rcases Nat.eq_zero_or_pos (nb (vL b)).length with h | h
    · exact absurd (nb_nil.1 h) h0
    · exact h
  rw [← vL_nt a, ← vL_nt b]
  exact mod_core (nt a) (nt b) aa ab (tl a) (tl b) ca cb la ca lb cb w (nrm_nt da) (nrm_nt db) (row_nt ra) (row_nt rb) (by omega) (by omega) t0 cA cB
end Go.Proofs.YtgofapndgjfnhaaDoor.N
