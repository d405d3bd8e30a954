/-
  The code of layer 15 (nums), as it landed: Mul, Mod.
-/
import Derived.Test.YtacicjnhpklkfaaDoorNumCode4
import Derived.Test.YtacicjnhpklkfaaDoorNumCode5
namespace Go.Proofs.YtacicjnhpklkfaaDoor.N
open Go.RowKit
set_option linter.unusedVariables false
set_option maxRecDepth 8192

theorem mul_lt {x y n m : Nat} (hx : x < 256 ^ n) (hy : y < 256 ^ m) : x * y < 256 ^ (n + m) := by
  rw [Nat.pow_add]
  rcases Nat.eq_zero_or_pos y with rfl | h
  · rw [Nat.mul_zero]; exact Nat.mul_pos (pow_pos256 _) (pow_pos256 _)
  · exact Nat.lt_of_lt_of_le (Nat.mul_lt_mul_of_pos_right hx h) (Nat.mul_le_mul_left _ (Nat.le_of_lt hy))
set_option maxHeartbeats 1600000 in
theorem mul_core (x y : List Nat) (ax ay : Option Addr) (n m cx cy la ca lb cb : Nat) (w : World) (nx : Nrm x) (ny : Nrm y) (rx : Row .u8 w ax n cx (nI x)) (ry : Row .u8 w ay m cy (nI y)) (hn : n ≤ 100000) (hm : m ≤ 100000)
    (hTa : Calls Tryd.prog 42 #[.slice ax la ca] w fun e w' => e = .returned (.slice ax n cx) ∧ w = w')
    (hTb : Calls Tryd.prog 42 #[.slice ay lb cb] w fun e w' => e = .returned (.slice ay m cy) ∧ w = w') :
    Calls Tryd.prog 23 #[.slice ax la ca, .slice ay lb cb] w (Gives w (nb (vL x * vL y))) := by
  obtain ⟨i0, hi0, hz0, hz1, hz2⟩ := info_parts Tryd.info5
  have HLx : Hid (x.length = n) := by have := rx.hlen; rwa [nI_length] at this
  have HLy : Hid (y.length = m) := by have := ry.hlen; rwa [nI_length] at this
  have hxl : vL x < 256 ^ n := by rw [← HLx.out]; exact nx.dig.vL_lt
  have hyl : vL y < 256 ^ m := by rw [← HLy.out]; exact ny.dig.vL_lt
  have HV : Hid (vL x * vL y < 256 ^ (n + m)) := mul_lt hxl hyl
  have HVi : Hid (∀ i, i < n → vTo (dg x) (i + 1) * vL y < 256 ^ (n + m)) := fun i hi =>
    Nat.lt_of_lt_of_le (mul_lt (nx.dig.vlt (i + 1)) hyl) (Nat.pow_le_pow_right (by decide) (by omega))
  have HUi : Hid (∀ i, i ≤ n → vTo (dg x) i * vL y < 256 ^ (n + m)) := fun i hi =>
    Nat.lt_of_lt_of_le (mul_lt (nx.dig.vlt i) hyl) (Nat.pow_le_pow_right (by decide) (by omega))
  have HW : Hid (vTo (dg x) n = vL x) := by show _ = _; unfold vL; rw [HLx.out]
  have hmax : n + m ≤ maxLen := by unfold maxLen; omega
  have hwr : IntKind.i64.wrap ((n : Int) + (m : Int)) = ((n + m : Nat) : Int) := by rw [IntKind.wrap_i64]; omega
  clear hxl hyl
  obtain ⟨L, hL⟩ : ∃ L, n + m = L := ⟨_, rfl⟩
  have hLs : (n : Int) + (m : Int) = (L : Int) := by omega
  have hL9 : L ≤ 200000 := by omega
  have hnL : n ≤ L := by omega
  have hnmL : ∀ i, i < n → m ≤ L - i := fun i hi => by omega
  rw [hL] at hmax HV HVi HUi hwr
  clear hL
  go_enter Tryd.func23, Tryd.ntmps23
  go_wp2_with fail
  refine hTa.mono ?_
  rintro e w' ⟨rfl, rfl⟩
  go_wp2_with fail
  refine hTb.mono ?_
  rintro e w' ⟨rfl, rfl⟩
  clear hTa hTb
  go_wp2_with (at_make; refine wpList_make_full _ rfl _ _ 25 rfl w.heap.size 5 i0 (.int .u8 0) 1 Tryd.underlying25 hi0 hz0 hz1 _ _ _ _ L rfl rfl (by omega) (by omega) (by rw [hz2]; omega) hmax (Nat.le_refl _) ?_; intro w1 hown1 hgrow1)
  obtain ⟨A1, q1⟩ := made_arr hown1 hgrow1
  clear hown1 hgrow1
  have A2 : Arr w1 w.heap.size 5 .u8 (nI (digL (vTo (dg x) 0 * vL y) L)) := by
    simp only [vTo]
    rw [Nat.zero_mul, digL_zero]
    simpa [nI] using A1
  clear A1
  go_wp2_with fail
  go_loopw [20] (fun y' wr => ∃ i : Nat, i ≤ n ∧ y' = .int .i64 (i : Int) ∧ Hid (Arr wr w.heap.size 5 .u8 (nI (digL (vTo (dg x) i * vL y) L))) ∧ Hid (Below w.heap.size w wr)) (fun y' _ => n - (intOf y').toNat)
  case atStart => exact ⟨0, Nat.zero_le _, rfl, A2, q1⟩
  case round =>
    clear A2 q1
    obtain ⟨i, hi, rfl, HA, HB⟩ := hrel
    by_cases hlt : i < n
    · obtain ⟨bA, oA, rfl, hbA, hcA⟩ := (rx.below HB.out (Nat.le_refl _)).hcell (by omega)
      have hc1 := hcA i hlt
      clear hcA
      rw [nI_dg] at hc1
      have hx := nx.dig.at i
      have hVI : ((vTo (dg x) (i + 1) * vL y : Nat) : Int) = ((vTo (dg x) i * vL y : Nat) : Int) + ((dg x i : Nat) : Int) * ((256 ^ i * vL y : Nat) : Int) := by
        rw [← Int.natCast_mul, ← Int.natCast_add]
        congr 1
        simp only [vTo]
        rw [Nat.add_mul, Nat.mul_assoc]
      have cC := change_any (vTo (dg x) i * vL y) (vTo (dg x) (i + 1) * vL y) L i (L - i) (L - i) m cy ((dg x i : Nat) : Int) y ay 5 w.heap.size w wr HA.out ry HB.out (Nat.le_refl _) ny.dig (by omega) (by omega) hVI (by rw [show i + (L - i) = L from by omega]; exact HUi.out i hi) (by rw [show i + (L - i) = L from by omega]; exact HVi.out i hlt) (hnmL i hlt) (by omega) (by omega)
      have HN : Hid (vTo (dg x) (i + 1) * vL y = vTo (dg x) (i + 1) * vL y) := rfl
      clear hVI
      generalize vTo (dg x) i * vL y = U at *
      generalize hVV : vTo (dg x) (i + 1) * vL y = V at *
      have HVV : Hid (vTo (dg x) (i + 1) * vL y = V) := hVV
      clear hVV
      generalize dg x i = d at *
      have hiL : i ≤ L := by omega
      go_wp2_with fail
      refine cC.mono ?_
      rintro e w2 ⟨rfl, A2, q2⟩
      clear cC
      have HA2 : Hid (Arr w2 w.heap.size 5 .u8 (nI (digL (vTo (dg x) (i + 1) * vL y) L))) := by show Arr _ _ _ _ _; rw [HVV.out]; exact A2
      have HB2 : Hid (Below w.heap.size w w2) := HB.out.trans q2
      clear A2 q2
      go_wp2_with fail
      go_roundw
      case rel => exact ⟨i + 1, by omega, by go_num, HA2, HB2⟩
      case measure => simp [intOf]; omega
    · obtain rfl : i = n := by omega
      have A3 := HA.out
      rw [HW.out] at A3
      have hV := HV.out
      generalize vL x * vL y = V at *
      go_wp2_with fail
      refine (trim_own A3 hV (by omega)).mono ?_
      rintro e w' ⟨rfl, rfl⟩
      have R := A3.nb (w1 := w) hV (by omega)
      go_wp2_with fail
      go_ret
      exact ⟨_, _, rfl, R, HB.out⟩
theorem mul_any (a b : List Nat) (aa ab : Option Addr) (la ca lb cb : Nat) (w : World) (da : Dig a) (db : Dig b) (ra : Row .u8 w aa la ca (nI a)) (rb : Row .u8 w ab lb cb (nI b)) (hla : la ≤ 100000) (hlb : lb ≤ 100000) :
    Calls Tryd.prog 23 #[.slice aa la ca, .slice ab lb cb] w (Gives w (nb (vL a * vL b))) := by
  have h1 := ra.hlen
  have h2 := rb.hlen
  rw [nI_length] at h1 h2
  have t1 := tl_le a
  have t2 := tl_le b
  have cA := trim_any a aa la ca w ra (by omega)
  have cB := trim_any b ab lb cb w rb (by omega)
  rw [← vL_nt a, ← vL_nt b]
  exact mul_core (nt a) (nt b) aa ab (tl a) (tl b) ca cb la ca lb cb w (nrm_nt da) (nrm_nt db) (row_nt ra) (row_nt rb) (by omega) (by omega) cA cB
end Go.Proofs.YtacicjnhpklkfaaDoor.N
