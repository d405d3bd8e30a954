/-
  The code of layer 15 (nums), as it landed: Add, Sub, Mul.
-/
import Derived.Test.YtgofapndgjfnhaaDoorNumCode2
import Derived.Test.YtgofapndgjfnhaaDoorNumCode3
namespace Go.Proofs.YtgofapndgjfnhaaDoor.N
open Go.RowKit
set_option linter.unusedVariables false
set_option maxRecDepth 8192

theorem Arr.full {w : World} {g : Nat} {T : TypeId} {v n : Nat} (h : Arr w g T .u8 (nI (digL v n))) (hn : n ≤ 1000000) : Row .u8 w (some ⟨g, 0, none⟩) n n (nI (digL v n)) := by
  have := h.win 0 n n (by rw [nI_length, digL_length]; omega) (Nat.le_refl _) (by unfold maxLen; omega)
  rwa [List.drop_zero, List.take_of_length_le (by rw [nI_length, digL_length]; exact Nat.le_refl _)] at this
theorem nt_len_le {z : List Nat} {len : Nat} (h : z.length = len) : tl z ≤ len := by have := tl_le z; omega
theorem trim_own {v n g : Nat} {T : TypeId} {w : World} (h : Arr w g T .u8 (nI (digL v n))) (hv : v < 256 ^ n) (hn : n ≤ 1000000) :
    Calls Tryd.prog 42 #[.slice (some ⟨g, 0, none⟩) n n] w fun e w' => e = .returned (.slice (some ⟨g, 0, none⟩) (nb v).length n) ∧ w = w' := by
  have := trim_any (digL v n) (some ⟨g, 0, none⟩) n n w (h.full hn) hn
  rwa [tl_digL hv] at this
set_option maxHeartbeats 1600000 in
theorem add_core (x y : List Nat) (ax ay : Option Addr) (n m cx cy : Nat) (w : World) (nx : Nrm x) (ny : Nrm y) (rx : Row .u8 w ax n cx (nI x)) (ry : Row .u8 w ay m cy (nI y)) (hmn : m ≤ n) (hn : n ≤ 999999) (F : Bool) (aa ab : Option Addr) (la ca lb cb : Nat)
    (hTa : Calls Tryd.prog 42 #[.slice aa la ca] w fun e w' => e = .returned (bif F then .slice ay m cy else .slice ax n cx) ∧ w = w')
    (hTb : Calls Tryd.prog 42 #[.slice ab lb cb] w fun e w' => e = .returned (bif F then .slice ax n cx else .slice ay m cy) ∧ w = w') (hF : F = true → m < n) :
    Calls Tryd.prog 49 #[.slice aa la ca, .slice ab lb cb] w (Gives w (nb (vL x + vL y))) := by
  obtain ⟨i0, hi0, hz0, hz1, hz2⟩ := info_parts Tryd.info5
  have HLx : Hid (x.length = n) := by have := rx.hlen; rwa [nI_length] at this
  have HLy : Hid (y.length = m) := by have := ry.hlen; rwa [nI_length] at this
  have hmax : n + 1 ≤ maxLen := by unfold maxLen; omega
  have hxl : vL x < 256 ^ n := by rw [← HLx.out]; exact nx.dig.vL_lt
  have hyl : vL y < 256 ^ n := by
    refine Nat.lt_of_lt_of_le ny.dig.vL_lt (Nat.pow_le_pow_right (by decide) ?_)
    rw [HLy.out]; exact hmn
  have hp : 256 ^ (n + 1) = 256 ^ n * 256 := Nat.pow_succ _ _
  have hU : vL x < 256 ^ (n + 1) := by omega
  have hV : vL x + vL y < 256 ^ (n + 1) := by omega
  have hVI : ((vL x + vL y : Nat) : Int) = (vL x : Int) + 1 * ((256 ^ 0 * vL y : Nat) : Int) := by rw [Nat.pow_zero, Nat.one_mul]; omega
  have HF0 : Hid (nI x ++ List.replicate (n + 1 - n) 0 = nI (digL (vL x) (n + 1))) := by
    show _ = _
    rw [show n + 1 - n = 1 from by omega, nI_front nx.dig 1, HLx.out]
  have hnm : ¬ (n : Int) < (m : Int) := by omega
  clear hp hxl hyl
  have fin : ∀ (K : Value → Value → Prop), True := fun _ => trivial
  clear fin
  cases F
  · simp only [cond_false] at hTa hTb
    go_enter Tryd.func49, Tryd.ntmps49
    go_wp2_with fail
    refine hTa.mono ?_
    rintro e w' ⟨rfl, rfl⟩
    go_wp2_with fail
    refine hTb.mono ?_
    rintro e w' ⟨rfl, rfl⟩
    clear hTa hTb
    go_wp2_with (at_make; refine wpList_make_full _ rfl _ _ 22 rfl w.heap.size 5 i0 (.int .u8 0) 1 Tryd.underlying22 hi0 hz0 hz1 _ _ _ _ (n + 1) rfl rfl (by omega) (by omega) (by rw [hz2]; omega) hmax (Nat.le_refl _) ?_; intro w1 hown1 hgrow1)
    obtain ⟨A1, q1⟩ := made_arr hown1 hgrow1
    clear hown1 hgrow1
    obtain ⟨w2, hrun, hg2, q2⟩ := copy_front (P := Tryd.prog) (dT := 22) (elem := 5) (ty := 3) (cap := cx) (a := ax) Tryd.underlying22 (by kernel_rfl) A1 (Nat.le_succ n) (rx.below q1 (Nat.le_refl _)) q1 (Nat.le_refl _)
    rw [hrun]
    clear hrun A1 q1
    rw [HF0.out] at hg2
    have A2 : Arr w2 w.heap.size 5 .u8 (nI (digL (vL x) (n + 1))) := hg2
    clear hg2
    have cC := change_any (vL x) (vL x + vL y) (n + 1) 0 (n + 1) (n + 1) m cy 1 y ay 5 w.heap.size w w2 A2 ry q2 (Nat.le_refl _) ny.dig (by decide) (by decide) hVI (by rw [Nat.zero_add]; exact hU) (by rw [Nat.zero_add]; exact hV) (by omega) (by omega) (by omega)
    go_wp2_with fail
    refine cC.mono ?_
    rintro e w3 ⟨rfl, A3, q3⟩
    clear cC A2
    replace q3 := q2.trans q3
    go_wp2_with fail
    refine (trim_own A3 hV (by omega)).mono ?_
    rintro e w' ⟨rfl, rfl⟩
    have R := A3.nb (w1 := w) hV (by omega)
    go_wp2_with fail
    go_ret
    exact ⟨_, _, rfl, R, q3⟩
  · have hlt : (m : Int) < (n : Int) := by have := hF rfl; omega
    simp only [cond_true] at hTa hTb
    go_enter Tryd.func49, Tryd.ntmps49
    go_wp2_with fail
    refine hTa.mono ?_
    rintro e w' ⟨rfl, rfl⟩
    go_wp2_with fail
    refine hTb.mono ?_
    rintro e w' ⟨rfl, rfl⟩
    clear hTa hTb
    go_wp2_with (at_make; refine wpList_make_full _ rfl _ _ 22 rfl w.heap.size 5 i0 (.int .u8 0) 1 Tryd.underlying22 hi0 hz0 hz1 _ _ _ _ (n + 1) rfl rfl (by omega) (by omega) (by rw [hz2]; omega) hmax (Nat.le_refl _) ?_; intro w1 hown1 hgrow1)
    obtain ⟨A1, q1⟩ := made_arr hown1 hgrow1
    clear hown1 hgrow1
    obtain ⟨w2, hrun, hg2, q2⟩ := copy_front (P := Tryd.prog) (dT := 22) (elem := 5) (ty := 3) (cap := cx) (a := ax) Tryd.underlying22 (by kernel_rfl) A1 (Nat.le_succ n) (rx.below q1 (Nat.le_refl _)) q1 (Nat.le_refl _)
    rw [hrun]
    clear hrun A1 q1
    rw [HF0.out] at hg2
    have A2 : Arr w2 w.heap.size 5 .u8 (nI (digL (vL x) (n + 1))) := hg2
    clear hg2
    have cC := change_any (vL x) (vL x + vL y) (n + 1) 0 (n + 1) (n + 1) m cy 1 y ay 5 w.heap.size w w2 A2 ry q2 (Nat.le_refl _) ny.dig (by decide) (by decide) hVI (by rw [Nat.zero_add]; exact hU) (by rw [Nat.zero_add]; exact hV) (by omega) (by omega) (by omega)
    go_wp2_with fail
    refine cC.mono ?_
    rintro e w3 ⟨rfl, A3, q3⟩
    clear cC A2
    replace q3 := q2.trans q3
    go_wp2_with fail
    refine (trim_own A3 hV (by omega)).mono ?_
    rintro e w' ⟨rfl, rfl⟩
    have R := A3.nb (w1 := w) hV (by omega)
    go_wp2_with fail
    go_ret
    exact ⟨_, _, rfl, R, q3⟩
theorem add_any (a b : List Nat) (aa ab : Option Addr) (la ca lb cb : Nat) (w : World) (da : Dig a) (db : Dig b) (ra : Row .u8 w aa la ca (nI a)) (rb : Row .u8 w ab lb cb (nI b)) (hla : la ≤ 100000) (hlb : lb ≤ 100000) :
    Calls Tryd.prog 49 #[.slice aa la ca, .slice ab lb cb] w (Gives w (nb (vL a + vL b))) := by
  have h1 := ra.hlen
  have h2 := rb.hlen
  rw [nI_length] at h1 h2
  have t1 := tl_le a
  have t2 := tl_le b
  have cA := trim_any a aa la ca w ra (by omega)
  have cB := trim_any b ab lb cb w rb (by omega)
  rw [← vL_nt a, ← vL_nt b]
  rcases Nat.lt_or_ge (tl a) (tl b) with h | h
  · rw [Nat.add_comm]
    exact add_core (nt b) (nt a) ab aa (tl b) (tl a) cb ca w (nrm_nt db) (nrm_nt da) (row_nt rb) (row_nt ra) (by omega) (by omega) true aa ab la ca lb cb cA cB (fun _ => h)
  · exact add_core (nt a) (nt b) aa ab (tl a) (tl b) ca cb w (nrm_nt da) (nrm_nt db) (row_nt ra) (row_nt rb) h (by omega) false aa ab la ca lb cb cA cB (fun h => absurd h (by decide))
end Go.Proofs.YtgofapndgjfnhaaDoor.N
