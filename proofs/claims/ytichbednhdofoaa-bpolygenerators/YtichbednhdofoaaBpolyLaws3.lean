/-
  The walk of layer 4's law BpolyGenerators, out of the face of bpoly: it returns true; nothing old turns.
-/
import Derived.Test.YtichbednhdofoaaBpolyFace
namespace Go.Proofs.Ytichbednhdofoaa
open Go.RowKit
set_option linter.unusedVariables false

theorem gz_odd (k : Nat) : gz 2 ((2 * k + 1 : Nat) : Int) = gpow 2 (2 * k + 1) := gz_nat 2 _ (by decide) (by decide)
theorem gen_step (k : Nat) (r m : List Nat) (hr : Is01 r) (h1 : Eqv r (genTo k)) (h2 : Eqv m (bts (pk (minp (gz 2 ((2 * k + 1 : Nat) : Int)))))) (hm : Is01 m) : Eqv (mulL r m) (genTo (k + 1)) := by
  have hmin := min_ok ((2 * k + 1 : Nat) : Int)
  rw [gz_odd] at h2 hmin
  refine (mulL_left m hr.isP (is01_genTo k).isP hm.isP h1).trans ((mulL_right _ (h2.trans (bts_pk hmin.h01))).trans ?_)
  exact (norm_eqv _).symm
theorem min_bytes_le (n : Int) : (pk (minp (gz 2 n))).length ≤ 2 := by
  rw [length_pk, (min_ok n).len]
  split <;> decide

set_option maxHeartbeats 3200000 in
set_option maxRecDepth 100000 in
theorem walk_bpolyGenerators (hD : BDegC) (hM : BMulC) (hO : BModC) (hN : BMinC) (hG : BGenC) (t : Int) (w : World) (n1 : -9223372036854775808 ≤ t) (n2 : t ≤ 9223372036854775807) :
    Calls Try.prog 7 #[.int .i64 t] w fun e w' => e = .returned (.bool true) ∧ Below w.heap.size w w' := by
  by_cases ht : 1 ≤ t ∧ t ≤ 8
  case neg =>
    have hg := hG.no t w (by omega) n1 n2
    rcases (show t < 1 ∨ 8 < t by omega) with h | h
    · go_enter Try.func7, Try.ntmps7
      go_wp2_with fail
      refine hg.mono ?_
      rintro e w1 ⟨a1, cp1, rfl, _, q1⟩
      rw [show ([] : List Int).length = 0 from rfl]
      go_wp2_with fail
      refine (awake4_any hD hM hO hN hG _).mono ?_
      rintro e w2 ⟨rfl, q2⟩
      replace q1 := btrans q1 q2
      go_wp2_with fail
      go_ret
      exact ⟨rfl, q1⟩
    · have h' : 1 ≤ t := by omega
      go_enter Try.func7, Try.ntmps7
      go_wp2_with fail
      refine hg.mono ?_
      rintro e w1 ⟨a1, cp1, rfl, _, q1⟩
      rw [show ([] : List Int).length = 0 from rfl]
      go_wp2_with fail
      refine (awake4_any hD hM hO hN hG _).mono ?_
      rintro e w2 ⟨rfl, q2⟩
      replace q1 := btrans q1 q2
      go_wp2_with fail
      go_ret
      exact ⟨rfl, q1⟩
  obtain ⟨t, rfl⟩ := Int.eq_ofNat_of_zero_le (show 0 ≤ t by omega)
  have ht1 : 1 ≤ t := by omega
  have ht2 : t ≤ 8 := by omega
  clear ht n1 n2
  have hg := hG.yes t w ht1 ht2
  have hzl := bgen_len t ht2
  have hB := isB_pk (is01_genTo t)
  have h01 := is01_bts (pk (genTo t))
  have HDG : Hid ((((norm (bts (pk (genTo t)))).length : Nat) : Int) - 1 = 13 * (t : Int)) := by
    show _ = _
    rw [gen_norm, length_genTo t ht2]; omega
  have HVL : Hid (∀ i, 1 ≤ i → i ≤ 2 * t → evl (bts (pk (genTo t))) (gz 2 (i : Nat)) = 0) := fun i h1 h2 => by
    rw [evl_eqv _ (bts_pk (is01_genTo t)), gz_nat 2 i (by decide) (by decide), evl_gen t i h1 h2]
  have HNB : Hid (∀ r, Eqv r (genTo t) → nb r = pk (genTo t)) := fun r h => by
    rw [nb_ext h]
    show pk (norm (genTo t)) = _
    rw [norm_genTo]
  generalize pk (genTo t) = z at *
  go_enter Try.func7, Try.ntmps7
  go_wp2_with fail
  refine hg.mono ?_
  rintro e w1 ⟨a1, cp1, rfl, hrow1, q1⟩
  clear hg
  go_wp2_with fail
  refine (all_any _ _ _ z _ hrow1 hB (by omega)).mono ?_
  rintro e w2 ⟨v2, rfl, hown2, q2⟩
  have hrow2 : ∃ a cap, v2 = .slice a (8 * z.length) cap ∧ Row .i64 w2 a (8 * z.length) cap (ints (bts z)) := by
    rw [ints_bts]
    exact row_of_owns hown2
  obtain ⟨a2, cp2, rfl, hrow2⟩ := hrow2
  clear hown2
  replace hrow1 := hrow1.below q2 (Nat.le_refl _)
  replace q1 := btrans q1 q2
  clear q2
  go_wp2_with fail
  refine (refDeg_any _ _ _ (bts z) _ hrow2 (by omega)).mono ?_
  rintro e w' ⟨rfl, rfl⟩
  rw [HDG.out]
  go_wp2_with fail
  go_loop [6] (fun y => ∃ i : Nat, 1 ≤ i ∧ i ≤ 2 * t + 1 ∧ y = .int .i64 i) (fun y => 2 * t + 1 - (intOf y).toNat)
  case atStart => exact ⟨1, by omega, by omega, rfl⟩
  case round =>
    obtain ⟨i, hi1, hi2, rfl⟩ := hrel
    by_cases hlt : i ≤ 2 * t
    · have HV := HVL.out i hi1 hlt
      have HV' : Hid (evl (bts z) (gz 2 (i : Nat)) = 0) := HV
      have hxl := gz_lt 2 (i : Nat) (by decide)
      clear HV
      go_wp2_with fail
      refine (refExp_any (i : Nat) _ (by omega) (by omega)).mono ?_
      rintro e w' ⟨rfl, rfl⟩
      go_wp2_with fail
      refine (refVal_any _ _ _ (bts z) (gz 2 (i : Nat)) _ hrow2 h01 hxl (by omega)).mono ?_
      rintro e w' ⟨rfl, rfl⟩
      rw [HV'.out]
      go_wp2_with fail
      go_round
      case rel => exact ⟨i + 1, by omega, by omega, by go_num⟩
      case measure => simp [intOf]; omega
    · have e : i = 2 * t + 1 := by omega
      subst e
      clear hi1 hi2 hlt
      have hr0 := row_new .i64 w2 3 w2.heap.size rfl (ints [1]) 1 rfl (by decide) #[.int .i64 1] rfl
      have hb0 : Below w2.heap.size w2 (w2.alloc (Obj.cells #[.int .i64 1] 3)) := below_one w2 _
      go_wp2_with fail
      go_loopw [7, 8] (fun v y wr => ∃ k : Nat, ∃ r : List Nat, ∃ a cap, k ≤ t ∧ y = .int .i64 ((2 * k + 1 : Nat) : Int) ∧ v = .slice a r.length cap ∧ Is01 r ∧ Eqv r (genTo k) ∧ r.length ≤ 1 + 16 * k ∧ Row .i64 wr a r.length cap (ints r) ∧ Below w2.heap.size w2 wr) (fun _ y _ => 2 * t + 1 - (intOf y).toNat)
      case atStart => exact ⟨0, [1], _, _, by omega, rfl, rfl, is01_all _ (by decide), Eqv.refl _, by decide, hr0, hb0⟩
      case round =>
        clear hr0 hb0
        obtain ⟨k, r, a, cap, hk, rfl, rfl, hr01, hreq, hrl, hrow, hnx⟩ := hrel
        have HREQ : Hid (Eqv r (genTo k)) := hreq
        clear hreq
        by_cases hlt : k < t
        · have hmb := min_bytes_le ((2 * k + 1 : Nat) : Int)
          have hmB := isB_pk (min_ok ((2 * k + 1 : Nat) : Int)).h01
          have HST : Hid (∀ m, Is01 m → Eqv m (bts (pk (minp (gz 2 ((2 * k + 1 : Nat) : Int))))) → Eqv (mulL r m) (genTo (k + 1))) := fun m h1 h2 => gen_step k r m hr01 HREQ.out h2 h1
          have cN := fun wx => hN ((2 * k + 1 : Nat) : Int) wx (by omega) (by omega)
          generalize pk (minp (gz 2 ((2 * k + 1 : Nat) : Int))) = zm at *
          go_wp2_with fail
          refine (cN _).mono ?_
          rintro e w3 ⟨a3, cp3, rfl, hrow3, q3⟩
          replace hrow := hrow.below q3 (Nat.le_refl _)
          replace hnx : Below w2.heap.size w2 w3 := hnx.trans (q3.mono hnx.size)
          clear q3
          go_wp2_with fail
          refine (all_any _ _ _ zm _ hrow3 hmB (by omega)).mono ?_
          rintro e w4 ⟨v4, rfl, hown4, q3⟩
          obtain ⟨a4, cp4, rfl, hrow4⟩ : ∃ a cap, v4 = .slice a (8 * zm.length) cap ∧ Row .i64 w4 a (8 * zm.length) cap (ints (bts zm)) := by
            rw [ints_bts]
            exact row_of_owns hown4
          clear hown4 hrow3
          replace hrow := hrow.below q3 (Nat.le_refl _)
          replace hnx : Below w2.heap.size w2 w4 := hnx.trans (q3.mono hnx.size)
          clear q3
          go_wp2_with fail
          refine (refMulB_any _ _ _ _ _ _ r (bts zm) _ hrow hr01 hrow4 (is01_bts zm) (by omega) (by omega)).mono ?_
          rintro e w5 ⟨r5, a5, h5, e5, l5, rfl, hrow5, q3⟩
          have HE5 : Hid (Eqv r5 (genTo (k + 1))) := e5.trans (HST.out _ (is01_bts zm) (Eqv.refl _))
          have HL5 : Hid (r5.length = r.length + 8 * zm.length) := l5
          clear e5 l5
          rw [← HL5.out] at hrow5
          replace hnx : Below w2.heap.size w2 w5 := hnx.trans (q3.mono hnx.size)
          clear q3 hrow hrow4
          go_wp2_with fail
          go_roundw
          case rel => exact ⟨k + 1, r5, _, _, by omega, by go_num, by rw [HL5.out], h5, HE5.out, by have := HL5.out; omega, hrow5, hnx⟩
          case measure => simp [intOf]; omega
        · have e : k = t := by omega
          subst e
          have HNR : Hid (nb r = z) := HNB.out r HREQ.out
          replace hrow1 := hrow1.below hnx (Nat.le_refl _)
          replace q1 := btrans q1 hnx
          clear hrow2
          go_wp2_with fail
          refine held_begin (by kernel_rfl) ?_
          refine held_call (i := 0) (fuel := 9) (by kernel_rfl) rfl (by rfl) (fun K hK => ?_)
          go_simp
          refine (awake4_any hD hM hO hN hG _).mono ?_
          rintro e w6 ⟨rfl, q6⟩
          have s6 : Since wr w6 := (Since.drew wr).trans q6
          refine hK _ _ s6 ?_
          clear hK K
          replace hrow1 := hrow1.below s6 (Nat.le_refl _)
          replace hrow := hrow.below s6 (Nat.le_refl _)
          replace q1 := btrans q1 s6
          have hc : ∀ w', Since w6 w' → Sem.run Try.prog (Go.convert 22 9 (.slice a1 z.length cp1)) w' = .ok (.string (strOfNums z)) w' := fun w' h => conv_row Try.underlying22 Try.underlying5 Try.underlying9 (hrow1.below h (Nat.le_refl _))
          refine held_reads (rs := [1, 2, 3, 4]) (fuel := 5) (by kernel_rfl) (fun c d v a w h => by cases d <;> exact h) (by kernel_rfl) (Since.refl _) (fun K hK => ?_)
          refine calm_move _ rfl (by rfl) rfl ?_
          go_simp
          refine calm_move _ rfl (by rfl) rfl ?_
          go_simp
          refine calm_do (.string (strOfNums z)) rfl (by rfl) (fun w' hw' => ?_) ?_
          · have hcc := hc w' hw'
            go_simp
          go_simp
          refine calm_move _ rfl (by rfl) rfl ?_
          go_simp
          refine calm_nil (hK.out _ ?_)
          clear hK K
          refine held_call (i := 5) (fuel := 4) (by kernel_rfl) rfl (by rfl) (fun K hK => ?_)
          go_simp
          refine (refBytes_any _ _ _ r _ hr01 hrow (by omega)).mono ?_
          rintro e w7 ⟨a7, cp7, rfl, hrow7, q7⟩
          have s7 : Since w6 w7 := q7
          refine hK _ _ s7 ?_
          clear hK K
          rw [HNR.out] at hrow7 ⊢
          replace q1 := btrans q1 s7
          have hc7 : ∀ w', Since w7 w' → Sem.run Try.prog (Go.convert 22 9 (.slice a7 z.length cp7)) w' = .ok (.string (strOfNums z)) w' := fun w' h => conv_row Try.underlying22 Try.underlying5 Try.underlying9 (hrow7.below h (Nat.le_refl _))
          refine held_reads (rs := [6, 7, 8, 9]) (fuel := 0) (by kernel_rfl) (fun c d v a w h => by cases d <;> exact h) (by kernel_rfl) (Since.refl _) (fun K hK => ?_)
          go_simp
          refine calm_do (.string (strOfNums z)) rfl (by rfl) (fun w' hw' => ?_) ?_
          · have hcc := hc7 w' hw'
            go_simp
          go_simp
          refine calm_do (.bool true) rfl (by rfl) (fun w' hw' => ?_) ?_
          · go_simp
          go_simp
          refine calm_do (.bool true) rfl (by rfl) (fun w' hw' => ?_) ?_
          · go_simp
          go_simp
          refine calm_assign _ rfl (by rfl) rfl ?_
          go_simp
          refine calm_nil (hK.out _ ?_)
          clear hK K
          refine wpAnyH_done (by kernel_rfl) ?_ _
          go_wp2
          go_ret
          exact ⟨rfl, q1⟩

end Go.Proofs.Ytichbednhdofoaa
