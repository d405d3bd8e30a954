/-
  Layer 13's reference: words.
-/
import Derived.Test.YtoijeefmddopbaaShaRef5
import Derived.Deep.AppendLies
namespace Go.Proofs.Ytoijeefmddopbaa
open Go.RowKit
set_option linter.unusedVariables false
set_option maxRecDepth 8192

section
variable {P : Program} {ops : Array Oper} {Q : Exit → Act → World → Prop} {md : Region.Mode} {S : World → Prop}
/-- Two operations may come up. -/
theorem heldS_op2 {i j : Nat} {oi oj : Oper} {fuel : Nat} {listed : Array Bool} {a : Act} {w : World} (hr : Region.ready md ops listed = [i, j]) (hoi : ops[i]? = some oi)
    (hwi : Region.wanted oi (yielded ops a.tmps) = true) (hoj : ops[j]? = some oj) (hwj : Region.wanted oj (yielded ops a.tmps) = true)
    (hi : ∀ K' : Act → World → Prop, (∀ a w1, S w1 → wpAnyH P md ops Q S fuel (listed.setIfInBounds i true) a w1 → K' a w1) → Oper.wp P oi a w K' Q)
    (hj : ∀ K' : Act → World → Prop, (∀ a w1, S w1 → wpAnyH P md ops Q S fuel (listed.setIfInBounds j true) a w1 → K' a w1) → Oper.wp P oj a w K' Q) :
    wpAnyH P md ops Q S (fuel + 1) listed a w := by
  refine wpAnyH_all hr (by simp) fun k hk => ?_
  simp only [List.mem_cons, List.not_mem_nil, or_false] at hk
  rcases hk with rfl | rfl
  · refine wpOp_step hoi fun K' hK => ?_
    rw [if_pos hwi]
    exact hi K' fun a w1 hs hh => hK a w1 ⟨hs, hh⟩
  · refine wpOp_step hoj fun K' hK => ?_
    rw [if_pos hwj]
    exact hj K' fun a w1 hs hh => hK a w1 ⟨hs, hh⟩
end
theorem words16_take (z : List Nat) (i : Nat) (hi : i < 16) : (words16 z).take (i + 1) = (words16 z).take i ++ [pwr z i 4] := by
  rw [take_snocN _ _ (by rw [words16_length]; exact hi), pwr_four]
  simp [words16, hi]
set_option maxHeartbeats 3200000 in
theorem refWords13 (z : List Nat) (a : Option Addr) (cap : Nat) (w : World) (hr : Row .u8 w a 64 cap (nI z)) (hz : ∀ x ∈ z, x < 256) :
    Calls Try.prog 35 #[.slice a 64 cap] w fun e w' => ∃ v, e = .returned v ∧ w'.ownsRow w.heap.size 3 1 v 64 ((nI (spreadL z)).map (Value.int .i64)) ∧ Below w.heap.size w w' := by
  obtain ⟨i0, hi0, hz0, hz1, hz2⟩ := info_parts Try.info3
  have HZ : Hid (∀ x ∈ z, x < 256) := hz
  clear hz
  go_enter Try.func35, Try.ntmps35
  go_wp2
  go_loopw [3, 4] (fun v y wr => ∃ i : Nat, i ≤ 16 ∧ y = .int .i64 (i : Int) ∧ Hid (wr.ownsRow w.heap.size 3 1 v i ((nI ((words16 z).take i)).map (Value.int .i64))) ∧ Hid (Below w.heap.size w wr)) (fun _ y _ => 16 - (intOf y).toNat)
  case atStart => exact ⟨0, by omega, rfl, World.ownsRow_nil _ _ _ _, Below.refl _ _⟩
  case round =>
    obtain ⟨i, hi, rfl, HO, HB⟩ := hrel
    obtain ⟨wo, hwo⟩ : ∃ x, x = wr := ⟨_, rfl⟩
    subst hwo
    have hs := HB.out.size
    by_cases hlt : i < 16
    · have hr1 := hr.below HB.out (Nat.le_refl _)
      obtain ⟨b, off, rfl, hbs, hcell⟩ := hr1.hcell (by decide)
      have HC : Hid (∀ i, i < 64 → wo.cell? ⟨b, off + i, none⟩ = some (.int .u8 ((nI z)[i]?.getD 0))) := hcell
      clear hcell hr1
      go_wp2
      go_loopw [5, 6] (fun n y ws => ∃ k : Nat, k ≤ 4 ∧ y = .int .i64 (k : Int) ∧ n = .int .i64 ((pwr z i k : Nat) : Int) ∧ ws = wo) (fun _ y _ => 4 - (intOf y).toNat)
      case atStart => exact ⟨0, by omega, rfl, rfl, rfl⟩
      case round =>
        obtain ⟨k, hk, rfl, rfl, rfl⟩ := hrel
        have hpl : pwr z i k < 256 ^ 4 := Nat.lt_of_lt_of_le (pwr_lt z HZ.out i k) (Nat.pow_le_pow_right (by decide) hk)
        by_cases hk4 : k < 4
        · have hc1 := HC.out (4 * i + k) (by omega)
          rw [nI_get] at hc1
          have hx := getD_lt (by decide) HZ.out (4 * i + k)
          have HPS : Hid (pwr z i (k + 1) = pwr z i k * 256 + z[4 * i + k]?.getD 0) := rfl
          generalize z[4 * i + k]?.getD 0 = x at *
          generalize pwr z i k = p at *
          have e1 : (4 : Int) * (i : Int) + (k : Int) = ((4 * i + k : Nat) : Int) := by omega
          have e2 : ((4 : Int) * (i : Int) + (k : Int)).toNat = 4 * i + k := by omega
          have e3 : (4 : Int) * (i : Int) + (k : Int) < 64 := by omega
          have e4 : (0 : Int) ≤ (4 : Int) * (i : Int) + (k : Int) := by omega
          clear e1
          go_wp2
          go_roundw
          case rel => exact ⟨k + 1, by omega, by go_num, by rw [HPS.out]; go_num, by first | trivial | rfl⟩
          case measure => simp [intOf]; omega
        · obtain rfl : k = 4 := by omega
          have HT : Hid ((words16 z).take (i + 1) = (words16 z).take i ++ [pwr z i 4]) := words16_take z i hlt
          have hown := HO.out
          generalize pwr z i 4 = p at *
          go_wp2_with (at_builtin; refine wpList_append_own _ rfl _ _ 22 rfl w.heap.size 3 i0 (.int .i64 0) 1 8 Try.underlying22 hi0 hz0 hz1 hz2 rfl (by decide) _ _ _ rfl (hown.alloc _) ⟨_, 0, none⟩ 1 1 [.int .i64 (p : Int)] rfl rfl (cell_one_new _ _ _) (by intro u hu; simp at hu; subst hu; rfl) (by unfold maxLen; omega) (by omega) (by simp; omega) ?_)
          intro v' w1 hown' hgrow _
          have R := rel_push hs hown HB.out hown' hgrow
          rw [← nI_snoc, ← HT.out] at R
          clear hown' hgrow
          go_wp2
          go_roundw
          case rel => exact ⟨i + 1, by omega, by go_num, R.1, R.2⟩
          case measure => simp [intOf]; omega
    · obtain rfl : i = 16 := by omega
      have hown := HO.out
      rw [List.take_of_length_le (by rw [words16_length]; exact Nat.le_refl _)] at hown
      have HO2 : Hid (wo.ownsRow w.heap.size 3 1 _ 16 ((nI (words16 z)).map (Value.int .i64))) := hown
      have HLT : Hid (∀ k, ∀ x ∈ moreW (words16 z) k, x < 4294967296) := fun k => moreW_lt _ (words16_lt z HZ.out) k
      have HLN : Hid (∀ k, (moreW (words16 z) k).length = 16 + k) := fun k => by rw [moreW_length, words16_length]
      have HNX : Hid (∀ k, moreW (words16 z) (k + 1) = moreW (words16 z) k ++ [((moreW (words16 z) k)[16 + k - 16]?.getD 0 + (rr ((moreW (words16 z) k)[16 + k - 15]?.getD 0) 7 ^^^ rr ((moreW (words16 z) k)[16 + k - 15]?.getD 0) 18 ^^^ (moreW (words16 z) k)[16 + k - 15]?.getD 0 / 8) + (moreW (words16 z) k)[16 + k - 7]?.getD 0 + (rr ((moreW (words16 z) k)[16 + k - 2]?.getD 0) 17 ^^^ rr ((moreW (words16 z) k)[16 + k - 2]?.getD 0) 19 ^^^ (moreW (words16 z) k)[16 + k - 2]?.getD 0 / 1024)) % 4294967296]) := fun k => by
        have hl : (moreW (words16 z) k).length = 16 + k := by rw [moreW_length, words16_length]
        show moreW (words16 z) k ++ [nextW (moreW (words16 z) k)] = _
        unfold nextW sg0 sg1
        rw [hl]
      have HF : Hid (moreW (words16 z) 48 = spreadL z) := rfl
      have HM0 : Hid (moreW (words16 z) 0 = words16 z) := rfl
      rw [← HM0.out] at HO2
      clear hown HO HM0
      obtain ⟨M, hM⟩ : ∃ M : Nat → List Nat, M = fun k => moreW (words16 z) k := ⟨_, rfl⟩
      have hM' : ∀ k, moreW (words16 z) k = M k := fun k => by rw [hM]
      simp only [hM'] at HO2 HLT HLN HNX
      have HF2 : Hid (∀ l, spreadL z = l → M 48 = l) := fun l hl => by rw [← hM' 48, ← hl]; rfl
      clear hM hM' HF
      rw [show ((16 : Nat) : Int) = 16 from rfl]
      go_wp2
      go_loopw [3, 7] (fun v y wr => ∃ k : Nat, k ≤ 48 ∧ y = .int .i64 ((16 + k : Nat) : Int) ∧ Hid (wr.ownsRow w.heap.size 3 1 v (16 + k) ((nI (M k)).map (Value.int .i64))) ∧ Hid (Below w.heap.size w wr)) (fun _ y _ => 64 - (intOf y).toNat)
      case atStart => exact ⟨0, by omega, rfl, HO2, HB⟩
      case round =>
        clear HO2 HB
        obtain ⟨k, hk, rfl, HO, HB⟩ := hrel
        by_cases hlt : k < 48
        · obtain ⟨g, c, rfl, hgb, hgl⟩ := HO.out.form (by omega)
          have hown := HO.out
          have c16 := owned_cell hown (16 + k - 16) (by omega)
          have c15 := owned_cell hown (16 + k - 15) (by omega)
          have c7 := owned_cell hown (16 + k - 7) (by omega)
          have c2 := owned_cell hown (16 + k - 2) (by omega)
          rw [nI_get] at c16 c15 c7 c2
          have b16 := getD_lt (by decide) (HLT.out k) (16 + k - 16)
          have b15 := getD_lt (by decide) (HLT.out k) (16 + k - 15)
          have b7 := getD_lt (by decide) (HLT.out k) (16 + k - 7)
          have b2 := getD_lt (by decide) (HLT.out k) (16 + k - 2)
          have hnx := HNX.out k
          generalize (M k)[16 + k - 16]?.getD 0 = x16 at *
          generalize (M k)[16 + k - 15]?.getD 0 = x15 at *
          generalize (M k)[16 + k - 7]?.getD 0 = x7 at *
          generalize (M k)[16 + k - 2]?.getD 0 = x2 at *
          have k7 : ∀ w, Calls Try.prog 51 #[.int .i64 (x15 : Int), .int .i64 7] w fun e' w' => e' = .returned (.int .i64 ((rr x15 7 : Nat) : Int)) ∧ ∃ m, w' = w.drewN m := fun w => refRotr_any x15 7 w b15 (by decide) (by decide)
          have k18 : ∀ w, Calls Try.prog 51 #[.int .i64 (x15 : Int), .int .i64 18] w fun e' w' => e' = .returned (.int .i64 ((rr x15 18 : Nat) : Int)) ∧ ∃ m, w' = w.drewN m := fun w => refRotr_any x15 18 w b15 (by decide) (by decide)
          have k17 : ∀ w, Calls Try.prog 51 #[.int .i64 (x2 : Int), .int .i64 17] w fun e' w' => e' = .returned (.int .i64 ((rr x2 17 : Nat) : Int)) ∧ ∃ m, w' = w.drewN m := fun w => refRotr_any x2 17 w b2 (by decide) (by decide)
          have k19 : ∀ w, Calls Try.prog 51 #[.int .i64 (x2 : Int), .int .i64 19] w fun e' w' => e' = .returned (.int .i64 ((rr x2 19 : Nat) : Int)) ∧ ∃ m, w' = w.drewN m := fun w => refRotr_any x2 19 w b2 (by decide) (by decide)
          have k3 : ∀ w, Calls Try.prog 52 #[.int .i64 (x15 : Int), .int .i64 3] w fun e' w' => e' = .returned (.int .i64 ((x15 / 8 : Nat) : Int)) ∧ w = w' := fun w => refShr_any x15 3 w (by decide) b15
          have k10 : ∀ w, Calls Try.prog 52 #[.int .i64 (x2 : Int), .int .i64 10] w fun e' w' => e' = .returned (.int .i64 ((x2 / 1024 : Nat) : Int)) ∧ w = w' := fun w => refShr_any x2 10 w (by decide) b2
          have l7 := rr_lt x15 7 b15 (by decide)
          have l18 := rr_lt x15 18 b15 (by decide)
          have l17 := rr_lt x2 17 b2 (by decide)
          have l19 := rr_lt x2 19 b2 (by decide)
          have ld8 : x15 / 8 < 4294967296 := by omega
          have ld10 : x2 / 1024 < 4294967296 := by omega
          generalize rr x15 7 = r7 at *
          generalize rr x15 18 = r18 at *
          generalize rr x2 17 = r17 at *
          generalize rr x2 19 = r19 at *
          generalize x15 / 8 = d8 at *
          generalize x2 / 1024 = d10 at *
          have e1 := fun w => refXor_any r7 r18 w l7 l18
          have f1 := xlt l7 l18
          generalize r7 ^^^ r18 = y1 at *
          have e2 := fun w => refXor_any y1 d8 w f1 ld8
          have f2 := xlt f1 ld8
          generalize y1 ^^^ d8 = y2 at *
          have e3 := fun w => refXor_any r17 r19 w l17 l19
          have f3 := xlt l17 l19
          generalize r17 ^^^ r19 = y3 at *
          have e4 := fun w => refXor_any y3 d10 w f3 ld10
          have f4 := xlt f3 ld10
          generalize y3 ^^^ d10 = y4 at *
          obtain ⟨nx, hx⟩ : ∃ nx, (x16 + y2 + x7 + y4) % 4294967296 = nx := ⟨_, rfl⟩
          rw [hx] at hnx
          have HX : Hid (nx = (x16 + y2 + x7 + y4) % 4294967296) := hx.symm
          have hnl : nx < 4294967296 := by rw [← hx]; exact mlt _
          clear hx
          have HM1 : Hid (M (k + 1) = M k ++ [nx]) := hnx
          clear hnx
          have hi1 : 16 ≤ 16 + k := by omega
          have hi2 : 16 + k < 64 := by omega
          generalize hi : 16 + k = i at *
          have HI : Hid (16 + k = i) := hi
          clear hi
          have t16 : ((i : Int) - 16).toNat = i - 16 := by omega
          have t15 : ((i : Int) - 15).toNat = i - 15 := by omega
          have t7 : ((i : Int) - 7).toNat = i - 7 := by omega
          have t2 : ((i : Int) - 2).toNat = i - 2 := by omega
          have p16a : (0 : Int) ≤ (i : Int) - 16 := by omega
          have p16b : (i : Int) - 16 < (i : Int) := by omega
          have p15a : (0 : Int) ≤ (i : Int) - 15 := by omega
          have p15b : (i : Int) - 15 < (i : Int) := by omega
          have p7a : (0 : Int) ≤ (i : Int) - 7 := by omega
          have p7b : (i : Int) - 7 < (i : Int) := by omega
          have p2a : (0 : Int) ≤ (i : Int) - 2 := by omega
          have p2b : (i : Int) - 2 < (i : Int) := by omega
          go_wp2_with fail
          go_quiet (first
            | (go_at_call 51; with_reducible exact Calls.quiet_of (k7 _))
            | (go_at_call 51; with_reducible exact Calls.quiet_of (k18 _))
            | (go_at_call 52; with_reducible exact quietW (k3 _))
            | (go_at_call 36; with_reducible exact quietW (e1 _))
            | (go_at_call 36; with_reducible exact quietW (e2 _)))
          have hbel : Below w.heap.size w (wr.drewN nq) := belowN HB.out _
          replace c16 : (wr.drewN nq).cell? ⟨g, i - 16, none⟩ = some (.int .i64 (x16 : Int)) := c16
          replace c7 : (wr.drewN nq).cell? ⟨g, i - 7, none⟩ = some (.int .i64 (x7 : Int)) := c7
          replace c2 : (wr.drewN nq).cell? ⟨g, i - 2, none⟩ = some (.int .i64 (x2 : Int)) := c2
          replace hown : (wr.drewN nq).ownsRow w.heap.size 3 1 (.slice (some ⟨g, 0, none⟩) i c) i ((nI (M k)).map (Value.int .i64)) := hown
          replace hgl : g < (wr.drewN nq).heap.size := hgl
          clear c15 HO HB
          go_wp2_with fail
          generalize wr.drewN nq = wp at *
          go_quiet (first
            | (go_at_call 51; with_reducible exact Calls.quiet_of (k17 _))
            | (go_at_call 51; with_reducible exact Calls.quiet_of (k19 _))
            | (go_at_call 52; with_reducible exact quietW (k10 _))
            | (go_at_call 36; with_reducible exact quietW (e3 _))
            | (go_at_call 36; with_reducible exact quietW (e4 _)))
          clear k7 k18 k17 k19 k3 k10 e1 e2 e3 e4
          replace c16 : (wp.drewN nq).cell? ⟨g, i - 16, none⟩ = some (.int .i64 (x16 : Int)) := c16
          replace c7 : (wp.drewN nq).cell? ⟨g, i - 7, none⟩ = some (.int .i64 (x7 : Int)) := c7
          replace hown : (wp.drewN nq).ownsRow w.heap.size 3 1 (.slice (some ⟨g, 0, none⟩) i c) i ((nI (M k)).map (Value.int .i64)) := hown
          replace hbel : Below w.heap.size w (wp.drewN nq) := belowN hbel _
          replace hgl : g < (wp.drewN nq).heap.size := hgl
          clear c2
          go_wp2_with fail
          generalize wp.drewN nq = wq at *
          have ownd : wq.drew.ownsRow w.heap.size 3 1 (.slice (some ⟨g, 0, none⟩) i c) i ((nI (M k)).map (Value.int .i64)) := hown
          have hS : Below w.heap.size w wq.drew := hbel.drew
          have hs2 : w.heap.size ≤ wq.drew.heap.size := hbel.size
          refine heldS_open (fun w' => Below w.heap.size w w') (by kernel_rfl) ?_
          refine held_reads (rs := [0, 1, 2, 3, 4, 6, 8, 9, 10, 11, 14]) (fuel := 9) (by kernel_rfl) (fun c d v a w h => by cases d <;> exact h) (by kernel_rfl) hS (fun K' hK' => ?_)
          refine calm_move _ rfl (by rfl) rfl ?_
          go_simp
          refine calm_move _ rfl (by rfl) rfl ?_
          go_simp
          refine calm_move _ rfl (by rfl) rfl ?_
          go_simp
          refine calm_do (.int .i64 ((i : Int) - 16)) rfl (by rfl) (fun w' hw' => ?_) ?_
          · go_simp
            all_goals (first | omega | (rw [IntKind.wrap_i64]; omega))
          go_simp
          refine calm_do (.pointer (some ⟨g, i - 16, none⟩)) rfl (by rfl) (fun w' hw' => ?_) ?_
          · go_simp
            all_goals (intro hh; exfalso; omega)
          go_simp
          refine calm_move _ rfl (by rfl) rfl ?_
          go_simp
          refine calm_move _ rfl (by rfl) rfl ?_
          go_simp
          refine calm_move _ rfl (by rfl) rfl ?_
          go_simp
          refine calm_do (.int .i64 ((i : Int) - 7)) rfl (by rfl) (fun w' hw' => ?_) ?_
          · go_simp
            all_goals (first | omega | (rw [IntKind.wrap_i64]; omega))
          go_simp
          refine calm_do (.pointer (some ⟨g, i - 7, none⟩)) rfl (by rfl) (fun w' hw' => ?_) ?_
          · go_simp
            all_goals (intro hh; exfalso; omega)
          go_simp
          refine calm_move _ rfl (by rfl) rfl ?_
          go_simp
          refine calm_nil (hK'.out _ ?_)
          clear hK' K'
          refine heldS_op2 (i := 5) (j := 12) (fuel := 8) (by kernel_rfl) rfl (by rfl) rfl (by rfl) (fun K' hK' => ?_) (fun K' hK' => ?_)
          · go_simp
            refine hK' _ _ hS ?_
            clear hK' K'
            refine held_reads (rs := [7]) (fuel := 7) (by kernel_rfl) (fun c d v a w h => by cases d <;> exact h) (by kernel_rfl) hS (fun K' hK' => ?_)
            go_simp
            refine calm_do (.int .i64 ((x16 : Int) + (y2 : Int))) rfl (by rfl) (fun w' hw' => ?_) ?_
            · go_simp
              all_goals (first | omega | (rw [IntKind.wrap_i64]; omega))
            go_simp
            refine calm_nil (hK'.out _ ?_)
            clear hK' K'
            refine heldS_op (i := 12) (fuel := 6) (by kernel_rfl) rfl (by rfl) (fun K' hK' => ?_)
            go_simp
            refine hK' _ _ hS ?_
            clear hK' K'
            refine held_reads (rs := [13, 15, 16]) (fuel := 3) (by kernel_rfl) (fun c d v a w h => by cases d <;> exact h) (by kernel_rfl) hS (fun K' hK' => ?_)
            go_simp
            refine calm_do (.int .i64 ((x16 : Int) + (y2 : Int) + (x7 : Int))) rfl (by rfl) (fun w' hw' => ?_) ?_
            · go_simp
              all_goals (first | omega | (rw [IntKind.wrap_i64]; omega))
            go_simp
            refine calm_do (.int .i64 ((x16 : Int) + (y2 : Int) + (x7 : Int) + (y4 : Int))) rfl (by rfl) (fun w' hw' => ?_) ?_
            · go_simp
              all_goals (first | omega | (rw [IntKind.wrap_i64]; omega))
            go_simp
            refine calm_do (.int .i64 (nx : Int)) rfl (by rfl) (fun w' hw' => ?_) ?_
            · go_simp
              all_goals (rw [Int.tmod_eq_emod_of_nonneg (by omega), HX.out]; omega)
            go_simp
            refine calm_nil (hK'.out _ ?_)
            clear hK' K'
            refine heldS_op (i := 17) (fuel := 2) (by kernel_rfl) rfl (by rfl) (fun K' hK' => ?_)
            have hS2 : Below w.heap.size w (wq.drew.alloc (.cells #[.int .i64 (nx : Int)] 3)) := hS.alloc hs2 _
            go_simp
            refine hK' _ _ hS2 ?_
            clear hK' K'
            refine heldS_op (i := 18) (fuel := 1) (by kernel_rfl) rfl (by rfl) (fun K' hK' => ?_)
            refine wp_append_own _ (.tmp 77) (.tmp 94) 22 rfl w.heap.size 3 i0 (.int .i64 0) 1 8 Try.underlying22 hi0 hz0 hz1 hz2 rfl (by decide) _ _ _ rfl (ownd.alloc _) ⟨wq.heap.size, 0, none⟩ 1 1 [.int .i64 (nx : Int)] rfl rfl (cell_one_new wq.drew _ _) (by intro u hu; simp at hu; subst hu; rfl) (by unfold maxLen; omega) (by omega) (by simp; omega) ?_
            intro v' w1 hown' hgrow _
            have R := rel_push (w := w) hs2 ownd hS hown' hgrow
            rw [← nI_snoc, ← HM1.out] at R
            clear hown' hgrow
            refine hK' _ _ R.2 ?_
            clear hK' K'
            refine held_reads (rs := [19]) (fuel := 0) (by kernel_rfl) (fun c d v a w h => by cases d <;> exact h) (by kernel_rfl) R.2 (fun K' hK' => ?_)
            go_simp
            refine calm_assign _ rfl (by rfl) rfl ?_
            go_simp
            refine calm_nil (hK'.out _ ?_)
            clear hK' K'
            refine wpAnyH_done (by kernel_rfl) ?_ _
            go_wp2
            go_roundw
            case rel => exact ⟨k + 1, by omega, by have := HI.out; go_num, by rw [show 16 + (k + 1) = i + 1 from by have := HI.out; omega]; exact R.1, R.2⟩
            case measure => simp [intOf]; omega
          · go_simp
            refine hK' _ _ hS ?_
            clear hK' K'
            refine heldS_op (i := 5) (fuel := 7) (by kernel_rfl) rfl (by rfl) (fun K' hK' => ?_)
            go_simp
            refine hK' _ _ hS ?_
            clear hK' K'
            refine held_reads (rs := [7, 13, 15, 16]) (fuel := 3) (by kernel_rfl) (fun c d v a w h => by cases d <;> exact h) (by kernel_rfl) hS (fun K' hK' => ?_)
            go_simp
            refine calm_do (.int .i64 ((x16 : Int) + (y2 : Int))) rfl (by rfl) (fun w' hw' => ?_) ?_
            · go_simp
              all_goals (first | omega | (rw [IntKind.wrap_i64]; omega))
            go_simp
            refine calm_do (.int .i64 ((x16 : Int) + (y2 : Int) + (x7 : Int))) rfl (by rfl) (fun w' hw' => ?_) ?_
            · go_simp
              all_goals (first | omega | (rw [IntKind.wrap_i64]; omega))
            go_simp
            refine calm_do (.int .i64 ((x16 : Int) + (y2 : Int) + (x7 : Int) + (y4 : Int))) rfl (by rfl) (fun w' hw' => ?_) ?_
            · go_simp
              all_goals (first | omega | (rw [IntKind.wrap_i64]; omega))
            go_simp
            refine calm_do (.int .i64 (nx : Int)) rfl (by rfl) (fun w' hw' => ?_) ?_
            · go_simp
              all_goals (rw [Int.tmod_eq_emod_of_nonneg (by omega), HX.out]; omega)
            go_simp
            refine calm_nil (hK'.out _ ?_)
            clear hK' K'
            refine heldS_op (i := 17) (fuel := 2) (by kernel_rfl) rfl (by rfl) (fun K' hK' => ?_)
            have hS2 : Below w.heap.size w (wq.drew.alloc (.cells #[.int .i64 (nx : Int)] 3)) := hS.alloc hs2 _
            go_simp
            refine hK' _ _ hS2 ?_
            clear hK' K'
            refine heldS_op (i := 18) (fuel := 1) (by kernel_rfl) rfl (by rfl) (fun K' hK' => ?_)
            refine wp_append_own _ (.tmp 77) (.tmp 94) 22 rfl w.heap.size 3 i0 (.int .i64 0) 1 8 Try.underlying22 hi0 hz0 hz1 hz2 rfl (by decide) _ _ _ rfl (ownd.alloc _) ⟨wq.heap.size, 0, none⟩ 1 1 [.int .i64 (nx : Int)] rfl rfl (cell_one_new wq.drew _ _) (by intro u hu; simp at hu; subst hu; rfl) (by unfold maxLen; omega) (by omega) (by simp; omega) ?_
            intro v' w1 hown' hgrow _
            have R := rel_push (w := w) hs2 ownd hS hown' hgrow
            rw [← nI_snoc, ← HM1.out] at R
            clear hown' hgrow
            refine hK' _ _ R.2 ?_
            clear hK' K'
            refine held_reads (rs := [19]) (fuel := 0) (by kernel_rfl) (fun c d v a w h => by cases d <;> exact h) (by kernel_rfl) R.2 (fun K' hK' => ?_)
            go_simp
            refine calm_assign _ rfl (by rfl) rfl ?_
            go_simp
            refine calm_nil (hK'.out _ ?_)
            clear hK' K'
            refine wpAnyH_done (by kernel_rfl) ?_ _
            go_wp2
            go_roundw
            case rel => exact ⟨k + 1, by omega, by have := HI.out; go_num, by rw [show 16 + (k + 1) = i + 1 from by have := HI.out; omega]; exact R.1, R.2⟩
            case measure => simp [intOf]; omega
        · obtain rfl : k = 48 := by omega
          have hown := HO.out
          rw [HF2.out _ rfl] at hown
          go_wp2
          go_ret
          exact ⟨_, rfl, hown, HB.out⟩
end Go.Proofs.Ytoijeefmddopbaa
