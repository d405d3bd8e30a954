/-
  Layer 22, the law SlotsStays.
-/
import Derived.Test.YtagppgdigabbmaaSlotLaws5
namespace Go.Proofs.Ytagppgdigabbmaa.N
open Go.RowKit
set_option linter.unusedVariables false
set_option maxRecDepth 8192

set_option maxHeartbeats 3200000 in
theorem stays_1 {a3 : Option Addr} {n c : Nat} {z : List Int} (w : World) (f0 ta tb : Int) (ga gb : Bool) (hm : maySl ⟨f0, ⟨ta, ga⟩, ⟨tb, gb⟩⟩ = true) (hr : Row .i64 w a3 n c z) (hn : n ≤ 100) : Calls Try.prog 6 #[.agg #[.int .i64 f0, .int .i64 ta, .bool ga, .int .i64 tb, .bool gb], .int .i64 1, .bool false, .slice a3 n c] w fun e w' => e = .returned (.bool true) ∧ Below w.heap.size w w' := by
  have hmx := hr.hmax
  have hcp := hr.hcap
  unfold maxLen at hmx
  have HCF := fun w => sConfirm_any ⟨f0, ⟨ta, ga⟩, ⟨tb, gb⟩⟩ 1 w
  rw [show confS ⟨f0, ⟨ta, ga⟩, ⟨tb, gb⟩⟩ 1 = ⟨1, ⟨ta, ga⟩, ⟨0, true⟩⟩ from if_pos ⟨hm, by decide⟩, show confC ⟨f0, ⟨ta, ga⟩, ⟨tb, gb⟩⟩ 1 = 0 from if_pos ⟨hm, by decide⟩] at HCF
  have hO : 0 ≤ ta ∧ ta ≤ 7 := (maySl_of hm).2.1
  have HU : Hid (0 ≤ ta ∧ ta ≤ 7) := hO
  clear hm hO
  have hn' : (n : Int) ≤ 100 := by omega
  go_enter Try.func6, Try.ntmps6
  go_wp2_with (first
    | (refine wpList_boxV (Vars.start w) 4 26 (.tmp 0) rfl rfl rfl #[.int .i64 f0, .int .i64 ta, .bool ga, .int .i64 tb, .bool gb] rfl ?_; intro w1 g1 V1)
    | (refine wpList_exec rfl (exec_loadT V1 0 rfl (.tmp 4) rfl rfl Try.underlying26 rfl Try.szSl rfl) ?_))
  refine (HCF _).mono ?_
  rintro e w2 ⟨rfl, q⟩
  have V2 := V1.call q
  clear q V1 HCF
  go_wp2_with (first
    | (refine wpList_allocV V2 9 26 rfl rfl rfl #[.int .i64 0, .int .i64 0, .bool false, .int .i64 0, .bool false] zeroSl ?_; intro w3 g9 V3)
    | (refine wpList_storeV V3 0 rfl _ (.tmp 27) rfl rfl rfl #[.int .i64 1, .int .i64 ta, .bool ga, .int .i64 0, .bool true] rfl rfl Try.szSl rfl rfl (slX_one _ _ _ _ _) ?_; intro w8 V8; clear V3 V2; have d0 : w8.cell? ⟨g9, 1, none⟩ = some (.int .i64 ta) := man_c (V8.at 0 rfl) 1; have d1 : w8.cell? ⟨g9, 2, none⟩ = some (.bool ga) := man_c (V8.at 0 rfl) 2))
  have V3 : Vars w w8 [⟨g9, 26, #[.int .i64 1, .int .i64 ta, .bool ga, .int .i64 0, .bool true]⟩] := V8.del 1
  clear d0 d1 V8
  go_loopw [15, 16] (fun dv iv wr => ∃ (i d : Nat) (u : Int), i ≤ n ∧ d ≤ i ∧ iv = .int .i64 (i : Int) ∧ dv = .int .i64 (d : Int) ∧ (0 ≤ u ∧ u ≤ 7) ∧ (ga = true ∨ (d : Int) + u = ta) ∧ Vars w wr [⟨g9, 26, #[.int .i64 1, .int .i64 u, .bool ga, .int .i64 0, .bool true]⟩]) (fun _ iv _ => n - (RowKit.intOf iv).toNat)
  case atStart => exact ⟨0, 0, ta, Nat.zero_le _, Nat.le_refl _, rfl, rfl, HU.out, .inr (by omega), V3⟩
  case round =>
    clear V3
    obtain ⟨i, d, u, hi, hd, rfl, rfl, hu, hg, V⟩ := hrel
    have HG : Hid (ga = true ∨ (d : Int) + u = ta) := hg
    clear hg
    by_cases hlt : i < n
    · obtain ⟨b, off, rfl, hbs, hcell⟩ := hr.hcell (by omega)
      have HX : Hid (∀ W, Below w.heap.size w W → W.cell? ⟨b, off + i, none⟩ = some (.int .i64 (z[i]?.getD 0))) := fun W Q => by rw [Q.cell hbs]; exact hcell i hlt
      clear hcell
      generalize z[i]?.getD 0 = x at *
      have HT := fun w => sTry_any ⟨1, ⟨u, ga⟩, ⟨0, true⟩⟩ x w
      have HC := stay_try1 (f := 1) (g := ga) (by decide) hu x
      obtain ⟨r, hr0⟩ : ∃ r, r = tryS ⟨1, ⟨u, ga⟩, ⟨0, true⟩⟩ x := ⟨_, rfl⟩
      obtain ⟨cd, hc0⟩ : ∃ c, c = tryC ⟨1, ⟨u, ga⟩, ⟨0, true⟩⟩ x := ⟨_, rfl⟩
      rw [← hr0, ← hc0] at HT HC
      have HC : Hid _ := HC
      clear hr0 hc0
      have hlt' : (i : Int) < (n : Int) := by omega
      go_wp2_with fail
      go_cut [17, 18] from 64 to 73 (fun v17 v18 wq => ∃ g17, v17 = .pointer (some ⟨g17, 0, none⟩) ∧ v18 = .int .i64 cd ∧ Vars w wq [⟨g17, 26, #[.int .i64 r.f, .int .i64 r.a.t, .bool r.a.g, .int .i64 r.b.t, .bool r.b.g]⟩, ⟨g9, 26, #[.int .i64 1, .int .i64 u, .bool ga, .int .i64 0, .bool true]⟩])
      case first =>
        have V1 := V.drew
        refine av_open (fun w' => Vars w w' [⟨g9, 26, #[.int .i64 1, .int .i64 u, .bool ga, .int .i64 0, .bool true]⟩]) (by kernel_rfl) ?_
        refine held_reads (rs := [0, 1, 2, 3, 4]) (fuel := 7) (by kernel_rfl) (fun c d v a w h => by cases d <;> exact h) (by kernel_rfl) V1 (fun K hK => ?_)
        refine calm_do (.agg #[.int .i64 1, .int .i64 u, .bool ga, .int .i64 0, .bool true]) rfl (by rfl) (fun w' hw' => exec_loadT hw' 0 rfl (.tmp 9) rfl rfl Try.underlying26 rfl Try.szSl rfl) ?_
        go_simp
        refine calm_move _ rfl (by rfl) rfl ?_
        go_simp
        refine calm_move _ rfl (by rfl) rfl ?_
        go_simp
        refine calm_do (.pointer (some ⟨b, off + i, none⟩)) rfl (by rfl) (fun w' hw' => ?_) ?_
        · go_simp
        go_simp
        refine calm_do (.int .i64 x) rfl (by rfl) (fun w' hw' => ?_) ?_
        · have dd := HX.out w' hw'.bel
          go_simp
        go_simp
        refine calm_nil (hK.out _ ?_)
        clear hK K
        refine av_op2 (i := 5) (j := 9) (fuel := 6) (by kernel_rfl) rfl (by rfl) rfl (by rfl) (fun K hK => ?_) (fun K hK => ?_)
        · go_simp
          refine (HT _).mono ?_
          rintro e w5 ⟨rfl, q⟩
          have V5 := V1.call q
          refine hK _ _ V5 ?_
          clear hK K q V1 HT
          refine held_reads (rs := [6, 7, 8]) (fuel := 3) (by kernel_rfl) (fun c d v a w h => by cases d <;> exact h) (by kernel_rfl) V5 (fun K hK => ?_)
          refine calm_move _ rfl (by rfl) rfl ?_
          go_simp
          refine calm_do (.agg #[.int .i64 r.f, .int .i64 r.a.t, .bool r.a.g, .int .i64 r.b.t, .bool r.b.g]) rfl (by rfl) (fun w' hw' => ?_) ?_
          · go_simp
          go_simp
          refine calm_do (.int .i64 cd) rfl (by rfl) (fun w' hw' => ?_) ?_
          · go_simp
          go_simp
          refine calm_nil (hK.out _ ?_)
          clear hK K
          refine av_op (i := 9) (fuel := 2) (by kernel_rfl) rfl (by rfl) (fun K hK => ?_)
          refine wp_allocV V5 17 26 rfl rfl #[.int .i64 0, .int .i64 0, .bool false, .int .i64 0, .bool false] zeroSl fun w6 g6 V6 => ?_
          refine hK _ _ (V6.del 0) ?_
          clear hK K V5
          refine av_op (i := 10) (fuel := 1) (by kernel_rfl) rfl (by rfl) (fun K hK => ?_)
          refine wp_storeV V6 0 rfl _ (.tmp 71) rfl rfl #[.int .i64 r.f, .int .i64 r.a.t, .bool r.a.g, .int .i64 r.b.t, .bool r.b.g] rfl rfl Try.szSl rfl rfl (slX_one _ _ _ _ _) (fun w7 V7 => ?_)
          refine hK _ _ (V7.del 0) ?_
          clear hK K V6
          refine av_op (i := 11) (fuel := 0) (by kernel_rfl) rfl (by rfl) (fun K hK => ?_)
          go_simp
          refine hK _ _ (V7.del 0) ?_
          clear hK K
          refine wpAnyH_done (by kernel_rfl) ?_ _
          go_wp2_with fail
          go_meet
          exact ⟨_, rfl, rfl, V7⟩
        · refine wp_allocV V1 17 26 rfl rfl #[.int .i64 0, .int .i64 0, .bool false, .int .i64 0, .bool false] zeroSl fun w6 g6 V6 => ?_
          refine hK _ _ (V6.del 0) ?_
          clear hK K V1
          refine av_op (i := 5) (fuel := 5) (by kernel_rfl) rfl (by rfl) (fun K hK => ?_)
          go_simp
          refine (HT _).mono ?_
          rintro e w5 ⟨rfl, q⟩
          have V5 := V6.call q
          have V5d : Vars w w5 [⟨g9, 26, #[.int .i64 1, .int .i64 u, .bool ga, .int .i64 0, .bool true]⟩] := V5.del 0
          refine hK _ _ V5d ?_
          clear hK K q V6 HT
          refine held_reads (rs := [6, 7, 8]) (fuel := 2) (by kernel_rfl) (fun c d v a w h => by cases d <;> exact h) (by kernel_rfl) V5d (fun K hK => ?_)
          refine calm_move _ rfl (by rfl) rfl ?_
          go_simp
          refine calm_do (.agg #[.int .i64 r.f, .int .i64 r.a.t, .bool r.a.g, .int .i64 r.b.t, .bool r.b.g]) rfl (by rfl) (fun w' hw' => ?_) ?_
          · go_simp
          go_simp
          refine calm_do (.int .i64 cd) rfl (by rfl) (fun w' hw' => ?_) ?_
          · go_simp
          go_simp
          refine calm_nil (hK.out _ ?_)
          clear hK K
          refine av_op (i := 10) (fuel := 1) (by kernel_rfl) rfl (by rfl) (fun K hK => ?_)
          refine wp_storeV V5 0 rfl _ (.tmp 71) rfl rfl #[.int .i64 r.f, .int .i64 r.a.t, .bool r.a.g, .int .i64 r.b.t, .bool r.b.g] rfl rfl Try.szSl rfl rfl (slX_one _ _ _ _ _) (fun w7 V7 => ?_)
          refine hK _ _ (V7.del 0) ?_
          clear hK K V5
          refine av_op (i := 11) (fuel := 0) (by kernel_rfl) rfl (by rfl) (fun K hK => ?_)
          go_simp
          refine hK _ _ (V7.del 0) ?_
          clear hK K
          refine wpAnyH_done (by kernel_rfl) ?_ _
          go_wp2_with fail
          go_meet
          exact ⟨_, rfl, rfl, V7⟩
      obtain ⟨g17, rfl, rfl, V2⟩ := hcut
      have dx := HX.out _ V2.bel
      clear V HT
      rcases HC.out with ⟨hx, hr', hc'⟩ | ⟨hx, hg1, hr', hc'⟩ | ⟨hx, hg1, hu1, hr', hc'⟩ | ⟨hx, hc'⟩
      · clear HC
        subst hx hr' hc'
        replace V2 : Vars w _ [⟨g17, 26, #[.int .i64 1, .int .i64 u, .bool ga, .int .i64 0, .bool true]⟩, ⟨g9, 26, #[.int .i64 1, .int .i64 u, .bool ga, .int .i64 0, .bool true]⟩] := V2
        go_wp2_with (first
          | (refine wpList_exec rfl (exec_loadT V2 0 rfl (.tmp 17) rfl rfl Try.underlying26 rfl Try.szSl rfl) ?_)
          | (refine wpList_storeV V2 1 rfl _ (.tmp 75) rfl rfl rfl #[.int .i64 1, .int .i64 u, .bool ga, .int .i64 0, .bool true] rfl rfl Try.szSl rfl rfl (slX_one _ _ _ _ _) ?_; intro w10 V10; have dx := HX.out _ V10.bel))
        replace V10 : Vars w w10 [⟨g9, 26, #[.int .i64 1, .int .i64 u, .bool ga, .int .i64 0, .bool true]⟩] := V10.del 0
        clear V2 HX
        go_roundw
        case rel => exact ⟨i + 1, d, u, by omega, by omega, by go_num, rfl, hu, HG.out, V10⟩
        case measure => simp [RowKit.intOf]; omega
      · clear HC
        subst hx hr' hc'
        have HG1 : Hid (ga = true) := hg1
        clear hg1
        replace V2 : Vars w _ [⟨g17, 26, #[.int .i64 1, .int .i64 u, .bool ga, .int .i64 0, .bool true]⟩, ⟨g9, 26, #[.int .i64 1, .int .i64 u, .bool ga, .int .i64 0, .bool true]⟩] := V2
        go_wp2_with (first
          | (refine wpList_exec rfl (exec_loadT V2 0 rfl (.tmp 17) rfl rfl Try.underlying26 rfl Try.szSl rfl) ?_)
          | (refine wpList_storeV V2 1 rfl _ (.tmp 75) rfl rfl rfl #[.int .i64 1, .int .i64 u, .bool ga, .int .i64 0, .bool true] rfl rfl Try.szSl rfl rfl (slX_one _ _ _ _ _) ?_; intro w10 V10; have dx := HX.out _ V10.bel))
        replace V10 : Vars w w10 [⟨g9, 26, #[.int .i64 1, .int .i64 u, .bool ga, .int .i64 0, .bool true]⟩] := V10.del 0
        clear V2 HX
        go_roundw
        case rel => exact ⟨i + 1, d + 1, u, by omega, by omega, by go_num, by go_num, hu, .inl HG1.out, V10⟩
        case measure => simp [RowKit.intOf]; omega
      · clear HC
        subst hx hr' hc'
        have HG1 : Hid (((d + 1 : Nat) : Int) + (u - 1) = ta) := by
          rcases HG.out with h | h
          · rw [hg1] at h; cases h
          · show _ = _; omega
        clear hg1
        replace V2 : Vars w _ [⟨g17, 26, #[.int .i64 1, .int .i64 (u - 1), .bool ga, .int .i64 0, .bool true]⟩, ⟨g9, 26, #[.int .i64 1, .int .i64 u, .bool ga, .int .i64 0, .bool true]⟩] := V2
        go_wp2_with (first
          | (refine wpList_exec rfl (exec_loadT V2 0 rfl (.tmp 17) rfl rfl Try.underlying26 rfl Try.szSl rfl) ?_)
          | (refine wpList_storeV V2 1 rfl _ (.tmp 75) rfl rfl rfl #[.int .i64 1, .int .i64 (u - 1), .bool ga, .int .i64 0, .bool true] rfl rfl Try.szSl rfl rfl (slX_one _ _ _ _ _) ?_; intro w10 V10; have dx := HX.out _ V10.bel))
        replace V10 : Vars w w10 [⟨g9, 26, #[.int .i64 1, .int .i64 (u - 1), .bool ga, .int .i64 0, .bool true]⟩] := V10.del 0
        clear V2 HX
        go_roundw
        case rel => exact ⟨i + 1, d + 1, u - 1, by omega, by omega, by go_num, by go_num, by omega, .inr HG1.out, V10⟩
        case measure => simp [RowKit.intOf]; omega
      · have hcz : (cd == 0) = false := by simpa using hc'
        have hxk : (x == 1) = false := by simpa using hx
        have V10 := V2.del 0
        replace V10 : Vars w _ [⟨g9, 26, #[.int .i64 1, .int .i64 u, .bool ga, .int .i64 0, .bool true]⟩] := V10
        clear HC hx hc' V2 HX
        go_wp2_with fail
        go_roundw
        case rel => exact ⟨i + 1, d, u, by omega, by omega, by go_num, rfl, hu, HG.out, V10⟩
        case measure => simp [RowKit.intOf]; omega
    · obtain rfl : i = n := by omega
      have HO := fun w => sOrder_yes (s := ⟨1, ⟨u, ga⟩, ⟨0, true⟩⟩) w (stay_may1 (by decide) hu)
      obtain ⟨L, hL⟩ : ∃ L, L = orderSl ⟨1, ⟨u, ga⟩, ⟨0, true⟩⟩ := ⟨_, rfl⟩
      have HIN : Hid (inS L 1 L.length = true) := inS_all (by rw [hL]; exact stay_ord1 (by decide))
      rw [← hL] at HO
      clear hL hlt hi hr
      go_wp2_with (refine wpList_exec rfl (exec_loadT V 0 rfl (.tmp 9) rfl rfl Try.underlying26 rfl Try.szSl rfl) ?_)
      refine (HO _).mono ?_
      rintro e w11 ⟨v11, rfl, own, q⟩
      obtain ⟨a11, c11, rfl, r11⟩ := row_of_owns own
      have HQ : Hid (Below w.heap.size w w11) := (V.call q).bel
      clear q V own HO
      have hm11 := r11.hmax
      have hc11 := r11.hcap
      unfold maxLen at hm11
      have HLM : Hid (∀ j, j < L.length → inS L 1 (j + 1) = (inS L 1 j || (L[j]?.getD 0 == 1))) := inS_succ L 1
      have HCL : Hid (∀ j, j < L.length → ∃ bb oo, a11 = some ⟨bb, oo, none⟩ ∧ w11.cell? ⟨bb, oo + j, none⟩ = some (.int .i64 (L[j]?.getD 0))) := fun j hj => by
        obtain ⟨bb, oo, h1, _, h2⟩ := r11.hcell (by omega)
        exact ⟨bb, oo, h1, h2 j hj⟩
      have HI0 : Hid (inS L 1 0 = false) := rfl
      clear r11
      generalize L.length = m at *
      go_wp2_with fail
      go_loop [21, 22] (fun bv iv => ∃ j : Nat, j ≤ m ∧ iv = .int .i64 (j : Int) ∧ bv = .bool (inS L 1 j)) (fun _ iv => m - (RowKit.intOf iv).toNat)
      case atStart => exact ⟨0, Nat.zero_le _, rfl, by rw [HI0.out]⟩
      case round =>
        obtain ⟨j, hj, rfl, rfl⟩ := hrel
        by_cases hjm : j < m
        · obtain ⟨bb, oo, rfl, cl⟩ := HCL.out j hjm
          have HS : Hid (inS L 1 (j + 1) = (inS L 1 j || (L[j]?.getD 0 == 1))) := HLM.out j hjm
          generalize L[j]?.getD 0 = y at *
          generalize inS L 1 j = ib at *
          have hjm' : (j : Int) < (m : Int) := by omega
          cases ib
          · go_wp2
            go_round
            case rel => exact ⟨j + 1, by omega, by go_num, by rw [HS.out]; simp⟩
            case measure => simp [RowKit.intOf]; omega
          · go_wp2
            go_round
            case rel => exact ⟨j + 1, by omega, by go_num, by rw [HS.out]; simp⟩
            case measure => simp [RowKit.intOf]; omega
        · obtain rfl : j = m := by omega
          rw [HIN.out]
          go_wp2_with fail
          refine (awake22_any _).mono ?_
          rintro e w12 ⟨rfl, q⟩
          have HW : Hid (Below w.heap.size w w12) := btrans HQ.out q
          clear q HQ HCL HLM HIN
          rcases HG.out with hgt | hgt
          · subst hgt
            go_wp2_with fail
            go_ret
            exact ⟨rfl, HW.out⟩
          · have hle : (d : Int) ≤ ta := by omega
            clear hgt HG hu
            cases ga <;> (go_wp2_with fail; go_ret; exact ⟨rfl, HW.out⟩)
set_option maxHeartbeats 3200000 in
theorem stays_1i {a3 : Option Addr} {n c : Nat} {z : List Int} (w : World) (f0 ta tb : Int) (ga gb : Bool) (hm : maySl ⟨f0, ⟨ta, ga⟩, ⟨tb, gb⟩⟩ = true) (hr : Row .i64 w a3 n c z) (hn : n ≤ 100) : Calls Try.prog 6 #[.agg #[.int .i64 f0, .int .i64 ta, .bool ga, .int .i64 tb, .bool gb], .int .i64 1, .bool true, .slice a3 n c] w fun e w' => e = .returned (.bool true) ∧ Below w.heap.size w w' := by
  have hmx := hr.hmax
  have hcp := hr.hcap
  unfold maxLen at hmx
  have HCF := fun w => sConfirm_any ⟨f0, ⟨ta, ga⟩, ⟨tb, gb⟩⟩ 1 w
  rw [show confS ⟨f0, ⟨ta, ga⟩, ⟨tb, gb⟩⟩ 1 = ⟨1, ⟨ta, ga⟩, ⟨0, true⟩⟩ from if_pos ⟨hm, by decide⟩, show confC ⟨f0, ⟨ta, ga⟩, ⟨tb, gb⟩⟩ 1 = 0 from if_pos ⟨hm, by decide⟩] at HCF
  have hO : 0 ≤ ta ∧ ta ≤ 7 := (maySl_of hm).2.1
  have hmc : maySl ⟨1, ⟨ta, ga⟩, ⟨0, true⟩⟩ = true := stay_may1 (by decide) hO
  have HIN := fun w => sInstall_any ⟨1, ⟨ta, ga⟩, ⟨0, true⟩⟩ 0 w
  rw [show instS ⟨1, ⟨ta, ga⟩, ⟨0, true⟩⟩ 0 = ⟨0, ⟨7, false⟩, ⟨0, true⟩⟩ from if_pos ⟨hmc, by decide, show (0 : Int) ≠ 1 by decide⟩, show instC ⟨1, ⟨ta, ga⟩, ⟨0, true⟩⟩ 0 = 0 from if_pos ⟨hmc, by decide, show (0 : Int) ≠ 1 by decide⟩] at HIN
  have HU : Hid ((0 : Int) ≤ 7 ∧ (7 : Int) ≤ 7) := by show _ ∧ _; decide
  clear hmc hm hO
  have hn' : (n : Int) ≤ 100 := by omega
  go_enter Try.func6, Try.ntmps6
  go_wp2_with (first
    | (refine wpList_boxV (Vars.start w) 4 26 (.tmp 0) rfl rfl rfl #[.int .i64 f0, .int .i64 ta, .bool ga, .int .i64 tb, .bool gb] rfl ?_; intro w1 g1 V1)
    | (refine wpList_exec rfl (exec_loadT V1 0 rfl (.tmp 4) rfl rfl Try.underlying26 rfl Try.szSl rfl) ?_))
  refine (HCF _).mono ?_
  rintro e w2 ⟨rfl, q⟩
  have V2 := V1.call q
  clear q V1 HCF
  go_wp2_with (first
    | (refine wpList_allocV V2 9 26 rfl rfl rfl #[.int .i64 0, .int .i64 0, .bool false, .int .i64 0, .bool false] zeroSl ?_; intro w3 g9 V3)
    | (refine wpList_storeV V3 0 rfl _ (.tmp 27) rfl rfl rfl #[.int .i64 1, .int .i64 ta, .bool ga, .int .i64 0, .bool true] rfl rfl Try.szSl rfl rfl (slX_one _ _ _ _ _) ?_; intro w4 V4; clear V3 V2)
    | (refine wpList_exec rfl (exec_loadT V4 0 rfl (.tmp 9) rfl rfl Try.underlying26 rfl Try.szSl rfl) ?_))
  refine (HIN _).mono ?_
  rintro e w5 ⟨rfl, q⟩
  have V5 := V4.call q
  clear q V4 HIN
  go_wp2_with (first
    | (refine wpList_allocV V5 11 26 rfl rfl rfl #[.int .i64 0, .int .i64 0, .bool false, .int .i64 0, .bool false] zeroSl ?_; intro w6 g11 V6)
    | (refine wpList_storeV V6 0 rfl _ (.tmp 41) rfl rfl rfl #[.int .i64 0, .int .i64 7, .bool false, .int .i64 0, .bool true] rfl rfl Try.szSl rfl rfl (slX_one _ _ _ _ _) ?_; intro w7 V7; clear V6 V5)
    | (refine wpList_exec rfl (exec_loadT V7 0 rfl (.tmp 11) rfl rfl Try.underlying26 rfl Try.szSl rfl) ?_)
    | (refine wpList_storeV V7 1 rfl _ (.tmp 45) rfl rfl rfl #[.int .i64 0, .int .i64 7, .bool false, .int .i64 0, .bool true] rfl rfl Try.szSl rfl rfl (slX_one _ _ _ _ _) ?_; intro w8 V8; clear V7; have d0 : w8.cell? ⟨g9, 1, none⟩ = some (.int .i64 7) := man_c (V8.at 1 rfl) 1; have d1 : w8.cell? ⟨g9, 2, none⟩ = some (.bool false) := man_c (V8.at 1 rfl) 2))
  have V3 : Vars w w8 [⟨g9, 26, #[.int .i64 0, .int .i64 7, .bool false, .int .i64 0, .bool true]⟩] := (V8.del 0).del 1
  clear d0 d1 V8
  go_loopw [15, 16] (fun dv iv wr => ∃ (i d : Nat) (u : Int), i ≤ n ∧ d ≤ i ∧ iv = .int .i64 (i : Int) ∧ dv = .int .i64 (d : Int) ∧ (0 ≤ u ∧ u ≤ 7) ∧ (false = true ∨ (d : Int) + u = 7) ∧ Vars w wr [⟨g9, 26, #[.int .i64 0, .int .i64 u, .bool false, .int .i64 0, .bool true]⟩]) (fun _ iv _ => n - (RowKit.intOf iv).toNat)
  case atStart => exact ⟨0, 0, 7, Nat.zero_le _, Nat.le_refl _, rfl, rfl, HU.out, .inr (by omega), V3⟩
  case round =>
    clear V3
    obtain ⟨i, d, u, hi, hd, rfl, rfl, hu, hg, V⟩ := hrel
    have HG : Hid (false = true ∨ (d : Int) + u = 7) := hg
    clear hg
    by_cases hlt : i < n
    · obtain ⟨b, off, rfl, hbs, hcell⟩ := hr.hcell (by omega)
      have HX : Hid (∀ W, Below w.heap.size w W → W.cell? ⟨b, off + i, none⟩ = some (.int .i64 (z[i]?.getD 0))) := fun W Q => by rw [Q.cell hbs]; exact hcell i hlt
      clear hcell
      generalize z[i]?.getD 0 = x at *
      have HT := fun w => sTry_any ⟨0, ⟨u, false⟩, ⟨0, true⟩⟩ x w
      have HC := stay_try1 (f := 0) (g := false) (by decide) hu x
      obtain ⟨r, hr0⟩ : ∃ r, r = tryS ⟨0, ⟨u, false⟩, ⟨0, true⟩⟩ x := ⟨_, rfl⟩
      obtain ⟨cd, hc0⟩ : ∃ c, c = tryC ⟨0, ⟨u, false⟩, ⟨0, true⟩⟩ x := ⟨_, rfl⟩
      rw [← hr0, ← hc0] at HT HC
      have HC : Hid _ := HC
      clear hr0 hc0
      have hlt' : (i : Int) < (n : Int) := by omega
      go_wp2_with fail
      go_cut [17, 18] from 64 to 73 (fun v17 v18 wq => ∃ g17, v17 = .pointer (some ⟨g17, 0, none⟩) ∧ v18 = .int .i64 cd ∧ Vars w wq [⟨g17, 26, #[.int .i64 r.f, .int .i64 r.a.t, .bool r.a.g, .int .i64 r.b.t, .bool r.b.g]⟩, ⟨g9, 26, #[.int .i64 0, .int .i64 u, .bool false, .int .i64 0, .bool true]⟩])
      case first =>
        have V1 := V.drew
        refine av_open (fun w' => Vars w w' [⟨g9, 26, #[.int .i64 0, .int .i64 u, .bool false, .int .i64 0, .bool true]⟩]) (by kernel_rfl) ?_
        refine held_reads (rs := [0, 1, 2, 3, 4]) (fuel := 7) (by kernel_rfl) (fun c d v a w h => by cases d <;> exact h) (by kernel_rfl) V1 (fun K hK => ?_)
        refine calm_do (.agg #[.int .i64 0, .int .i64 u, .bool false, .int .i64 0, .bool true]) rfl (by rfl) (fun w' hw' => exec_loadT hw' 0 rfl (.tmp 9) rfl rfl Try.underlying26 rfl Try.szSl rfl) ?_
        go_simp
        refine calm_move _ rfl (by rfl) rfl ?_
        go_simp
        refine calm_move _ rfl (by rfl) rfl ?_
        go_simp
        refine calm_do (.pointer (some ⟨b, off + i, none⟩)) rfl (by rfl) (fun w' hw' => ?_) ?_
        · go_simp
        go_simp
        refine calm_do (.int .i64 x) rfl (by rfl) (fun w' hw' => ?_) ?_
        · have dd := HX.out w' hw'.bel
          go_simp
        go_simp
        refine calm_nil (hK.out _ ?_)
        clear hK K
        refine av_op2 (i := 5) (j := 9) (fuel := 6) (by kernel_rfl) rfl (by rfl) rfl (by rfl) (fun K hK => ?_) (fun K hK => ?_)
        · go_simp
          refine (HT _).mono ?_
          rintro e w5 ⟨rfl, q⟩
          have V5 := V1.call q
          refine hK _ _ V5 ?_
          clear hK K q V1 HT
          refine held_reads (rs := [6, 7, 8]) (fuel := 3) (by kernel_rfl) (fun c d v a w h => by cases d <;> exact h) (by kernel_rfl) V5 (fun K hK => ?_)
          refine calm_move _ rfl (by rfl) rfl ?_
          go_simp
          refine calm_do (.agg #[.int .i64 r.f, .int .i64 r.a.t, .bool r.a.g, .int .i64 r.b.t, .bool r.b.g]) rfl (by rfl) (fun w' hw' => ?_) ?_
          · go_simp
          go_simp
          refine calm_do (.int .i64 cd) rfl (by rfl) (fun w' hw' => ?_) ?_
          · go_simp
          go_simp
          refine calm_nil (hK.out _ ?_)
          clear hK K
          refine av_op (i := 9) (fuel := 2) (by kernel_rfl) rfl (by rfl) (fun K hK => ?_)
          refine wp_allocV V5 17 26 rfl rfl #[.int .i64 0, .int .i64 0, .bool false, .int .i64 0, .bool false] zeroSl fun w6 g6 V6 => ?_
          refine hK _ _ (V6.del 0) ?_
          clear hK K V5
          refine av_op (i := 10) (fuel := 1) (by kernel_rfl) rfl (by rfl) (fun K hK => ?_)
          refine wp_storeV V6 0 rfl _ (.tmp 71) rfl rfl #[.int .i64 r.f, .int .i64 r.a.t, .bool r.a.g, .int .i64 r.b.t, .bool r.b.g] rfl rfl Try.szSl rfl rfl (slX_one _ _ _ _ _) (fun w7 V7 => ?_)
          refine hK _ _ (V7.del 0) ?_
          clear hK K V6
          refine av_op (i := 11) (fuel := 0) (by kernel_rfl) rfl (by rfl) (fun K hK => ?_)
          go_simp
          refine hK _ _ (V7.del 0) ?_
          clear hK K
          refine wpAnyH_done (by kernel_rfl) ?_ _
          go_wp2_with fail
          go_meet
          exact ⟨_, rfl, rfl, V7⟩
        · refine wp_allocV V1 17 26 rfl rfl #[.int .i64 0, .int .i64 0, .bool false, .int .i64 0, .bool false] zeroSl fun w6 g6 V6 => ?_
          refine hK _ _ (V6.del 0) ?_
          clear hK K V1
          refine av_op (i := 5) (fuel := 5) (by kernel_rfl) rfl (by rfl) (fun K hK => ?_)
          go_simp
          refine (HT _).mono ?_
          rintro e w5 ⟨rfl, q⟩
          have V5 := V6.call q
          have V5d : Vars w w5 [⟨g9, 26, #[.int .i64 0, .int .i64 u, .bool false, .int .i64 0, .bool true]⟩] := V5.del 0
          refine hK _ _ V5d ?_
          clear hK K q V6 HT
          refine held_reads (rs := [6, 7, 8]) (fuel := 2) (by kernel_rfl) (fun c d v a w h => by cases d <;> exact h) (by kernel_rfl) V5d (fun K hK => ?_)
          refine calm_move _ rfl (by rfl) rfl ?_
          go_simp
          refine calm_do (.agg #[.int .i64 r.f, .int .i64 r.a.t, .bool r.a.g, .int .i64 r.b.t, .bool r.b.g]) rfl (by rfl) (fun w' hw' => ?_) ?_
          · go_simp
          go_simp
          refine calm_do (.int .i64 cd) rfl (by rfl) (fun w' hw' => ?_) ?_
          · go_simp
          go_simp
          refine calm_nil (hK.out _ ?_)
          clear hK K
          refine av_op (i := 10) (fuel := 1) (by kernel_rfl) rfl (by rfl) (fun K hK => ?_)
          refine wp_storeV V5 0 rfl _ (.tmp 71) rfl rfl #[.int .i64 r.f, .int .i64 r.a.t, .bool r.a.g, .int .i64 r.b.t, .bool r.b.g] rfl rfl Try.szSl rfl rfl (slX_one _ _ _ _ _) (fun w7 V7 => ?_)
          refine hK _ _ (V7.del 0) ?_
          clear hK K V5
          refine av_op (i := 11) (fuel := 0) (by kernel_rfl) rfl (by rfl) (fun K hK => ?_)
          go_simp
          refine hK _ _ (V7.del 0) ?_
          clear hK K
          refine wpAnyH_done (by kernel_rfl) ?_ _
          go_wp2_with fail
          go_meet
          exact ⟨_, rfl, rfl, V7⟩
      obtain ⟨g17, rfl, rfl, V2⟩ := hcut
      have dx := HX.out _ V2.bel
      clear V HT
      rcases HC.out with ⟨hx, hr', hc'⟩ | ⟨hx, hg1, hr', hc'⟩ | ⟨hx, hg1, hu1, hr', hc'⟩ | ⟨hx, hc'⟩
      · clear HC
        subst hx hr' hc'
        replace V2 : Vars w _ [⟨g17, 26, #[.int .i64 0, .int .i64 u, .bool false, .int .i64 0, .bool true]⟩, ⟨g9, 26, #[.int .i64 0, .int .i64 u, .bool false, .int .i64 0, .bool true]⟩] := V2
        go_wp2_with (first
          | (refine wpList_exec rfl (exec_loadT V2 0 rfl (.tmp 17) rfl rfl Try.underlying26 rfl Try.szSl rfl) ?_)
          | (refine wpList_storeV V2 1 rfl _ (.tmp 75) rfl rfl rfl #[.int .i64 0, .int .i64 u, .bool false, .int .i64 0, .bool true] rfl rfl Try.szSl rfl rfl (slX_one _ _ _ _ _) ?_; intro w10 V10; have dx := HX.out _ V10.bel))
        replace V10 : Vars w w10 [⟨g9, 26, #[.int .i64 0, .int .i64 u, .bool false, .int .i64 0, .bool true]⟩] := V10.del 0
        clear V2 HX
        go_roundw
        case rel => exact ⟨i + 1, d, u, by omega, by omega, by go_num, rfl, hu, HG.out, V10⟩
        case measure => simp [RowKit.intOf]; omega
      · clear HC
        subst hx hr' hc'
        have HG1 : Hid (false = true) := hg1
        clear hg1
        replace V2 : Vars w _ [⟨g17, 26, #[.int .i64 0, .int .i64 u, .bool false, .int .i64 0, .bool true]⟩, ⟨g9, 26, #[.int .i64 0, .int .i64 u, .bool false, .int .i64 0, .bool true]⟩] := V2
        go_wp2_with (first
          | (refine wpList_exec rfl (exec_loadT V2 0 rfl (.tmp 17) rfl rfl Try.underlying26 rfl Try.szSl rfl) ?_)
          | (refine wpList_storeV V2 1 rfl _ (.tmp 75) rfl rfl rfl #[.int .i64 0, .int .i64 u, .bool false, .int .i64 0, .bool true] rfl rfl Try.szSl rfl rfl (slX_one _ _ _ _ _) ?_; intro w10 V10; have dx := HX.out _ V10.bel))
        replace V10 : Vars w w10 [⟨g9, 26, #[.int .i64 0, .int .i64 u, .bool false, .int .i64 0, .bool true]⟩] := V10.del 0
        clear V2 HX
        go_roundw
        case rel => exact ⟨i + 1, d + 1, u, by omega, by omega, by go_num, by go_num, hu, .inl HG1.out, V10⟩
        case measure => simp [RowKit.intOf]; omega
      · clear HC
        subst hx hr' hc'
        have HG1 : Hid (((d + 1 : Nat) : Int) + (u - 1) = 7) := by
          rcases HG.out with h | h
          · cases h
          · show _ = _; omega
        clear hg1
        replace V2 : Vars w _ [⟨g17, 26, #[.int .i64 0, .int .i64 (u - 1), .bool false, .int .i64 0, .bool true]⟩, ⟨g9, 26, #[.int .i64 0, .int .i64 u, .bool false, .int .i64 0, .bool true]⟩] := V2
        go_wp2_with (first
          | (refine wpList_exec rfl (exec_loadT V2 0 rfl (.tmp 17) rfl rfl Try.underlying26 rfl Try.szSl rfl) ?_)
          | (refine wpList_storeV V2 1 rfl _ (.tmp 75) rfl rfl rfl #[.int .i64 0, .int .i64 (u - 1), .bool false, .int .i64 0, .bool true] rfl rfl Try.szSl rfl rfl (slX_one _ _ _ _ _) ?_; intro w10 V10; have dx := HX.out _ V10.bel))
        replace V10 : Vars w w10 [⟨g9, 26, #[.int .i64 0, .int .i64 (u - 1), .bool false, .int .i64 0, .bool true]⟩] := V10.del 0
        clear V2 HX
        go_roundw
        case rel => exact ⟨i + 1, d + 1, u - 1, by omega, by omega, by go_num, by go_num, by omega, .inr HG1.out, V10⟩
        case measure => simp [RowKit.intOf]; omega
      · have hcz : (cd == 0) = false := by simpa using hc'
        have hxk : (x == 1) = false := by simpa using hx
        have V10 := V2.del 0
        replace V10 : Vars w _ [⟨g9, 26, #[.int .i64 0, .int .i64 u, .bool false, .int .i64 0, .bool true]⟩] := V10
        clear HC hx hc' V2 HX
        go_wp2_with fail
        go_roundw
        case rel => exact ⟨i + 1, d, u, by omega, by omega, by go_num, rfl, hu, HG.out, V10⟩
        case measure => simp [RowKit.intOf]; omega
    · obtain rfl : i = n := by omega
      have HO := fun w => sOrder_yes (s := ⟨0, ⟨u, false⟩, ⟨0, true⟩⟩) w (stay_may1 (by decide) hu)
      obtain ⟨L, hL⟩ : ∃ L, L = orderSl ⟨0, ⟨u, false⟩, ⟨0, true⟩⟩ := ⟨_, rfl⟩
      have HIN : Hid (inS L 1 L.length = true) := inS_all (by rw [hL]; exact stay_ord1 (by decide))
      rw [← hL] at HO
      clear hL hlt hi hr
      go_wp2_with (refine wpList_exec rfl (exec_loadT V 0 rfl (.tmp 9) rfl rfl Try.underlying26 rfl Try.szSl rfl) ?_)
      refine (HO _).mono ?_
      rintro e w11 ⟨v11, rfl, own, q⟩
      obtain ⟨a11, c11, rfl, r11⟩ := row_of_owns own
      have HQ : Hid (Below w.heap.size w w11) := (V.call q).bel
      clear q V own HO
      have hm11 := r11.hmax
      have hc11 := r11.hcap
      unfold maxLen at hm11
      have HLM : Hid (∀ j, j < L.length → inS L 1 (j + 1) = (inS L 1 j || (L[j]?.getD 0 == 1))) := inS_succ L 1
      have HCL : Hid (∀ j, j < L.length → ∃ bb oo, a11 = some ⟨bb, oo, none⟩ ∧ w11.cell? ⟨bb, oo + j, none⟩ = some (.int .i64 (L[j]?.getD 0))) := fun j hj => by
        obtain ⟨bb, oo, h1, _, h2⟩ := r11.hcell (by omega)
        exact ⟨bb, oo, h1, h2 j hj⟩
      have HI0 : Hid (inS L 1 0 = false) := rfl
      clear r11
      generalize L.length = m at *
      go_wp2_with fail
      go_loop [21, 22] (fun bv iv => ∃ j : Nat, j ≤ m ∧ iv = .int .i64 (j : Int) ∧ bv = .bool (inS L 1 j)) (fun _ iv => m - (RowKit.intOf iv).toNat)
      case atStart => exact ⟨0, Nat.zero_le _, rfl, by rw [HI0.out]⟩
      case round =>
        obtain ⟨j, hj, rfl, rfl⟩ := hrel
        by_cases hjm : j < m
        · obtain ⟨bb, oo, rfl, cl⟩ := HCL.out j hjm
          have HS : Hid (inS L 1 (j + 1) = (inS L 1 j || (L[j]?.getD 0 == 1))) := HLM.out j hjm
          generalize L[j]?.getD 0 = y at *
          generalize inS L 1 j = ib at *
          have hjm' : (j : Int) < (m : Int) := by omega
          cases ib
          · go_wp2
            go_round
            case rel => exact ⟨j + 1, by omega, by go_num, by rw [HS.out]; simp⟩
            case measure => simp [RowKit.intOf]; omega
          · go_wp2
            go_round
            case rel => exact ⟨j + 1, by omega, by go_num, by rw [HS.out]; simp⟩
            case measure => simp [RowKit.intOf]; omega
        · obtain rfl : j = m := by omega
          rw [HIN.out]
          go_wp2_with fail
          refine (awake22_any _).mono ?_
          rintro e w12 ⟨rfl, q⟩
          have HW : Hid (Below w.heap.size w w12) := btrans HQ.out q
          clear q HQ HCL HLM HIN
          rcases HG.out with hgt | hgt
          · cases hgt
          · have hle : (d : Int) ≤ 7 := by omega
            clear hgt HG hu
            (go_wp2_with fail; go_ret; exact ⟨rfl, HW.out⟩)
set_option maxHeartbeats 1600000 in
theorem walk_slotsStays {a3 : Option Addr} {n c : Nat} {z : List Int} (w : World) (s : Sl) (k : Int) (install : Bool) (hr : Row .i64 w a3 n c z) : Calls Try.prog 6 #[.agg #[.int .i64 s.f, .int .i64 s.a.t, .bool s.a.g, .int .i64 s.b.t, .bool s.b.g], .int .i64 k, .bool install, .slice a3 n c] w fun e w' => e = .returned (.bool true) ∧ Below w.heap.size w w' := by
  have hmx := hr.hmax
  have hcp := hr.hcap
  unfold maxLen at hmx
  by_cases ho : maySl s = true ∧ is01 k = true
  · by_cases hn : n ≤ 100
    · obtain ⟨f0, ⟨ta, ga⟩, ⟨tb, gb⟩⟩ := s
      rcases is01_of ho.2 with rfl | rfl <;> cases install
      · exact stays_0 w f0 ta tb ga gb ho.1 hr hn
      · exact stays_0i w f0 ta tb ga gb ho.1 hr hn
      · exact stays_1 w f0 ta tb ga gb ho.1 hr hn
      · exact stays_1i w f0 ta tb ga gb ho.1 hr hn
    · have HCF := fun w => sConfirm_any s k w
      rw [show confC s k = 0 from if_pos ho] at HCF
      generalize confS s k = r at *
      have hn' : 100 < (n : Int) := by omega
      clear hn ho hr
      go_enter Try.func6, Try.ntmps6
      go_wp2_with (first
        | (refine wpList_boxV (Vars.start w) 4 26 (.tmp 0) rfl rfl rfl #[.int .i64 s.f, .int .i64 s.a.t, .bool s.a.g, .int .i64 s.b.t, .bool s.b.g] rfl ?_; intro w1 g1 V1)
        | (refine wpList_exec rfl (exec_loadT V1 0 rfl (.tmp 4) rfl rfl Try.underlying26 rfl Try.szSl rfl) ?_))
      refine (HCF _).mono ?_
      rintro e w2 ⟨rfl, q⟩
      have V2 := V1.call q
      clear q V1 HCF
      go_wp2_with (first
        | (refine wpList_allocV V2 9 26 rfl rfl rfl #[.int .i64 0, .int .i64 0, .bool false, .int .i64 0, .bool false] zeroSl ?_; intro w3 g9 V3)
        | (refine wpList_storeV V3 0 rfl _ (.tmp 27) rfl rfl rfl #[.int .i64 r.f, .int .i64 r.a.t, .bool r.a.g, .int .i64 r.b.t, .bool r.b.g] rfl rfl Try.szSl rfl rfl (slX_one _ _ _ _ _) ?_; intro w8 V8; clear V3 V2))
      go_ret
      exact ⟨rfl, V8.bel⟩
  · have HCF := fun w => sConfirm_any s k w
    rw [show confC s k = 1 from if_neg ho, show confS s k = sl0 from if_neg ho] at HCF
    clear ho hr
    go_enter Try.func6, Try.ntmps6
    go_wp2_with (first
      | (refine wpList_boxV (Vars.start w) 4 26 (.tmp 0) rfl rfl rfl #[.int .i64 s.f, .int .i64 s.a.t, .bool s.a.g, .int .i64 s.b.t, .bool s.b.g] rfl ?_; intro w1 g1 V1)
      | (refine wpList_exec rfl (exec_loadT V1 0 rfl (.tmp 4) rfl rfl Try.underlying26 rfl Try.szSl rfl) ?_))
    refine (HCF _).mono ?_
    rintro e w2 ⟨rfl, q⟩
    have V2 := V1.call q
    clear q V1 HCF
    go_wp2_with (first
      | (refine wpList_allocV V2 9 26 rfl rfl rfl #[.int .i64 0, .int .i64 0, .bool false, .int .i64 0, .bool false] zeroSl ?_; intro w3 g9 V3)
      | (refine wpList_storeV V3 0 rfl _ (.tmp 27) rfl rfl rfl #[.int .i64 0, .int .i64 0, .bool false, .int .i64 0, .bool false] rfl rfl Try.szSl rfl rfl (slX_one _ _ _ _ _) ?_; intro w8 V8; clear V3 V2))
    refine (awake22_any _).mono ?_
    rintro e w9 ⟨rfl, q⟩
    have HQ : Hid (Below w.heap.size w w9) := (V8.call q).bel
    clear q V8
    go_wp2_with fail
    go_ret
    exact ⟨rfl, HQ.out⟩
end Go.Proofs.Ytagppgdigabbmaa.N
