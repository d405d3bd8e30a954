/-
  The code of layer 22 (slots): Try.
-/
import Derived.Test.YtagppgdigabbmaaSlotCode5
namespace Go.Proofs.Ytagppgdigabbmaa.N
open Go.RowKit
set_option linter.unusedVariables false
set_option maxRecDepth 8192

theorem Try.szSo : (Try.prog.info? 23).map (·.size) = some 2 := by kernel_rfl
theorem zeroSo (w : World) : (zeroValue 23).run Try.prog w = .ok (.agg #[.int .i64 0, .bool false]) w := by kernel_rfl
theorem slO_one (t : Int) (g : Bool) : (#[.int .i64 t, .bool g] : Array Value).all (·.oneCell') = true := by simp [Value.oneCell']
set_option maxHeartbeats 3200000 in
theorem sTry_any (s : Sl) (i : Int) (w : World) : Calls Try.prog 11 #[.agg #[.int .i64 s.f, .int .i64 s.a.t, .bool s.a.g, .int .i64 s.b.t, .bool s.b.g], .int .i64 i] w fun e w' => e = .returned (.tuple #[.agg #[.int .i64 (tryS s i).f, .int .i64 (tryS s i).a.t, .bool (tryS s i).a.g, .int .i64 (tryS s i).b.t, .bool (tryS s i).b.g], .int .i64 (tryC s i)]) ∧ Below w.heap.size w w' := by
  by_cases ho : maySl s = true ∧ is01 i = true
  · rcases is01_of ho.2 with rfl | rfl
    · obtain ⟨o, ho'⟩ : ∃ o, o = s.a := ⟨_, rfl⟩
      have h2 : s.two 0 = o := ho'.symm
      have HV : Hid (0 ≤ o.t ∧ o.t ≤ 7) := by rw [ho']; exact (maySl_of ho.1).2.1
      have HW := fun w => sWith_any s 0 ⟨o.t - 1, false⟩ ho.2 w
      have HS : Hid (tryS s 0 = if triedSo o then (if o.g then s else s.put 0 ⟨o.t - 1, false⟩) else sl0) := by
        show _ = _
        rw [tryS, h2]
        by_cases ht : triedSo o = true
        · rw [if_pos ⟨ho.1, ho.2, ht⟩, if_pos ht]
        · rw [if_neg (fun h => ht h.2.2), if_neg ht]
      have HE : Hid (tryC s 0 = if triedSo o then 0 else 240) := by show _ = _; rw [tryC, h2, if_pos ho]
      obtain ⟨r, hr⟩ : ∃ r, r = s.put 0 ⟨o.t - 1, false⟩ := ⟨_, rfl⟩
      have HR : Hid (r = ⟨s.f, r.a, r.b⟩) := by subst hr; rfl
      rw [← hr] at HW HS
      have HM := ho.1
      have HI := ho.2
      have HO : Hid (o = s.a) := ho'
      clear hr h2 ho ho'
      go_enter Try.func11, Try.ntmps11
      go_wp2_with fail
      refine (sCheck_any s _).mono ?_
      rintro e w1 ⟨rfl, q1⟩
      have V1 := two_slots w s q1
      clear q1
      rw [cSl_yes HM]
      obtain ⟨c0, c1, c2, c3, c4⟩ := sbox_of (V1.at 1 rfl)
      rw [← HO.out] at c1 c2
      go_wp2_with fail
      refine (isSlot_any 0 _).mono ?_
      rintro e w2 ⟨rfl, rfl⟩
      rw [HI]
      go_wp2_with (first
        | (refine wpList_allocV V1 6 23 rfl rfl rfl #[.int .i64 0, .bool false] zeroSo ?_; intro w3 g3 V3)
        | (refine wpList_storeV V3 0 rfl _ (.tmp 19) rfl rfl rfl #[.int .i64 o.t, .bool o.g] rfl rfl Try.szSo rfl rfl (slO_one _ _) ?_; intro w4 V4; have d0 : w4.cell? ⟨g3, 0, none⟩ = some (.int .i64 o.t) := man_c (V4.at 0 rfl) 0; have d1 : w4.cell? ⟨g3, 1, none⟩ = some (.bool o.g) := man_c (V4.at 0 rfl) 1))
      refine (mayTry_any o _).mono ?_
      rintro e w5 ⟨rfl, q5⟩
      replace V4 : Vars w w4 [⟨g3, 23, #[.int .i64 o.t, .bool o.g]⟩, ⟨w.heap.size + 1, 26, #[.int .i64 0, .int .i64 0, .bool false, .int .i64 0, .bool false]⟩, ⟨w.heap.size, 26, #[.int .i64 s.f, .int .i64 s.a.t, .bool s.a.g, .int .i64 s.b.t, .bool s.b.g]⟩] := V4
      have V5 := V4.call q5
      clear q5 V1 V3 V4 c0 c1 c2 c3 c4 d0 d1
      cases ht : triedSo o
      · rw [ht] at HS HE
        go_wp2_with (refine wpList_storeV V5 1 rfl _ (.tmp 23) rfl rfl rfl #[.int .i64 0, .int .i64 0, .bool false, .int .i64 0, .bool false] rfl rfl Try.szSl rfl rfl (slX_one _ _ _ _ _) ?_; intro w6 V6)
        exact bodyPost_ret (resT2 rfl _ V6 1 rfl rfl Try.underlying26 Try.szSl rfl) rfl ⟨by rw [HS.out, HE.out]; rfl, V6.bel⟩
      · rw [ht] at HS HE
        have d0 : w5.cell? ⟨g3, 0, none⟩ = some (.int .i64 o.t) := man_c (V5.at 0 rfl) 0
        have d1 : w5.cell? ⟨g3, 1, none⟩ = some (.bool o.g) := man_c (V5.at 0 rfl) 1
        cases hg : o.g
        · rw [hg] at d1 HS V5
          have hv := HV.out
          have f0 : w5.frozen? ⟨g3, 0, none⟩ = false := arr_unfrozen (V5.at 0 rfl) 0
          have V6 := V5.put 0 rfl 0 (.int .i64 (o.t - 1))
          replace V6 : Vars w (w5.setCell ⟨g3, 0, none⟩ (.int .i64 (o.t - 1))) [⟨g3, 23, #[.int .i64 (o.t - 1), .bool false]⟩, ⟨w.heap.size + 1, 26, #[.int .i64 0, .int .i64 0, .bool false, .int .i64 0, .bool false]⟩, ⟨w.heap.size, 26, #[.int .i64 s.f, .int .i64 s.a.t, .bool s.a.g, .int .i64 s.b.t, .bool s.b.g]⟩] := V6
          have HV6 : Hid (Vars w (w5.setCell ⟨g3, 0, none⟩ (.int .i64 (o.t - 1))) [⟨g3, 23, #[.int .i64 (o.t - 1), .bool false]⟩, ⟨w.heap.size + 1, 26, #[.int .i64 0, .int .i64 0, .bool false, .int .i64 0, .bool false]⟩, ⟨w.heap.size, 26, #[.int .i64 s.f, .int .i64 s.a.t, .bool s.a.g, .int .i64 s.b.t, .bool s.b.g]⟩]) := V6
          clear V6
          go_wp2_with fail
          have V6 := HV6.out
          clear V5 d0 d1 f0 HV6
          generalize w5.setCell ⟨g3, 0, none⟩ (.int .i64 (o.t - 1)) = w6 at *
          refine av_open (fun w' => Vars w w' [⟨g3, 23, #[.int .i64 (o.t - 1), .bool false]⟩, ⟨w.heap.size, 26, #[.int .i64 s.f, .int .i64 s.a.t, .bool s.a.g, .int .i64 s.b.t, .bool s.b.g]⟩]) (by kernel_rfl) ?_
          replace V6 := V6.drew
          refine held_reads (rs := [0, 1, 2, 3, 4, 5]) (fuel := 4) (by kernel_rfl) (fun c d v a w h => by cases d <;> exact h) (by kernel_rfl) (V6.del 1) (fun K hK => ?_)
          refine calm_do (.pointer (some ⟨w.heap.size, 0, none⟩)) rfl (by rfl) (fun w' hw' => ?_) ?_
          · go_simp
          go_simp
          refine calm_do (.int .i64 s.f) rfl (by rfl) (fun w' hw' => ?_) ?_
          · have c0 := (sbox_of (hw'.at 1 rfl)).c0
            go_simp
          go_simp
          refine calm_do (.pointer (some ⟨w.heap.size, 1, none⟩)) rfl (by rfl) (fun w' hw' => ?_) ?_
          · go_simp
          go_simp
          refine calm_do (.agg #[.int .i64 s.a.t, .bool s.a.g, .int .i64 s.b.t, .bool s.b.g]) rfl (by rfl) (fun w' hw' => ?_) ?_
          · obtain ⟨c0, c1, c2, c3, c4⟩ := sbox_of (hw'.at 1 rfl)
            go_simp
          go_simp
          refine calm_move _ rfl (by rfl) rfl ?_
          go_simp
          refine calm_do (.agg #[.int .i64 (o.t - 1), .bool false]) rfl (by rfl) (fun w' hw' => exec_loadT hw' 0 rfl _ rfl rfl Try.underlying23 rfl Try.szSo rfl) ?_
          go_simp
          refine calm_nil (hK.out _ ?_)
          clear hK K
          refine av_op (i := 6) (fuel := 3) (by kernel_rfl) rfl (by rfl) (fun K hK => ?_)
          go_simp
          refine (HW _).mono ?_
          rintro e w7 ⟨rfl, q7⟩
          have V7 := V6.call q7
          refine hK _ _ (V7.del 1) ?_
          clear hK K q7 V6
          refine held_reads (rs := [7]) (fuel := 2) (by kernel_rfl) (fun c d v a w h => by cases d <;> exact h) (by kernel_rfl) (V7.del 1) (fun K hK => ?_)
          refine calm_do (.agg #[.int .i64 s.f, .int .i64 r.a.t, .bool r.a.g, .int .i64 r.b.t, .bool r.b.g]) rfl (by rfl) (fun w' hw' => ?_) ?_
          · go_simp
          go_simp
          refine calm_nil (hK.out _ ?_)
          clear hK K
          refine av_op (i := 8) (fuel := 1) (by kernel_rfl) rfl (by rfl) (fun K hK => ?_)
          refine wp_storeV V7 1 rfl _ (.tmp 38) rfl rfl #[.int .i64 s.f, .int .i64 r.a.t, .bool r.a.g, .int .i64 r.b.t, .bool r.b.g] rfl rfl Try.szSl rfl rfl (slX_one _ _ _ _ _) (fun w8 V8 => ?_)
          refine hK _ _ (V8.del 1) ?_
          clear hK K V7
          refine av_op (i := 9) (fuel := 0) (by kernel_rfl) rfl (by rfl) (fun K hK => ?_)
          go_simp
          refine hK _ _ (V8.del 1) ?_
          clear hK K
          refine wpAnyH_done (by kernel_rfl) ?_ _
          go_wp2_with fail
          exact bodyPost_ret (resT2 rfl _ V8 1 rfl rfl Try.underlying26 Try.szSl rfl) rfl ⟨by rw [HS.out, HE.out, if_pos trivial, if_pos trivial, if_neg (by simp), HR.out]; rfl, V8.bel⟩
        · rw [hg] at d1 HS
          obtain ⟨c0, c1, c2, c3, c4⟩ := sbox_of (V5.at 2 rfl)
          go_wp2_with (refine wpList_storeV V5 1 rfl _ (.tmp 26) rfl rfl rfl #[.int .i64 s.f, .int .i64 s.a.t, .bool s.a.g, .int .i64 s.b.t, .bool s.b.g] rfl rfl Try.szSl rfl rfl (slX_one _ _ _ _ _) ?_; intro w6 V6)
          exact bodyPost_ret (resT2 rfl _ V6 1 rfl rfl Try.underlying26 Try.szSl rfl) rfl ⟨by rw [HS.out, HE.out]; rfl, V6.bel⟩
    · obtain ⟨o, ho'⟩ : ∃ o, o = s.b := ⟨_, rfl⟩
      have h2 : s.two 1 = o := ho'.symm
      have HV : Hid (0 ≤ o.t ∧ o.t ≤ 7) := by rw [ho']; exact (maySl_of ho.1).2.2
      have HW := fun w => sWith_any s 1 ⟨o.t - 1, false⟩ ho.2 w
      have HS : Hid (tryS s 1 = if triedSo o then (if o.g then s else s.put 1 ⟨o.t - 1, false⟩) else sl0) := by
        show _ = _
        rw [tryS, h2]
        by_cases ht : triedSo o = true
        · rw [if_pos ⟨ho.1, ho.2, ht⟩, if_pos ht]
        · rw [if_neg (fun h => ht h.2.2), if_neg ht]
      have HE : Hid (tryC s 1 = if triedSo o then 0 else 240) := by show _ = _; rw [tryC, h2, if_pos ho]
      obtain ⟨r, hr⟩ : ∃ r, r = s.put 1 ⟨o.t - 1, false⟩ := ⟨_, rfl⟩
      have HR : Hid (r = ⟨s.f, r.a, r.b⟩) := by subst hr; rfl
      rw [← hr] at HW HS
      have HM := ho.1
      have HI := ho.2
      have HO : Hid (o = s.b) := ho'
      clear hr h2 ho ho'
      go_enter Try.func11, Try.ntmps11
      go_wp2_with fail
      refine (sCheck_any s _).mono ?_
      rintro e w1 ⟨rfl, q1⟩
      have V1 := two_slots w s q1
      clear q1
      rw [cSl_yes HM]
      obtain ⟨c0, c1, c2, c3, c4⟩ := sbox_of (V1.at 1 rfl)
      rw [← HO.out] at c3 c4
      go_wp2_with fail
      refine (isSlot_any 1 _).mono ?_
      rintro e w2 ⟨rfl, rfl⟩
      rw [HI]
      go_wp2_with (first
        | (refine wpList_allocV V1 6 23 rfl rfl rfl #[.int .i64 0, .bool false] zeroSo ?_; intro w3 g3 V3)
        | (refine wpList_storeV V3 0 rfl _ (.tmp 19) rfl rfl rfl #[.int .i64 o.t, .bool o.g] rfl rfl Try.szSo rfl rfl (slO_one _ _) ?_; intro w4 V4; have d0 : w4.cell? ⟨g3, 0, none⟩ = some (.int .i64 o.t) := man_c (V4.at 0 rfl) 0; have d1 : w4.cell? ⟨g3, 1, none⟩ = some (.bool o.g) := man_c (V4.at 0 rfl) 1))
      refine (mayTry_any o _).mono ?_
      rintro e w5 ⟨rfl, q5⟩
      replace V4 : Vars w w4 [⟨g3, 23, #[.int .i64 o.t, .bool o.g]⟩, ⟨w.heap.size + 1, 26, #[.int .i64 0, .int .i64 0, .bool false, .int .i64 0, .bool false]⟩, ⟨w.heap.size, 26, #[.int .i64 s.f, .int .i64 s.a.t, .bool s.a.g, .int .i64 s.b.t, .bool s.b.g]⟩] := V4
      have V5 := V4.call q5
      clear q5 V1 V3 V4 c0 c1 c2 c3 c4 d0 d1
      cases ht : triedSo o
      · rw [ht] at HS HE
        go_wp2_with (refine wpList_storeV V5 1 rfl _ (.tmp 23) rfl rfl rfl #[.int .i64 0, .int .i64 0, .bool false, .int .i64 0, .bool false] rfl rfl Try.szSl rfl rfl (slX_one _ _ _ _ _) ?_; intro w6 V6)
        exact bodyPost_ret (resT2 rfl _ V6 1 rfl rfl Try.underlying26 Try.szSl rfl) rfl ⟨by rw [HS.out, HE.out]; rfl, V6.bel⟩
      · rw [ht] at HS HE
        have d0 : w5.cell? ⟨g3, 0, none⟩ = some (.int .i64 o.t) := man_c (V5.at 0 rfl) 0
        have d1 : w5.cell? ⟨g3, 1, none⟩ = some (.bool o.g) := man_c (V5.at 0 rfl) 1
        cases hg : o.g
        · rw [hg] at d1 HS V5
          have hv := HV.out
          have f0 : w5.frozen? ⟨g3, 0, none⟩ = false := arr_unfrozen (V5.at 0 rfl) 0
          have V6 := V5.put 0 rfl 0 (.int .i64 (o.t - 1))
          replace V6 : Vars w (w5.setCell ⟨g3, 0, none⟩ (.int .i64 (o.t - 1))) [⟨g3, 23, #[.int .i64 (o.t - 1), .bool false]⟩, ⟨w.heap.size + 1, 26, #[.int .i64 0, .int .i64 0, .bool false, .int .i64 0, .bool false]⟩, ⟨w.heap.size, 26, #[.int .i64 s.f, .int .i64 s.a.t, .bool s.a.g, .int .i64 s.b.t, .bool s.b.g]⟩] := V6
          have HV6 : Hid (Vars w (w5.setCell ⟨g3, 0, none⟩ (.int .i64 (o.t - 1))) [⟨g3, 23, #[.int .i64 (o.t - 1), .bool false]⟩, ⟨w.heap.size + 1, 26, #[.int .i64 0, .int .i64 0, .bool false, .int .i64 0, .bool false]⟩, ⟨w.heap.size, 26, #[.int .i64 s.f, .int .i64 s.a.t, .bool s.a.g, .int .i64 s.b.t, .bool s.b.g]⟩]) := V6
          clear V6
          go_wp2_with fail
          have V6 := HV6.out
          clear V5 d0 d1 f0 HV6
          generalize w5.setCell ⟨g3, 0, none⟩ (.int .i64 (o.t - 1)) = w6 at *
          refine av_open (fun w' => Vars w w' [⟨g3, 23, #[.int .i64 (o.t - 1), .bool false]⟩, ⟨w.heap.size, 26, #[.int .i64 s.f, .int .i64 s.a.t, .bool s.a.g, .int .i64 s.b.t, .bool s.b.g]⟩]) (by kernel_rfl) ?_
          replace V6 := V6.drew
          refine held_reads (rs := [0, 1, 2, 3, 4, 5]) (fuel := 4) (by kernel_rfl) (fun c d v a w h => by cases d <;> exact h) (by kernel_rfl) (V6.del 1) (fun K hK => ?_)
          refine calm_do (.pointer (some ⟨w.heap.size, 0, none⟩)) rfl (by rfl) (fun w' hw' => ?_) ?_
          · go_simp
          go_simp
          refine calm_do (.int .i64 s.f) rfl (by rfl) (fun w' hw' => ?_) ?_
          · have c0 := (sbox_of (hw'.at 1 rfl)).c0
            go_simp
          go_simp
          refine calm_do (.pointer (some ⟨w.heap.size, 1, none⟩)) rfl (by rfl) (fun w' hw' => ?_) ?_
          · go_simp
          go_simp
          refine calm_do (.agg #[.int .i64 s.a.t, .bool s.a.g, .int .i64 s.b.t, .bool s.b.g]) rfl (by rfl) (fun w' hw' => ?_) ?_
          · obtain ⟨c0, c1, c2, c3, c4⟩ := sbox_of (hw'.at 1 rfl)
            go_simp
          go_simp
          refine calm_move _ rfl (by rfl) rfl ?_
          go_simp
          refine calm_do (.agg #[.int .i64 (o.t - 1), .bool false]) rfl (by rfl) (fun w' hw' => exec_loadT hw' 0 rfl _ rfl rfl Try.underlying23 rfl Try.szSo rfl) ?_
          go_simp
          refine calm_nil (hK.out _ ?_)
          clear hK K
          refine av_op (i := 6) (fuel := 3) (by kernel_rfl) rfl (by rfl) (fun K hK => ?_)
          go_simp
          refine (HW _).mono ?_
          rintro e w7 ⟨rfl, q7⟩
          have V7 := V6.call q7
          refine hK _ _ (V7.del 1) ?_
          clear hK K q7 V6
          refine held_reads (rs := [7]) (fuel := 2) (by kernel_rfl) (fun c d v a w h => by cases d <;> exact h) (by kernel_rfl) (V7.del 1) (fun K hK => ?_)
          refine calm_do (.agg #[.int .i64 s.f, .int .i64 r.a.t, .bool r.a.g, .int .i64 r.b.t, .bool r.b.g]) rfl (by rfl) (fun w' hw' => ?_) ?_
          · go_simp
          go_simp
          refine calm_nil (hK.out _ ?_)
          clear hK K
          refine av_op (i := 8) (fuel := 1) (by kernel_rfl) rfl (by rfl) (fun K hK => ?_)
          refine wp_storeV V7 1 rfl _ (.tmp 38) rfl rfl #[.int .i64 s.f, .int .i64 r.a.t, .bool r.a.g, .int .i64 r.b.t, .bool r.b.g] rfl rfl Try.szSl rfl rfl (slX_one _ _ _ _ _) (fun w8 V8 => ?_)
          refine hK _ _ (V8.del 1) ?_
          clear hK K V7
          refine av_op (i := 9) (fuel := 0) (by kernel_rfl) rfl (by rfl) (fun K hK => ?_)
          go_simp
          refine hK _ _ (V8.del 1) ?_
          clear hK K
          refine wpAnyH_done (by kernel_rfl) ?_ _
          go_wp2_with fail
          exact bodyPost_ret (resT2 rfl _ V8 1 rfl rfl Try.underlying26 Try.szSl rfl) rfl ⟨by rw [HS.out, HE.out, if_pos trivial, if_pos trivial, if_neg (by simp), HR.out]; rfl, V8.bel⟩
        · rw [hg] at d1 HS
          obtain ⟨c0, c1, c2, c3, c4⟩ := sbox_of (V5.at 2 rfl)
          go_wp2_with (refine wpList_storeV V5 1 rfl _ (.tmp 26) rfl rfl rfl #[.int .i64 s.f, .int .i64 s.a.t, .bool s.a.g, .int .i64 s.b.t, .bool s.b.g] rfl rfl Try.szSl rfl rfl (slX_one _ _ _ _ _) ?_; intro w6 V6)
          exact bodyPost_ret (resT2 rfl _ V6 1 rfl rfl Try.underlying26 Try.szSl rfl) rfl ⟨by rw [HS.out, HE.out]; rfl, V6.bel⟩
  · have HS : Hid (tryS s i = sl0) := if_neg fun h => ho ⟨h.1, h.2.1⟩
    have HE : Hid (tryC s i = 1) := if_neg ho
    go_enter Try.func11, Try.ntmps11
    go_wp2_with fail
    refine (sCheck_any s _).mono ?_
    rintro e w1 ⟨rfl, q1⟩
    have V1 := two_slots w s q1
    clear q1
    cases hm : maySl s
    · rw [cSl_no hm]
      go_wp2_with (refine wpList_storeV V1 0 rfl _ (.tmp 15) rfl rfl rfl #[.int .i64 0, .int .i64 0, .bool false, .int .i64 0, .bool false] rfl rfl Try.szSl rfl rfl (slX_one _ _ _ _ _) ?_; intro w4 V4)
      exact bodyPost_ret (resT2 rfl _ V4 0 rfl rfl Try.underlying26 Try.szSl rfl) rfl ⟨by rw [HS.out, HE.out]; rfl, V4.bel⟩
    · rw [cSl_yes hm]
      have hi := no_is01 ho hm
      go_wp2_with fail
      refine (isSlot_any i _).mono ?_
      rintro e w2 ⟨rfl, rfl⟩
      rw [hi]
      go_wp2_with (refine wpList_storeV V1 0 rfl _ (.tmp 15) rfl rfl rfl #[.int .i64 0, .int .i64 0, .bool false, .int .i64 0, .bool false] rfl rfl Try.szSl rfl rfl (slX_one _ _ _ _ _) ?_; intro w4 V4)
      exact bodyPost_ret (resT2 rfl _ V4 0 rfl rfl Try.underlying26 Try.szSl rfl) rfl ⟨by rw [HS.out, HE.out]; rfl, V4.bel⟩
end Go.Proofs.Ytagppgdigabbmaa.N
