/-
  The code of layer 22 (slots): Start, Confirm, Install, Try.
-/
import Derived.Test.YtagppgdigabbmaaSlotCode4
namespace Go.Proofs.Ytagppgdigabbmaa.N
open Go.RowKit
set_option linter.unusedVariables false
set_option maxRecDepth 8192

theorem sStart_any (w : World) : Calls Try.prog 17 #[] w fun e w' => e = .returned (.agg #[.int .i64 0, .int .i64 0, .bool false, .int .i64 0, .bool false]) ∧ Below w.heap.size w w' := by
  go_enter Try.func17, Try.ntmps17
  go_wp2
  exact bodyPost_ret (v := .agg #[.int .i64 0, .int .i64 0, .bool false, .int .i64 0, .bool false]) (by simp [results, Try.results17, go_sem]) rfl ⟨rfl, below_one w _⟩
theorem no_is01 {m i : Bool} (h : ¬(m = true ∧ i = true)) (hm : m = true) : i = false := Bool.eq_false_iff.2 fun hi => h ⟨hm, hi⟩
theorem two_slots (w : World) (s : Sl) {w1 : World} (q : Below ((w.alloc (.cells #[.int .i64 s.f, .int .i64 s.a.t, .bool s.a.g, .int .i64 s.b.t, .bool s.b.g] 26)).alloc (.cells #[.int .i64 0, .int .i64 0, .bool false, .int .i64 0, .bool false] 26)).heap.size ((w.alloc (.cells #[.int .i64 s.f, .int .i64 s.a.t, .bool s.a.g, .int .i64 s.b.t, .bool s.b.g] 26)).alloc (.cells #[.int .i64 0, .int .i64 0, .bool false, .int .i64 0, .bool false] 26)) w1) :
    Vars w w1 [⟨w.heap.size + 1, 26, #[.int .i64 0, .int .i64 0, .bool false, .int .i64 0, .bool false]⟩, ⟨w.heap.size, 26, #[.int .i64 s.f, .int .i64 s.a.t, .bool s.a.g, .int .i64 s.b.t, .bool s.b.g]⟩] := by
  have V1 := (((Vars.start w).new 26 #[.int .i64 s.f, .int .i64 s.a.t, .bool s.a.g, .int .i64 s.b.t, .bool s.b.g]).new 26 #[.int .i64 0, .int .i64 0, .bool false, .int .i64 0, .bool false]).call q
  rw [show ∀ o, (w.alloc o).heap.size = w.heap.size + 1 from fun o => by simp] at V1
  exact V1
theorem put_conf (s : Sl) (i : Int) (h : maySl s = true) (hi : is01 i = true) : confS s i = ⟨i, (s.put i ⟨0, true⟩).a, (s.put i ⟨0, true⟩).b⟩ := by
  simp only [confS, h, hi, and_self, if_true]
set_option maxHeartbeats 1600000 in
theorem sConfirm_any (s : Sl) (i : Int) (w : World) : Calls Try.prog 12 #[.agg #[.int .i64 s.f, .int .i64 s.a.t, .bool s.a.g, .int .i64 s.b.t, .bool s.b.g], .int .i64 i] w fun e w' => e = .returned (.tuple #[.agg #[.int .i64 (confS s i).f, .int .i64 (confS s i).a.t, .bool (confS s i).a.g, .int .i64 (confS s i).b.t, .bool (confS s i).b.g], .int .i64 (confC s i)]) ∧ Below w.heap.size w w' := by
  by_cases ho : maySl s = true ∧ is01 i = true
  · obtain ⟨r, hr⟩ : ∃ r, r = s.put i ⟨0, true⟩ := ⟨_, rfl⟩
    have HS : Hid (confS s i = ⟨i, r.a, r.b⟩) := by rw [hr]; exact put_conf s i ho.1 ho.2
    have HE : Hid (confC s i = 0) := by show _ = _; simp only [confC, ho, and_self, if_true]
    have HW := fun w => sWith_any s i ⟨0, true⟩ ho.2 w
    rw [← hr] at HW
    clear hr
    go_enter Try.func12, Try.ntmps12
    go_wp2_with fail
    refine (sCheck_any s _).mono ?_
    rintro e w1 ⟨rfl, q1⟩
    have V1 := two_slots w s q1
    rw [cSl_yes ho.1]
    obtain ⟨c0, c1, c2, c3, c4⟩ := sbox_of (V1.at 1 rfl)
    clear q1
    go_wp2_with fail
    refine (isSlot_any i _).mono ?_
    rintro e w2 ⟨rfl, rfl⟩
    rw [ho.2]
    go_wp2_with fail
    refine (HW _).mono ?_
    rintro e w3 ⟨rfl, q3⟩
    have V3 := V1.call q3
    clear q3 V1 c0 c1 c2 c3 c4
    go_wp2_with (refine wpList_storeV V3 0 rfl _ (.tmp 21) rfl rfl rfl #[.int .i64 i, .int .i64 r.a.t, .bool r.a.g, .int .i64 r.b.t, .bool r.b.g] rfl rfl Try.szSl rfl rfl (slX_one _ _ _ _ _) ?_; intro w4 V4)
    exact bodyPost_ret (resT2 rfl _ V4 0 rfl rfl Try.underlying26 Try.szSl rfl) rfl ⟨by rw [HS.out, HE.out]; rfl, V4.bel⟩
  · have HS : Hid (confS s i = sl0) := if_neg ho
    have HE : Hid (confC s i = 1) := if_neg ho
    go_enter Try.func12, Try.ntmps12
    go_wp2_with fail
    refine (sCheck_any s _).mono ?_
    rintro e w1 ⟨rfl, q1⟩
    have V1 := two_slots w s q1
    clear q1
    cases hm : maySl s
    · rw [cSl_no hm]
      go_wp2_with (refine wpList_storeV V1 0 rfl _ (.tmp 14) rfl rfl rfl #[.int .i64 0, .int .i64 0, .bool false, .int .i64 0, .bool false] rfl rfl Try.szSl rfl rfl (slX_one _ _ _ _ _) ?_; intro w4 V4)
      exact bodyPost_ret (resT2 rfl _ V4 0 rfl rfl Try.underlying26 Try.szSl rfl) rfl ⟨by rw [HS.out, HE.out]; rfl, V4.bel⟩
    · rw [cSl_yes hm]
      have hi := no_is01 ho hm
      go_wp2_with fail
      refine (isSlot_any i _).mono ?_
      rintro e w2 ⟨rfl, rfl⟩
      rw [hi]
      go_wp2_with (refine wpList_storeV V1 0 rfl _ (.tmp 14) rfl rfl rfl #[.int .i64 0, .int .i64 0, .bool false, .int .i64 0, .bool false] rfl rfl Try.szSl rfl rfl (slX_one _ _ _ _ _) ?_; intro w4 V4)
      exact bodyPost_ret (resT2 rfl _ V4 0 rfl rfl Try.underlying26 Try.szSl rfl) rfl ⟨by rw [HS.out, HE.out]; rfl, V4.bel⟩
theorem put_inst (s : Sl) (i : Int) (h : maySl s = true ∧ is01 i = true ∧ i ≠ s.f) : instS s i = ⟨i, (s.put i ⟨7, false⟩).a, (s.put i ⟨7, false⟩).b⟩ := if_pos h
set_option maxHeartbeats 1600000 in
theorem sInstall_any (s : Sl) (i : Int) (w : World) : Calls Try.prog 13 #[.agg #[.int .i64 s.f, .int .i64 s.a.t, .bool s.a.g, .int .i64 s.b.t, .bool s.b.g], .int .i64 i] w fun e w' => e = .returned (.tuple #[.agg #[.int .i64 (instS s i).f, .int .i64 (instS s i).a.t, .bool (instS s i).a.g, .int .i64 (instS s i).b.t, .bool (instS s i).b.g], .int .i64 (instC s i)]) ∧ Below w.heap.size w w' := by
  by_cases ho : maySl s = true ∧ is01 i = true ∧ i ≠ s.f
  · obtain ⟨r, hr⟩ : ∃ r, r = s.put i ⟨7, false⟩ := ⟨_, rfl⟩
    have HS : Hid (instS s i = ⟨i, r.a, r.b⟩) := by rw [hr]; exact put_inst s i ho
    have HE : Hid (instC s i = 0) := by show _ = _; exact if_pos ho
    have HW := fun w => sWith_any s i ⟨7, false⟩ ho.2.1 w
    rw [← hr] at HW
    clear hr
    go_enter Try.func13, Try.ntmps13
    go_wp2_with fail
    refine (sCheck_any s _).mono ?_
    rintro e w1 ⟨rfl, q1⟩
    have V1 := two_slots w s q1
    rw [cSl_yes ho.1]
    obtain ⟨c0, c1, c2, c3, c4⟩ := sbox_of (V1.at 1 rfl)
    clear q1
    go_wp2_with fail
    refine (isSlot_any i _).mono ?_
    rintro e w2 ⟨rfl, rfl⟩
    rw [ho.2.1]
    have hne : (i == s.f) = false := by simpa using ho.2.2
    go_wp2_with fail
    refine (HW _).mono ?_
    rintro e w3 ⟨rfl, q3⟩
    have V3 := V1.call q3
    clear q3 V1 c0 c1 c2 c3 c4
    go_wp2_with (refine wpList_storeV V3 0 rfl _ (.tmp 27) rfl rfl rfl #[.int .i64 i, .int .i64 r.a.t, .bool r.a.g, .int .i64 r.b.t, .bool r.b.g] rfl rfl Try.szSl rfl rfl (slX_one _ _ _ _ _) ?_; intro w4 V4)
    exact bodyPost_ret (resT2 rfl _ V4 0 rfl rfl Try.underlying26 Try.szSl rfl) rfl ⟨by rw [HS.out, HE.out]; rfl, V4.bel⟩
  · have HS : Hid (instS s i = sl0) := if_neg ho
    have HE : Hid (instC s i = 1) := if_neg ho
    go_enter Try.func13, Try.ntmps13
    go_wp2_with fail
    refine (sCheck_any s _).mono ?_
    rintro e w1 ⟨rfl, q1⟩
    have V1 := two_slots w s q1
    clear q1
    cases hm : maySl s
    · rw [cSl_no hm]
      go_wp2_with (refine wpList_storeV V1 0 rfl _ (.tmp 20) rfl rfl rfl #[.int .i64 0, .int .i64 0, .bool false, .int .i64 0, .bool false] rfl rfl Try.szSl rfl rfl (slX_one _ _ _ _ _) ?_; intro w4 V4)
      exact bodyPost_ret (resT2 rfl _ V4 0 rfl rfl Try.underlying26 Try.szSl rfl) rfl ⟨by rw [HS.out, HE.out]; rfl, V4.bel⟩
    · rw [cSl_yes hm]
      cases hi : is01 i
      · go_wp2_with fail
        refine (isSlot_any i _).mono ?_
        rintro e w2 ⟨rfl, rfl⟩
        rw [hi]
        go_wp2_with (refine wpList_storeV V1 0 rfl _ (.tmp 20) rfl rfl rfl #[.int .i64 0, .int .i64 0, .bool false, .int .i64 0, .bool false] rfl rfl Try.szSl rfl rfl (slX_one _ _ _ _ _) ?_; intro w4 V4)
        exact bodyPost_ret (resT2 rfl _ V4 0 rfl rfl Try.underlying26 Try.szSl rfl) rfl ⟨by rw [HS.out, HE.out]; rfl, V4.bel⟩
      · have hef : i = s.f := Decidable.byContradiction fun h => ho ⟨hm, hi, h⟩
        have heq : (i == s.f) = true := by simpa using hef
        have HS : Hid (instS s i = sl0) := HS
        obtain ⟨c0, c1, c2, c3, c4⟩ := sbox_of (V1.at 1 rfl)
        clear hef ho
        go_wp2_with fail
        refine (isSlot_any i _).mono ?_
        rintro e w2 ⟨rfl, rfl⟩
        rw [hi]
        go_wp2_with (refine wpList_storeV V1 0 rfl _ (.tmp 20) rfl rfl rfl #[.int .i64 0, .int .i64 0, .bool false, .int .i64 0, .bool false] rfl rfl Try.szSl rfl rfl (slX_one _ _ _ _ _) ?_; intro w4 V4)
        exact bodyPost_ret (resT2 rfl _ V4 0 rfl rfl Try.underlying26 Try.szSl rfl) rfl ⟨by rw [HS.out, HE.out]; rfl, V4.bel⟩
end Go.Proofs.Ytagppgdigabbmaa.N
