/-
  Layer 22, the law SlotsBack.
-/
import Derived.Test.YtagppgdigabbmaaSlotFace
import Derived.Test.YtagppgdigabbmaaSlotEq
namespace Go.Proofs.Ytagppgdigabbmaa.N
open Go.RowKit
set_option linter.unusedVariables false
set_option maxRecDepth 8192

theorem bit_ne (b : Bool) : (bitSo b != 0) = b := by cases b <;> rfl
theorem parse_own (s : Sl) (hm : maySl s = true) {w : World} {b off c : Nat} (hr : Row .u8 w (some ⟨b, off, none⟩) 9 c (bytesSl s)) :
    Calls Try.prog 23 #[.slice (some ⟨b, off, none⟩) 9 c] w fun e w' => e = .returned (.tuple #[.agg #[.int .i64 s.f, .int .i64 s.a.t, .bool s.a.g, .int .i64 s.b.t, .bool s.b.g], .int .i64 0]) ∧ Below w.heap.size w w' :=
  (sParse_nine (bytesSl s) 115 108 111 116 s.f s.a.t (bitSo s.a.g) s.b.t (bitSo s.b.g) rfl hr (bytes_ok hm) s (by rw [bit_ne, bit_ne])).mono fun e w' he => ⟨he.1 hm rfl, he.2.2⟩
set_option maxHeartbeats 1600000 in
theorem walk_slotsBack (w : World) (s : Sl) : Calls Try.prog 5 #[.agg #[.int .i64 s.f, .int .i64 s.a.t, .bool s.a.g, .int .i64 s.b.t, .bool s.b.g]] w fun e w' => e = .returned (.bool true) ∧ Below w.heap.size w w' := by
  have V0 := Vars.start w
  cases hm : maySl s
  · have HC := fun w => sCheck_any s w
    rw [cSl_no hm] at HC
    have HB := fun w => sBytes_no (s := s) w hm
    go_enter Try.func5, Try.ntmps5
    go_wp2_with (first
      | (refine wpList_boxV V0 1 26 (.tmp 0) rfl rfl rfl #[.int .i64 s.f, .int .i64 s.a.t, .bool s.a.g, .int .i64 s.b.t, .bool s.b.g] rfl ?_; intro w1 g1 V1)
      | (refine wpList_exec rfl (exec_loadT V1 0 rfl (.tmp 1) rfl rfl Try.underlying26 rfl Try.szSl rfl) ?_))
    refine (HB _).mono ?_
    rintro e w2 ⟨rfl, q2⟩
    have V2 := V1.call q2
    clear q2 V1
    go_wp2_with fail
    refine (awake22_any _).mono ?_
    rintro e w3 ⟨rfl, q3⟩
    have V3 := V2.call q3
    clear q3 V2
    go_wp2_with (refine wpList_exec rfl (exec_loadT V3 0 rfl (.tmp 1) rfl rfl Try.underlying26 rfl Try.szSl rfl) ?_)
    refine (HC _).mono ?_
    rintro e w4 ⟨rfl, q4⟩
    have V4 := V3.call q4
    clear q4 V3 HC HB
    go_wp2_with fail
    go_ret
    exact ⟨rfl, V4.bel⟩
  · have HB := fun w => sBytes_yes (s := s) w hm
    have HP := fun w b => parse_own s hm (w := w) (b := b) (off := 0) (c := 9)
    go_enter Try.func5, Try.ntmps5
    go_wp2_with (first
      | (refine wpList_boxV V0 1 26 (.tmp 0) rfl rfl rfl #[.int .i64 s.f, .int .i64 s.a.t, .bool s.a.g, .int .i64 s.b.t, .bool s.b.g] rfl ?_; intro w1 g1 V1)
      | (refine wpList_exec rfl (exec_loadT V1 0 rfl (.tmp 1) rfl rfl Try.underlying26 rfl Try.szSl rfl) ?_))
    refine (HB _).mono ?_
    rintro e w2 ⟨b, rfl, r2, q2⟩
    have V2 := V1.call q2
    clear q2 V1 HB
    go_wp2_with fail
    refine (HP _ _ r2).mono ?_
    rintro e w3 ⟨rfl, q3⟩
    have V3 := V2.call q3
    clear q3 V2 r2 HP
    go_wp2_with (first
      | (refine wpList_allocV V3 5 26 rfl rfl rfl #[.int .i64 0, .int .i64 0, .bool false, .int .i64 0, .bool false] zeroSl ?_; intro w4 g4 V4)
      | (refine wpList_storeV V4 0 rfl _ (.tmp 24) rfl rfl rfl #[.int .i64 s.f, .int .i64 s.a.t, .bool s.a.g, .int .i64 s.b.t, .bool s.b.g] rfl rfl Try.szSl rfl rfl (slX_one _ _ _ _ _) ?_; intro w5 V5))
    refine (awake22_any _).mono ?_
    rintro e w6 ⟨rfl, q6⟩
    have V6 := V5.call q6
    clear q6 V3 V4 V5
    go_wp2_with (first
      | (refine wpList_exec rfl (exec_loadT V6 0 rfl (.tmp 5) rfl rfl Try.underlying26 rfl Try.szSl rfl) ?_)
      | (refine wpList_exec rfl (exec_loadT V6 1 rfl (.tmp 1) rfl rfl Try.underlying26 rfl Try.szSl rfl) ?_)
      | (refine wpList_exec rfl (exec_eqlSl s (.tmp 32) (.tmp 33) rfl rfl rfl) ?_))
    go_ret
    exact ⟨rfl, V6.bel⟩
end Go.Proofs.Ytagppgdigabbmaa.N
