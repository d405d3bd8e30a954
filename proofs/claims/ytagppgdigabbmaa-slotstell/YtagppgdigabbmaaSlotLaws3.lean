/-
  Layer 22, the law SlotsTell.
-/
import Derived.Test.YtagppgdigabbmaaSlotFace
import Derived.Test.YtagppgdigabbmaaSlotEq
import Derived.Test.YtagppgdigabbmaaSlotRef2
import Derived.Test.YtagppgdigabbmaaSlotRef4
import Derived.Test.YtagppgdigabbmaaSlotRef5
namespace Go.Proofs.Ytagppgdigabbmaa.N
open Go.RowKit
set_option linter.unusedVariables false
set_option maxRecDepth 8192

set_option maxHeartbeats 3200000 in
theorem tell_no (w : World) (s : Sl) (i : Int) (hm : maySl s = false) : Calls Try.prog 3 #[.agg #[.int .i64 s.f, .int .i64 s.a.t, .bool s.a.g, .int .i64 s.b.t, .bool s.b.g], .int .i64 i] w fun e w' => e = .returned (.bool true) ∧ Below w.heap.size w w' := by
  obtain ⟨rt, hrt⟩ : ∃ r, r = tryS s i := ⟨_, rfl⟩
  obtain ⟨et, het⟩ : ∃ r, r = tryC s i := ⟨_, rfl⟩
  obtain ⟨rc, hrc⟩ : ∃ r, r = confS s i := ⟨_, rfl⟩
  obtain ⟨ec, hec⟩ : ∃ r, r = confC s i := ⟨_, rfl⟩
  obtain ⟨ri, hri⟩ : ∃ r, r = instS s i := ⟨_, rfl⟩
  obtain ⟨ei, hei⟩ : ∃ r, r = instC s i := ⟨_, rfl⟩
  have HT := fun w => sTry_any s i w
  have KT := fun w => refTry22 s i w
  have HC := fun w => sConfirm_any s i w
  have KC := fun w => refConfirm22 s i w
  have HI := fun w => sInstall_any s i w
  have KI := fun w => refInstall22 s i w
  rw [← hrt, ← het] at HT KT
  rw [← hrc, ← hec] at HC KC
  rw [← hri, ← hei] at HI KI
  clear hrt het hrc hec hri hei
  have HM := fun w => refMay22 s w
  have HK := fun w => sCheck_any s w
  have HB := fun w => sBytes_no (s := s) w hm
  have HO := fun w => sOrder_no (s := s) w hm
  rw [hm] at HM
  rw [cSl_no hm] at HK
  clear hm
  go_enter Try.func3, Try.ntmps3
  go_wp2_with (first
    | (refine wpList_boxV (Vars.start w) 2 26 (.tmp 0) rfl rfl rfl #[.int .i64 s.f, .int .i64 s.a.t, .bool s.a.g, .int .i64 s.b.t, .bool s.b.g] rfl ?_; intro w1 g1 V1)
    | (refine wpList_exec rfl (exec_loadT V1 0 rfl (.tmp 2) rfl rfl Try.underlying26 rfl Try.szSl rfl) ?_))
  refine (HK _).mono ?_
  rintro e w2 ⟨rfl, q⟩
  have V2 := V1.call q
  clear q V1 HK
  go_wp2_with (refine wpList_exec rfl (exec_loadT V2 0 rfl (.tmp 2) rfl rfl Try.underlying26 rfl Try.szSl rfl) ?_)
  refine (HB _).mono ?_
  rintro e w3 ⟨rfl, q⟩
  have V3 := V2.call q
  clear q V2 HB
  go_wp2_with (refine wpList_exec rfl (exec_loadT V3 0 rfl (.tmp 2) rfl rfl Try.underlying26 rfl Try.szSl rfl) ?_)
  refine (HO _).mono ?_
  rintro e w4 ⟨rfl, q⟩
  have V4 := V3.call q
  clear q V3 HO
  have hg1 : w4.heap[g1]? = some (.cells #[.int .i64 s.f, .int .i64 s.a.t, .bool s.a.g, .int .i64 s.b.t, .bool s.b.g] 26 (0, 0)) := V4.at 0 rfl
  have H2 : Hid (∀ W, Below w4.heap.size w4 W → W.heap[g1]? = some (.cells #[.int .i64 s.f, .int .i64 s.a.t, .bool s.a.g, .int .i64 s.b.t, .bool s.b.g] 26 (0, 0))) := fun W q => by rw [q.block g1 (lt_of_heap hg1)]; exact hg1
  have HQ : Hid (∀ W, Below w4.heap.size w4 W → Below w.heap.size w W) := fun W q => btrans V4.bel q
  have V0 := Vars.start w4
  clear hg1 V4
  go_wp2_with (refine wpList_exec rfl (exec_loadH (.tmp 2) rfl g1 rfl (H2.out _ V0.bel) Try.underlying26 rfl Try.szSl rfl) ?_)
  refine (HT _).mono ?_
  rintro e w10 ⟨rfl, q⟩
  have A0 := V0.call q
  clear q V0 HT
  go_wp2_with (first
    | (refine wpList_allocV A0 10 26 rfl rfl rfl #[.int .i64 0, .int .i64 0, .bool false, .int .i64 0, .bool false] zeroSl ?_; intro x0 b0 B0)
    | (refine wpList_storeV B0 0 rfl _ (.tmp 38) rfl rfl rfl #[.int .i64 rt.f, .int .i64 rt.a.t, .bool rt.a.g, .int .i64 rt.b.t, .bool rt.b.g] rfl rfl Try.szSl rfl rfl (slX_one _ _ _ _ _) ?_; intro y0 C0; clear A0 B0)
    | (refine wpList_exec rfl (exec_loadH (.tmp 2) rfl g1 rfl (H2.out _ C0.bel) Try.underlying26 rfl Try.szSl rfl) ?_))
  refine (HC _).mono ?_
  rintro e w11 ⟨rfl, q⟩
  have A1 := C0.call q
  clear q C0 HC
  go_wp2_with (first
    | (refine wpList_allocV A1 12 26 rfl rfl rfl #[.int .i64 0, .int .i64 0, .bool false, .int .i64 0, .bool false] zeroSl ?_; intro x1 b1 B1)
    | (refine wpList_storeV B1 0 rfl _ (.tmp 44) rfl rfl rfl #[.int .i64 rc.f, .int .i64 rc.a.t, .bool rc.a.g, .int .i64 rc.b.t, .bool rc.b.g] rfl rfl Try.szSl rfl rfl (slX_one _ _ _ _ _) ?_; intro y1 C1; clear A1 B1)
    | (refine wpList_exec rfl (exec_loadH (.tmp 2) rfl g1 rfl (H2.out _ C1.bel) Try.underlying26 rfl Try.szSl rfl) ?_))
  refine (HI _).mono ?_
  rintro e w12 ⟨rfl, q⟩
  have A2 := C1.call q
  clear q C1 HI
  go_wp2_with (first
    | (refine wpList_allocV A2 14 26 rfl rfl rfl #[.int .i64 0, .int .i64 0, .bool false, .int .i64 0, .bool false] zeroSl ?_; intro x2 b2 B2)
    | (refine wpList_storeV B2 0 rfl _ (.tmp 50) rfl rfl rfl #[.int .i64 ri.f, .int .i64 ri.a.t, .bool ri.a.g, .int .i64 ri.b.t, .bool ri.b.g] rfl rfl Try.szSl rfl rfl (slX_one _ _ _ _ _) ?_; intro y2 C2; clear A2 B2)
    | (refine wpList_exec rfl (exec_loadH (.tmp 2) rfl g1 rfl (H2.out _ C2.bel) Try.underlying26 rfl Try.szSl rfl) ?_))
  refine (KT _).mono ?_
  rintro e w13 ⟨rfl, q⟩
  have A3 := C2.call q
  clear q C2 KT
  go_wp2_with (first
    | (refine wpList_allocV A3 16 26 rfl rfl rfl #[.int .i64 0, .int .i64 0, .bool false, .int .i64 0, .bool false] zeroSl ?_; intro x3 b3 B3)
    | (refine wpList_storeV B3 0 rfl _ (.tmp 56) rfl rfl rfl #[.int .i64 rt.f, .int .i64 rt.a.t, .bool rt.a.g, .int .i64 rt.b.t, .bool rt.b.g] rfl rfl Try.szSl rfl rfl (slX_one _ _ _ _ _) ?_; intro y3 C3; clear A3 B3)
    | (refine wpList_exec rfl (exec_loadH (.tmp 2) rfl g1 rfl (H2.out _ C3.bel) Try.underlying26 rfl Try.szSl rfl) ?_))
  refine (KC _).mono ?_
  rintro e w14 ⟨rfl, q⟩
  have A4 := C3.call q
  clear q C3 KC
  go_wp2_with (first
    | (refine wpList_allocV A4 18 26 rfl rfl rfl #[.int .i64 0, .int .i64 0, .bool false, .int .i64 0, .bool false] zeroSl ?_; intro x4 b4 B4)
    | (refine wpList_storeV B4 0 rfl _ (.tmp 62) rfl rfl rfl #[.int .i64 rc.f, .int .i64 rc.a.t, .bool rc.a.g, .int .i64 rc.b.t, .bool rc.b.g] rfl rfl Try.szSl rfl rfl (slX_one _ _ _ _ _) ?_; intro y4 C4; clear A4 B4)
    | (refine wpList_exec rfl (exec_loadH (.tmp 2) rfl g1 rfl (H2.out _ C4.bel) Try.underlying26 rfl Try.szSl rfl) ?_))
  refine (KI _).mono ?_
  rintro e w15 ⟨rfl, q⟩
  have A5 := C4.call q
  clear q C4 KI
  go_wp2_with (first
    | (refine wpList_allocV A5 20 26 rfl rfl rfl #[.int .i64 0, .int .i64 0, .bool false, .int .i64 0, .bool false] zeroSl ?_; intro x5 b5 B5)
    | (refine wpList_storeV B5 0 rfl _ (.tmp 68) rfl rfl rfl #[.int .i64 ri.f, .int .i64 ri.a.t, .bool ri.a.g, .int .i64 ri.b.t, .bool ri.b.g] rfl rfl Try.szSl rfl rfl (slX_one _ _ _ _ _) ?_; intro y5 C5; clear A5 B5)
    | (refine wpList_exec rfl (exec_loadT C5 5 rfl (.tmp 10) rfl rfl Try.underlying26 rfl Try.szSl rfl) ?_)
    | (refine wpList_exec rfl (exec_loadT C5 2 rfl (.tmp 16) rfl rfl Try.underlying26 rfl Try.szSl rfl) ?_)
    | (refine wpList_exec rfl (exec_loadT C5 4 rfl (.tmp 12) rfl rfl Try.underlying26 rfl Try.szSl rfl) ?_)
    | (refine wpList_exec rfl (exec_loadT C5 1 rfl (.tmp 18) rfl rfl Try.underlying26 rfl Try.szSl rfl) ?_)
    | (refine wpList_exec rfl (exec_loadT C5 3 rfl (.tmp 14) rfl rfl Try.underlying26 rfl Try.szSl rfl) ?_)
    | (refine wpList_exec rfl (exec_loadT C5 0 rfl (.tmp 20) rfl rfl Try.underlying26 rfl Try.szSl rfl) ?_)
    | (refine wpList_exec rfl (exec_neqSl rt (.tmp 70) (.tmp 71) rfl rfl rfl) ?_)
    | (refine wpList_exec rfl (exec_neqSl rc (.tmp 79) (.tmp 80) rfl rfl rfl) ?_)
    | (refine wpList_exec rfl (exec_neqSl ri (.tmp 89) (.tmp 90) rfl rfl rfl) ?_))
  refine (sStart_any _).mono ?_
  rintro e w20 ⟨rfl, q⟩
  have D := C5.call q
  clear q C5
  go_wp2_with (first
    | (refine wpList_exec rfl (exec_neqSl sl0 (.tmp 99) (.tmp 100) rfl rfl rfl) ?_)
    | (refine wpList_exec rfl (exec_loadH (.tmp 2) rfl g1 rfl (H2.out _ D.bel) Try.underlying26 rfl Try.szSl rfl) ?_))
  refine (HM _).mono ?_
  rintro e w21 ⟨rfl, q⟩
  have D2 := D.call q
  clear q D HM
  go_wp2_with fail
  refine (awake22_any _).mono ?_
  rintro e w22 ⟨rfl, q⟩
  have HW : Hid (Below w.heap.size w w22) := HQ.out _ (D2.call q).bel
  clear q D2 HQ H2
  go_wp2_with fail
  go_ret
  exact ⟨rfl, HW.out⟩
set_option maxHeartbeats 3200000 in
theorem tell_yes (w : World) (s : Sl) (i : Int) (hm : maySl s = true) : Calls Try.prog 3 #[.agg #[.int .i64 s.f, .int .i64 s.a.t, .bool s.a.g, .int .i64 s.b.t, .bool s.b.g], .int .i64 i] w fun e w' => e = .returned (.bool true) ∧ Below w.heap.size w w' := by
  obtain ⟨rt, hrt⟩ : ∃ r, r = tryS s i := ⟨_, rfl⟩
  obtain ⟨et, het⟩ : ∃ r, r = tryC s i := ⟨_, rfl⟩
  obtain ⟨rc, hrc⟩ : ∃ r, r = confS s i := ⟨_, rfl⟩
  obtain ⟨ec, hec⟩ : ∃ r, r = confC s i := ⟨_, rfl⟩
  obtain ⟨ri, hri⟩ : ∃ r, r = instS s i := ⟨_, rfl⟩
  obtain ⟨ei, hei⟩ : ∃ r, r = instC s i := ⟨_, rfl⟩
  have HT := fun w => sTry_any s i w
  have KT := fun w => refTry22 s i w
  have HC := fun w => sConfirm_any s i w
  have KC := fun w => refConfirm22 s i w
  have HI := fun w => sInstall_any s i w
  have KI := fun w => refInstall22 s i w
  rw [← hrt, ← het] at HT KT
  rw [← hrc, ← hec] at HC KC
  rw [← hri, ← hei] at HI KI
  clear hrt het hrc hec hri hei
  have HM := fun w => refMay22 s w
  have HK := fun w => sCheck_any s w
  have HB := fun w => sBytes_yes (s := s) w hm
  have HO := fun w => sOrder_yes (s := s) w hm
  have KB := fun w => refBytes22 s w hm
  have KO := fun w => refOrder22 (s := s) w hm
  have HOK : Hid (IsB (bytesSl s)) := bytes_ok hm
  have HLO : Hid ((orderSl s).length ≤ 2) := by show _ ≤ _; simp only [orderSl]; split <;> split <;> simp
  rw [hm] at HM
  rw [cSl_yes hm] at HK
  clear hm
  go_enter Try.func3, Try.ntmps3
  go_wp2_with (first
    | (refine wpList_boxV (Vars.start w) 2 26 (.tmp 0) rfl rfl rfl #[.int .i64 s.f, .int .i64 s.a.t, .bool s.a.g, .int .i64 s.b.t, .bool s.b.g] rfl ?_; intro w1 g1 V1)
    | (refine wpList_exec rfl (exec_loadT V1 0 rfl (.tmp 2) rfl rfl Try.underlying26 rfl Try.szSl rfl) ?_))
  refine (HK _).mono ?_
  rintro e w2 ⟨rfl, q⟩
  have V2 := V1.call q
  clear q V1 HK
  go_wp2_with (refine wpList_exec rfl (exec_loadT V2 0 rfl (.tmp 2) rfl rfl Try.underlying26 rfl Try.szSl rfl) ?_)
  refine (HB _).mono ?_
  rintro e w3 ⟨vb, rfl, rb, q⟩
  have V3 := V2.call q
  clear q V2 HB
  go_wp2_with (refine wpList_exec rfl (exec_loadT V3 0 rfl (.tmp 2) rfl rfl Try.underlying26 rfl Try.szSl rfl) ?_)
  refine (HO _).mono ?_
  rintro e w4 ⟨vo, rfl, own, q⟩
  obtain ⟨ao, co, rfl, ro⟩ := row_of_owns own
  have V4 := V3.call q
  have HRB : Hid (∀ W, Below w4.heap.size w4 W → Row .u8 W (some ⟨vb, 0, none⟩) 9 9 (bytesSl s)) := fun W Q => rb.below (btrans q Q) (Nat.le_refl _)
  have HRO : Hid (∀ W, Below w4.heap.size w4 W → Row .i64 W ao (orderSl s).length co (orderSl s)) := fun W Q => ro.below Q (Nat.le_refl _)
  clear q V3 HO own rb ro
  have hg1 : w4.heap[g1]? = some (.cells #[.int .i64 s.f, .int .i64 s.a.t, .bool s.a.g, .int .i64 s.b.t, .bool s.b.g] 26 (0, 0)) := V4.at 0 rfl
  have H2 : Hid (∀ W, Below w4.heap.size w4 W → W.heap[g1]? = some (.cells #[.int .i64 s.f, .int .i64 s.a.t, .bool s.a.g, .int .i64 s.b.t, .bool s.b.g] 26 (0, 0))) := fun W q => by rw [q.block g1 (lt_of_heap hg1)]; exact hg1
  have HQ : Hid (∀ W, Below w4.heap.size w4 W → Below w.heap.size w W) := fun W q => btrans V4.bel q
  have V0 := Vars.start w4
  clear hg1 V4
  go_wp2_with (refine wpList_exec rfl (exec_loadH (.tmp 2) rfl g1 rfl (H2.out _ V0.bel) Try.underlying26 rfl Try.szSl rfl) ?_)
  refine (HT _).mono ?_
  rintro e w10 ⟨rfl, q⟩
  have A0 := V0.call q
  clear q V0 HT
  go_wp2_with (first
    | (refine wpList_allocV A0 10 26 rfl rfl rfl #[.int .i64 0, .int .i64 0, .bool false, .int .i64 0, .bool false] zeroSl ?_; intro x0 b0 B0)
    | (refine wpList_storeV B0 0 rfl _ (.tmp 38) rfl rfl rfl #[.int .i64 rt.f, .int .i64 rt.a.t, .bool rt.a.g, .int .i64 rt.b.t, .bool rt.b.g] rfl rfl Try.szSl rfl rfl (slX_one _ _ _ _ _) ?_; intro y0 C0; clear A0 B0)
    | (refine wpList_exec rfl (exec_loadH (.tmp 2) rfl g1 rfl (H2.out _ C0.bel) Try.underlying26 rfl Try.szSl rfl) ?_))
  refine (HC _).mono ?_
  rintro e w11 ⟨rfl, q⟩
  have A1 := C0.call q
  clear q C0 HC
  go_wp2_with (first
    | (refine wpList_allocV A1 12 26 rfl rfl rfl #[.int .i64 0, .int .i64 0, .bool false, .int .i64 0, .bool false] zeroSl ?_; intro x1 b1 B1)
    | (refine wpList_storeV B1 0 rfl _ (.tmp 44) rfl rfl rfl #[.int .i64 rc.f, .int .i64 rc.a.t, .bool rc.a.g, .int .i64 rc.b.t, .bool rc.b.g] rfl rfl Try.szSl rfl rfl (slX_one _ _ _ _ _) ?_; intro y1 C1; clear A1 B1)
    | (refine wpList_exec rfl (exec_loadH (.tmp 2) rfl g1 rfl (H2.out _ C1.bel) Try.underlying26 rfl Try.szSl rfl) ?_))
  refine (HI _).mono ?_
  rintro e w12 ⟨rfl, q⟩
  have A2 := C1.call q
  clear q C1 HI
  go_wp2_with (first
    | (refine wpList_allocV A2 14 26 rfl rfl rfl #[.int .i64 0, .int .i64 0, .bool false, .int .i64 0, .bool false] zeroSl ?_; intro x2 b2 B2)
    | (refine wpList_storeV B2 0 rfl _ (.tmp 50) rfl rfl rfl #[.int .i64 ri.f, .int .i64 ri.a.t, .bool ri.a.g, .int .i64 ri.b.t, .bool ri.b.g] rfl rfl Try.szSl rfl rfl (slX_one _ _ _ _ _) ?_; intro y2 C2; clear A2 B2)
    | (refine wpList_exec rfl (exec_loadH (.tmp 2) rfl g1 rfl (H2.out _ C2.bel) Try.underlying26 rfl Try.szSl rfl) ?_))
  refine (KT _).mono ?_
  rintro e w13 ⟨rfl, q⟩
  have A3 := C2.call q
  clear q C2 KT
  go_wp2_with (first
    | (refine wpList_allocV A3 16 26 rfl rfl rfl #[.int .i64 0, .int .i64 0, .bool false, .int .i64 0, .bool false] zeroSl ?_; intro x3 b3 B3)
    | (refine wpList_storeV B3 0 rfl _ (.tmp 56) rfl rfl rfl #[.int .i64 rt.f, .int .i64 rt.a.t, .bool rt.a.g, .int .i64 rt.b.t, .bool rt.b.g] rfl rfl Try.szSl rfl rfl (slX_one _ _ _ _ _) ?_; intro y3 C3; clear A3 B3)
    | (refine wpList_exec rfl (exec_loadH (.tmp 2) rfl g1 rfl (H2.out _ C3.bel) Try.underlying26 rfl Try.szSl rfl) ?_))
  refine (KC _).mono ?_
  rintro e w14 ⟨rfl, q⟩
  have A4 := C3.call q
  clear q C3 KC
  go_wp2_with (first
    | (refine wpList_allocV A4 18 26 rfl rfl rfl #[.int .i64 0, .int .i64 0, .bool false, .int .i64 0, .bool false] zeroSl ?_; intro x4 b4 B4)
    | (refine wpList_storeV B4 0 rfl _ (.tmp 62) rfl rfl rfl #[.int .i64 rc.f, .int .i64 rc.a.t, .bool rc.a.g, .int .i64 rc.b.t, .bool rc.b.g] rfl rfl Try.szSl rfl rfl (slX_one _ _ _ _ _) ?_; intro y4 C4; clear A4 B4)
    | (refine wpList_exec rfl (exec_loadH (.tmp 2) rfl g1 rfl (H2.out _ C4.bel) Try.underlying26 rfl Try.szSl rfl) ?_))
  refine (KI _).mono ?_
  rintro e w15 ⟨rfl, q⟩
  have A5 := C4.call q
  clear q C4 KI
  go_wp2_with (first
    | (refine wpList_allocV A5 20 26 rfl rfl rfl #[.int .i64 0, .int .i64 0, .bool false, .int .i64 0, .bool false] zeroSl ?_; intro x5 b5 B5)
    | (refine wpList_storeV B5 0 rfl _ (.tmp 68) rfl rfl rfl #[.int .i64 ri.f, .int .i64 ri.a.t, .bool ri.a.g, .int .i64 ri.b.t, .bool ri.b.g] rfl rfl Try.szSl rfl rfl (slX_one _ _ _ _ _) ?_; intro y5 C5; clear A5 B5)
    | (refine wpList_exec rfl (exec_loadT C5 5 rfl (.tmp 10) rfl rfl Try.underlying26 rfl Try.szSl rfl) ?_)
    | (refine wpList_exec rfl (exec_loadT C5 2 rfl (.tmp 16) rfl rfl Try.underlying26 rfl Try.szSl rfl) ?_)
    | (refine wpList_exec rfl (exec_loadT C5 4 rfl (.tmp 12) rfl rfl Try.underlying26 rfl Try.szSl rfl) ?_)
    | (refine wpList_exec rfl (exec_loadT C5 1 rfl (.tmp 18) rfl rfl Try.underlying26 rfl Try.szSl rfl) ?_)
    | (refine wpList_exec rfl (exec_loadT C5 3 rfl (.tmp 14) rfl rfl Try.underlying26 rfl Try.szSl rfl) ?_)
    | (refine wpList_exec rfl (exec_loadT C5 0 rfl (.tmp 20) rfl rfl Try.underlying26 rfl Try.szSl rfl) ?_)
    | (refine wpList_exec rfl (exec_neqSl rt (.tmp 70) (.tmp 71) rfl rfl rfl) ?_)
    | (refine wpList_exec rfl (exec_neqSl rc (.tmp 79) (.tmp 80) rfl rfl rfl) ?_)
    | (refine wpList_exec rfl (exec_neqSl ri (.tmp 89) (.tmp 90) rfl rfl rfl) ?_))
  refine (sStart_any _).mono ?_
  rintro e w20 ⟨rfl, q⟩
  have D := C5.call q
  clear q C5
  go_wp2_with (first
    | (refine wpList_exec rfl (exec_neqSl sl0 (.tmp 99) (.tmp 100) rfl rfl rfl) ?_)
    | (refine wpList_exec rfl (exec_loadH (.tmp 2) rfl g1 rfl (H2.out _ D.bel) Try.underlying26 rfl Try.szSl rfl) ?_))
  refine (HM _).mono ?_
  rintro e w21 ⟨rfl, q⟩
  have D2 := D.call q
  clear q D HM
  go_wp2_with fail
  have Q21 := D2.bel
  refine held_begin (by kernel_rfl) ?_
  refine held_call (i := 0) (fuel := 29) (by kernel_rfl) rfl (by rfl) (fun K hK => ?_)
  go_simp
  refine (awake22_any _).mono ?_
  rintro e w22 ⟨rfl, q⟩
  refine hK _ _ ((Since.drew w21).trans q) ?_
  have Q22 : Below w4.heap.size w4 w22 := btrans Q21.drew q
  clear hK K q D2 Q21
  refine held_reads (rs := [1, 2, 3, 4, 5, 6, 7, 8, 9, 10, 11, 12, 13, 14, 15, 16, 17, 18]) (fuel := 11) (by kernel_rfl) (fun c d v a w h => by cases d <;> exact h) (by kernel_rfl) (Since.refl _) (fun K hK => ?_)
  go_simp
  refine calm_move _ rfl (by rfl) rfl ?_
  go_simp
  refine calm_move _ rfl (by rfl) rfl ?_
  go_simp
  refine calm_do (.bool true) rfl (by rfl) (fun w' hw' => ?_) ?_
  · go_simp
  go_simp
  refine calm_do (.bool true) rfl (by rfl) (fun w' hw' => ?_) ?_
  · go_simp
  go_simp
  refine calm_move _ rfl (by rfl) rfl ?_
  go_simp
  refine calm_move _ rfl (by rfl) rfl ?_
  go_simp
  refine calm_move _ rfl (by rfl) rfl ?_
  go_simp
  refine calm_do (.bool true) rfl (by rfl) (fun w' hw' => ?_) ?_
  · go_simp
  go_simp
  refine calm_do (.bool true) rfl (by rfl) (fun w' hw' => ?_) ?_
  · go_simp
  go_simp
  refine calm_move _ rfl (by rfl) rfl ?_
  go_simp
  refine calm_move _ rfl (by rfl) rfl ?_
  go_simp
  refine calm_move _ rfl (by rfl) rfl ?_
  go_simp
  refine calm_do (.bool true) rfl (by rfl) (fun w' hw' => ?_) ?_
  · go_simp
  go_simp
  refine calm_do (.bool true) rfl (by rfl) (fun w' hw' => ?_) ?_
  · go_simp
  go_simp
  refine calm_move _ rfl (by rfl) rfl ?_
  go_simp
  refine calm_move _ rfl (by rfl) rfl ?_
  go_simp
  refine calm_do (.string (strOfNums (bytesSl s))) rfl (by rfl) (fun w' hw' => ?_) ?_
  · have kc := conv_row (P := Try.prog) Try.underlying29 Try.underlying5 Try.underlying9 (HRB.out w' (btrans Q22 hw'))
    go_simp
  go_simp
  refine calm_do (.agg #[.int .i64 s.f, .int .i64 s.a.t, .bool s.a.g, .int .i64 s.b.t, .bool s.b.g]) rfl (by rfl) (fun w' hw' => exec_loadH (.tmp 2) rfl g1 rfl (H2.out _ (btrans Q22 hw')) Try.underlying26 rfl Try.szSl rfl) ?_
  go_simp
  refine calm_nil (hK.out _ ?_)
  clear hK K
  refine held_call (i := 19) (fuel := 10) (by kernel_rfl) rfl (by rfl) (fun K hK => ?_)
  go_simp
  refine (KB _).mono ?_
  rintro e w23 ⟨u, rfl, own, q⟩
  obtain ⟨au, cu, rfl, ru⟩ := row_of_owns own
  refine hK _ _ q ?_
  have Q23 : Below w4.heap.size w4 w23 := btrans Q22 q
  clear hK K q KB own Q22
  have HE : Hid (((strOfNums (bytesSl s)).toList == (strOfNums (bytesSl s)).toList) = true) := by show _ = _; simp
  refine held_reads (rs := [20, 21, 22, 23, 24, 25]) (fuel := 4) (by kernel_rfl) (fun c d v a w h => by cases d <;> exact h) (by kernel_rfl) (Since.refl _) (fun K hK => ?_)
  go_simp
  refine calm_do (.string (strOfNums (bytesSl s))) rfl (by rfl) (fun w' hw' => ?_) ?_
  · have kc := conv_row (P := Try.prog) Try.underlying29 Try.underlying5 Try.underlying9 (ru.below hw' (Nat.le_refl _))
    go_simp
  go_simp
  refine calm_do (.bool true) rfl (by rfl) (fun w' hw' => ?_) ?_
  · go_simp
  go_simp
  refine calm_do (.bool true) rfl (by rfl) (fun w' hw' => ?_) ?_
  · go_simp
  go_simp
  refine calm_move _ rfl (by rfl) rfl ?_
  go_simp
  refine calm_move _ rfl (by rfl) rfl ?_
  go_simp
  refine calm_do (.agg #[.int .i64 s.f, .int .i64 s.a.t, .bool s.a.g, .int .i64 s.b.t, .bool s.b.g]) rfl (by rfl) (fun w' hw' => exec_loadH (.tmp 2) rfl g1 rfl (H2.out _ (btrans Q23 hw')) Try.underlying26 rfl Try.szSl rfl) ?_
  go_simp
  refine calm_nil (hK.out _ ?_)
  clear hK K
  refine held_call (i := 26) (fuel := 3) (by kernel_rfl) rfl (by rfl) (fun K hK => ?_)
  go_simp
  refine (KO _).mono ?_
  rintro e w24 ⟨u2, rfl, own, q⟩
  obtain ⟨a2, c2, rfl, r2⟩ := row_of_owns own
  refine hK _ _ q ?_
  have Q24 : Below w4.heap.size w4 w24 := btrans Q23 q
  clear hK K q KO own Q23 ru
  refine held_call (i := 27) (fuel := 2) (by kernel_rfl) rfl (by rfl) (fun K hK => ?_)
  go_simp
  refine (ints_any _ _ _ _ _ _ _ _ _ (HRO.out _ Q24) r2).mono ?_
  rintro e w25 ⟨rfl, q⟩
  refine hK _ _ q ?_
  have Q25 : Below w4.heap.size w4 w25 := btrans Q24 q
  clear hK K q Q24 r2
  have HT1 : Hid (decide (orderSl s = orderSl s) = true) := decide_eq_true rfl
  rw [HT1.out]
  refine held_reads (rs := [28]) (fuel := 1) (by kernel_rfl) (fun c d v a w h => by cases d <;> exact h) (by kernel_rfl) (Since.refl _) (fun K hK => ?_)
  go_simp
  refine calm_do (.bool true) rfl (by rfl) (fun w' hw' => ?_) ?_
  · go_simp
  go_simp
  refine calm_nil (hK.out _ ?_)
  clear hK K
  refine av_op (i := 29) (fuel := 0) (by kernel_rfl) rfl (by rfl) (fun K hK => ?_)
  go_simp
  refine hK _ _ (Since.refl _) ?_
  clear hK K
  refine wpAnyH_done (by kernel_rfl) ?_ _
  have HW : Hid (Below w.heap.size w w25) := HQ.out _ Q25
  clear Q25 HQ H2 HRB HRO
  go_wp2_with fail
  go_ret
  exact ⟨rfl, HW.out⟩
theorem walk_slotsTell (w : World) (s : Sl) (i : Int) : Calls Try.prog 3 #[.agg #[.int .i64 s.f, .int .i64 s.a.t, .bool s.a.g, .int .i64 s.b.t, .bool s.b.g], .int .i64 i] w fun e w' => e = .returned (.bool true) ∧ Below w.heap.size w w' := by
  cases hm : maySl s
  · exact tell_no w s i hm
  · exact tell_yes w s i hm
end Go.Proofs.Ytagppgdigabbmaa.N
