/-
  Layer 17's laws: Unpacks.
-/
import Derived.Test.YtacicjnhpklkfaaDoorCurveFace
import Derived.Test.YtacicjnhpklkfaaDoorCurveRef3
namespace Go.Proofs.YtacicjnhpklkfaaDoor.N
open Go.RowKit
set_option linter.unusedVariables false
set_option maxRecDepth 8192

set_option maxHeartbeats 800000 in
theorem unpacks_no (x y : Nat) (hx : x < 2 ^ 256) (hy : y < 2 ^ 256) (h : ¬ OnN x y) (w : World) (hd : DAt w) : Calls Tryd.prog 8 #[.agg (pA x y)] w fun e w' => e = .returned (.bool true) ∧ Below w.heap.size w w' := by
  have HO : Hid (∀ w, Calls Tryd.prog 9 #[.agg (pA x y)] w fun e w' => e = .returned (.bool false) ∧ Below w.heap.size w w') := fun w => ron_no hx hy h w
  clear hx hy h
  have V0 := Vars.start w
  go_enter Tryd.func8, Tryd.ntmps8
  go_wp2_with (first
    | (refine wpList_boxV V0 1 24 _ rfl rfl rfl (pA x y) rfl ?_; intro w1 g2 V3)
    | (refine wpList_exec rfl (exec_loadS V3 0 rfl _ rfl rfl Tryd.underlying24 Tryd.szP (pA_size _ _)) ?_))
  refine (HO.out w1).mono ?_
  rintro e w4 ⟨rfl, q6⟩
  have V5 := V3.call q6
  clear q6 V3
  go_wp2_with fail
  refine (awake17_any w4 (hd.of V5)).mono ?_
  rintro e w7 ⟨rfl, q9⟩
  have V8 := V5.call q9
  clear q9 V5
  go_wp2_with fail
  go_ret
  exact ⟨rfl, V8.bel⟩
set_option maxHeartbeats 1600000 in
theorem unpacks_yes {p : Pt} (hp : OnC p) (w : World) (hd : DAt w) : Calls Tryd.prog 8 #[.agg (pA p.x.val p.y.val)] w fun e w' => e = .returned (.bool true) ∧ Below w.heap.size w w' := by
  have HO : Hid (∀ w, Calls Tryd.prog 9 #[.agg (pA p.x.val p.y.val)] w fun e w' => e = .returned (.bool true) ∧ Below w.heap.size w w') := fun w => ron_yes hp w
  have HP : Hid (∀ w, Calls Tryd.prog 17 #[.agg (pA p.x.val p.y.val)] w fun e w' => e = .returned (.agg (bA (packN p))) ∧ Below w.heap.size w w') := fun w => rPack_yes hp w
  have HU : Hid (∀ w, DAt w → Calls Tryd.prog 25 #[.agg (bA (packN p))] w fun e w' => e = .returned (.tuple #[.agg (pA p.x.val p.y.val), .int .i64 0]) ∧ Below w.heap.size w w') := fun w hd => cUnpack_yes hp w hd
  have HL : Hid (p.x.val < 2 ^ 256 ∧ p.y.val < 2 ^ 256) := pt256 p
  clear hp
  generalize packN p = k at *
  generalize p.x.val = px at *
  generalize p.y.val = py at *
  have V0 := Vars.start w
  go_enter Tryd.func8, Tryd.ntmps8
  go_wp2_with (first
    | (refine wpList_boxV V0 1 24 _ rfl rfl rfl (pA px py) rfl ?_; intro w1 g2 V3)
    | (refine wpList_exec rfl (exec_loadS V3 0 rfl _ rfl rfl Tryd.underlying24 Tryd.szP (pA_size _ _)) ?_))
  refine (HO.out w1).mono ?_
  rintro e w4 ⟨rfl, q6⟩
  have V5 := V3.call q6
  clear q6 V3
  go_wp2_with (refine wpList_exec rfl (exec_loadS V5 0 rfl _ rfl rfl Tryd.underlying24 Tryd.szP (pA_size _ _)) ?_)
  refine (HP.out w4).mono ?_
  rintro e w7 ⟨rfl, q9⟩
  have V8 := V5.call q9
  clear q9 V5
  go_wp2_with fail
  refine (HU.out w7 (hd.of V8)).mono ?_
  rintro e w10 ⟨rfl, q12⟩
  have V11 := V8.call q12
  clear q12 V8
  go_wp2_with (first
    | (refine wpList_allocV V11 3 24 rfl rfl rfl (pA 0 0) zeroP ?_; intro w13 g14 V15)
    | (refine wpList_storeV V15 0 rfl _ (.tmp 13) rfl rfl rfl (pA px py) rfl rfl Tryd.szP (pA_size _ _) (pA_size _ _) (pA_one _ _) ?_; intro w16 V17))
  refine (awake17_any w16 (hd.of V17)).mono ?_
  rintro e w18 ⟨rfl, q20⟩
  have V19 := V17.call q20
  clear q20 V17
  go_wp2_with (first
    | (refine wpList_exec rfl (exec_loadS V19 0 rfl _ rfl rfl Tryd.underlying24 Tryd.szP (pA_size _ _)) ?_)
    | (refine wpList_exec rfl (exec_loadS V19 1 rfl _ rfl rfl Tryd.underlying24 Tryd.szP (pA_size _ _)) ?_)
    | (refine wpList_exec rfl (exec_eqlP _ _ rfl true _ _ _ _ (ptrue _ _) rfl rfl HL.out HL.out) ?_))
  go_ret
  exact ⟨rfl, V19.bel⟩
theorem walk_CurveUnpacks (x y : Nat) (hx : x < 2 ^ 256) (hy : y < 2 ^ 256) (w : World) (hd : DAt w) : Calls Tryd.prog 8 #[.agg (pA x y)] w fun e w' => e = .returned (.bool true) ∧ Below w.heap.size w w' := by
  by_cases h : OnN x y
  · obtain ⟨p, hp, rfl, rfl⟩ := h
    exact unpacks_yes hp w hd
  · exact unpacks_no x y hx hy h w hd
end Go.Proofs.YtacicjnhpklkfaaDoor.N
