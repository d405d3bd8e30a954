/-
  Layer 17's laws: Packs.
-/
import Derived.Test.YtacicjnhpklkfaaDoorCurveFace
import Derived.Test.YtacicjnhpklkfaaDoorCurveRef3
namespace Go.Proofs.YtacicjnhpklkfaaDoor.N
open Go.RowKit
set_option linter.unusedVariables false
set_option maxRecDepth 8192

set_option maxHeartbeats 800000 in
theorem packs_long0 (v : Nat) (w : World) (pa : Option Addr) (la ka : Nat) (hl : 40 < la) : Calls Tryd.prog 7 #[.slice pa la ka, .agg (bA v)] w fun e w' => e = .returned (.bool true) ∧ Below w.heap.size w w' := by
  have hl9 : (40 : Int) < (la : Int) := by omega
  have V0 := Vars.start w
  go_enter Tryd.func7, Tryd.ntmps7
  go_wp2_with (refine wpList_boxV V0 3 22 _ rfl rfl rfl (bA v) rfl ?_; intro w1 g2 V3)
  go_ret
  exact ⟨rfl, V3.bel⟩
set_option maxHeartbeats 3200000 in
theorem packs_yes (a : List Nat) (da : Dig a) (pa : Option Addr) (la ka : Nat) (v : Nat) (r : Pt) (hr : OnC r) (hv : packN r = v) (w : World) (hd : DAt w) (ra : Row .u8 w pa la ka (nI a)) (h0 : la ≤ 40) : Calls Tryd.prog 7 #[.slice pa la ka, .agg (bA v)] w fun e w' => e = .returned (.bool true) ∧ Below w.heap.size w w' := by
  obtain ⟨p, hp⟩ : ∃ p, p = ptimes (vL a) pbase := ⟨_, rfl⟩
  have op : OnC p := by rw [hp]; exact ptimes_on pbase_on _
  have HPp : Hid (∀ w', DAt w' → Below w.heap.size w w' → Calls Tryd.prog 18 #[.slice pa la ka] w' fun e w'' => e = .returned (.agg (pA p.x.val p.y.val)) ∧ Below w'.heap.size w' w'') := fun w' hd q => by
    rw [hp]
    exact point17_any a da pa la ka w' hd (ra.below q (Nat.le_refl _)) (by omega)
  have HK : Hid (∀ w, DAt w → Calls Tryd.prog 13 #[.agg (pA p.x.val p.y.val)] w fun e w' => e = .returned (.tuple #[.agg (bA (packN p)), .int .i64 0]) ∧ Below w.heap.size w w') := fun w hd => cPack_yes op w hd
  have HU : Hid (∀ w, DAt w → Calls Tryd.prog 25 #[.agg (bA (packN p))] w fun e w' => e = .returned (.tuple #[.agg (pA p.x.val p.y.val), .int .i64 0]) ∧ Below w.heap.size w w') := fun w hd => cUnpack_yes op w hd
  have HV : Hid (∀ w, DAt w → Calls Tryd.prog 25 #[.agg (bA v)] w fun e w' => e = .returned (.tuple #[.agg (pA r.x.val r.y.val), .int .i64 0]) ∧ Below w.heap.size w w') := fun w hd => by rw [← hv]; exact cUnpack_yes hr w hd
  have HI : Hid (∀ w, Calls Tryd.prog 26 #[.agg (bA v), .agg (pA r.x.val r.y.val)] w fun e w' => e = .returned (.bool true) ∧ Below w.heap.size w w') := fun w => by rw [← hv]; exact runp_yes hr w
  have L1 : Hid (p.x.val < 2 ^ 256 ∧ p.y.val < 2 ^ 256) := pt256 _
  have hl09 : ¬ (40 : Int) < (la : Int) := by omega
  clear hr hv
  clear hp op da ra h0
  generalize packN p = k at *
  generalize p.x.val = px at *
  generalize p.y.val = py at *
  generalize r.x.val = rx at *
  generalize r.y.val = ry at *
  have V0 := Vars.start w
  go_enter Tryd.func7, Tryd.ntmps7
  go_wp2_with (refine wpList_boxV V0 3 22 _ rfl rfl rfl (bA v) rfl ?_; intro w1 g2 V3)
  refine (HPp.out w1 (hd.of V3) V3.bel).mono ?_
  rintro e w4 ⟨rfl, q6⟩
  have V5 := V3.call q6
  clear q6 V3
  go_wp2_with (first
    | (refine wpList_allocV V5 5 24 rfl rfl rfl (pA 0 0) zeroP ?_; intro w7 g8 V9)
    | (refine wpList_storeV V9 0 rfl _ (.tmp 16) rfl rfl rfl (pA px py) rfl rfl Tryd.szP (pA_size _ _) (pA_size _ _) (pA_one _ _) ?_; intro w10 V11)
    | (refine wpList_exec rfl (exec_loadS V11 0 rfl _ rfl rfl Tryd.underlying24 Tryd.szP (pA_size _ _)) ?_))
  refine (HK.out w10 (hd.of V11)).mono ?_
  rintro e w12 ⟨rfl, q14⟩
  have V13 := V11.call q14
  clear q14 V11
  go_wp2_with (first
    | (refine wpList_allocV V13 6 22 rfl rfl rfl (bA 0) zeroB ?_; intro w15 g16 V17)
    | (refine wpList_storeV V17 0 rfl _ (.tmp 20) rfl rfl rfl (bA k) rfl rfl Tryd.szB (bA_size _) (bA_size _) (bA_one _) ?_; intro w18 V19)
    | (refine wpList_loadV V19 0 rfl 23 _ rfl rfl rfl rfl Tryd.underlying22 Tryd.szB (bA_size _) ?_))
  refine (HU.out w18 (hd.of V19)).mono ?_
  rintro e w20 ⟨rfl, q22⟩
  have V21 := V19.call q22
  clear q22 V19
  go_wp2_with (first
    | (refine wpList_allocV V21 8 24 rfl rfl rfl (pA 0 0) zeroP ?_; intro w23 g24 V25)
    | (refine wpList_storeV V25 0 rfl _ (.tmp 25) rfl rfl rfl (pA px py) rfl rfl Tryd.szP (pA_size _ _) (pA_size _ _) (pA_one _ _) ?_; intro w26 V27)
    | (refine wpList_exec rfl (exec_loadS V27 0 rfl _ rfl rfl Tryd.underlying24 Tryd.szP (pA_size _ _)) ?_)
    | (refine wpList_exec rfl (exec_loadS V27 2 rfl _ rfl rfl Tryd.underlying24 Tryd.szP (pA_size _ _)) ?_)
    | (refine wpList_exec rfl (exec_neqP _ _ rfl false _ _ _ _ (ptrue' _ _) rfl rfl L1.out L1.out) ?_)
    | (refine wpList_loadV V27 3 rfl 39 _ rfl rfl rfl rfl Tryd.underlying22 Tryd.szB (bA_size _) ?_))
  refine (HV.out w26 (hd.of V27)).mono ?_
  rintro e w28 ⟨rfl, q30⟩
  have V29 := V27.call q30
  clear q30 V27
  go_wp2_with (first
    | (refine wpList_allocV V29 10 24 rfl rfl rfl (pA 0 0) zeroP ?_; intro w31 g32 V33)
    | (refine wpList_storeV V33 0 rfl _ (.tmp 41) rfl rfl rfl (pA rx ry) rfl rfl Tryd.szP (pA_size _ _) (pA_size _ _) (pA_one _ _) ?_; intro w34 V35))
  refine (awake17_any w34 (hd.of V35)).mono ?_
  rintro e w36 ⟨rfl, q38⟩
  have V37 := V35.call q38
  clear q38 V35
  go_wp2_with (first
    | (refine wpList_loadV V37 4 rfl 57 _ rfl rfl rfl rfl Tryd.underlying22 Tryd.szB (bA_size _) ?_)
    | (refine wpList_exec rfl (exec_loadS V37 0 rfl _ rfl rfl Tryd.underlying24 Tryd.szP (pA_size _ _)) ?_))
  refine (HI.out w36).mono ?_
  rintro e w39 ⟨rfl, q41⟩
  have V40 := V37.call q41
  clear q41 V37
  go_wp2_with fail
  go_ret
  exact ⟨rfl, V40.bel⟩
set_option maxHeartbeats 3200000 in
theorem packs_no (a : List Nat) (da : Dig a) (pa : Option Addr) (la ka : Nat) (v : Nat) (hv : v < 2 ^ 256) (h : ∀ p, OnC p → packN p ≠ v) (w : World) (hd : DAt w) (ra : Row .u8 w pa la ka (nI a)) (h0 : la ≤ 40) : Calls Tryd.prog 7 #[.slice pa la ka, .agg (bA v)] w fun e w' => e = .returned (.bool true) ∧ Below w.heap.size w w' := by
  obtain ⟨p, hp⟩ : ∃ p, p = ptimes (vL a) pbase := ⟨_, rfl⟩
  have op : OnC p := by rw [hp]; exact ptimes_on pbase_on _
  have HPp : Hid (∀ w', DAt w' → Below w.heap.size w w' → Calls Tryd.prog 18 #[.slice pa la ka] w' fun e w'' => e = .returned (.agg (pA p.x.val p.y.val)) ∧ Below w'.heap.size w' w'') := fun w' hd q => by
    rw [hp]
    exact point17_any a da pa la ka w' hd (ra.below q (Nat.le_refl _)) (by omega)
  have HK : Hid (∀ w, DAt w → Calls Tryd.prog 13 #[.agg (pA p.x.val p.y.val)] w fun e w' => e = .returned (.tuple #[.agg (bA (packN p)), .int .i64 0]) ∧ Below w.heap.size w w') := fun w hd => cPack_yes op w hd
  have HU : Hid (∀ w, DAt w → Calls Tryd.prog 25 #[.agg (bA (packN p))] w fun e w' => e = .returned (.tuple #[.agg (pA p.x.val p.y.val), .int .i64 0]) ∧ Below w.heap.size w w') := fun w hd => cUnpack_yes op w hd
  have HV : Hid (∀ w, DAt w → Calls Tryd.prog 25 #[.agg (bA v)] w fun e w' => e = .returned (.tuple #[.agg (pA 0 0), .int .i64 170]) ∧ Below w.heap.size w w') := fun w hd => cUnpack_no hv h w hd
  have L1 : Hid (p.x.val < 2 ^ 256 ∧ p.y.val < 2 ^ 256) := pt256 _
  have hl09 : ¬ (40 : Int) < (la : Int) := by omega
  clear hv h
  clear hp op da ra h0
  generalize packN p = k at *
  generalize p.x.val = px at *
  generalize p.y.val = py at *
  have V0 := Vars.start w
  go_enter Tryd.func7, Tryd.ntmps7
  go_wp2_with (refine wpList_boxV V0 3 22 _ rfl rfl rfl (bA v) rfl ?_; intro w1 g2 V3)
  refine (HPp.out w1 (hd.of V3) V3.bel).mono ?_
  rintro e w4 ⟨rfl, q6⟩
  have V5 := V3.call q6
  clear q6 V3
  go_wp2_with (first
    | (refine wpList_allocV V5 5 24 rfl rfl rfl (pA 0 0) zeroP ?_; intro w7 g8 V9)
    | (refine wpList_storeV V9 0 rfl _ (.tmp 16) rfl rfl rfl (pA px py) rfl rfl Tryd.szP (pA_size _ _) (pA_size _ _) (pA_one _ _) ?_; intro w10 V11)
    | (refine wpList_exec rfl (exec_loadS V11 0 rfl _ rfl rfl Tryd.underlying24 Tryd.szP (pA_size _ _)) ?_))
  refine (HK.out w10 (hd.of V11)).mono ?_
  rintro e w12 ⟨rfl, q14⟩
  have V13 := V11.call q14
  clear q14 V11
  go_wp2_with (first
    | (refine wpList_allocV V13 6 22 rfl rfl rfl (bA 0) zeroB ?_; intro w15 g16 V17)
    | (refine wpList_storeV V17 0 rfl _ (.tmp 20) rfl rfl rfl (bA k) rfl rfl Tryd.szB (bA_size _) (bA_size _) (bA_one _) ?_; intro w18 V19)
    | (refine wpList_loadV V19 0 rfl 23 _ rfl rfl rfl rfl Tryd.underlying22 Tryd.szB (bA_size _) ?_))
  refine (HU.out w18 (hd.of V19)).mono ?_
  rintro e w20 ⟨rfl, q22⟩
  have V21 := V19.call q22
  clear q22 V19
  go_wp2_with (first
    | (refine wpList_allocV V21 8 24 rfl rfl rfl (pA 0 0) zeroP ?_; intro w23 g24 V25)
    | (refine wpList_storeV V25 0 rfl _ (.tmp 25) rfl rfl rfl (pA px py) rfl rfl Tryd.szP (pA_size _ _) (pA_size _ _) (pA_one _ _) ?_; intro w26 V27)
    | (refine wpList_exec rfl (exec_loadS V27 0 rfl _ rfl rfl Tryd.underlying24 Tryd.szP (pA_size _ _)) ?_)
    | (refine wpList_exec rfl (exec_loadS V27 2 rfl _ rfl rfl Tryd.underlying24 Tryd.szP (pA_size _ _)) ?_)
    | (refine wpList_exec rfl (exec_neqP _ _ rfl false _ _ _ _ (ptrue' _ _) rfl rfl L1.out L1.out) ?_)
    | (refine wpList_loadV V27 3 rfl 39 _ rfl rfl rfl rfl Tryd.underlying22 Tryd.szB (bA_size _) ?_))
  refine (HV.out w26 (hd.of V27)).mono ?_
  rintro e w28 ⟨rfl, q30⟩
  have V29 := V27.call q30
  clear q30 V27
  go_wp2_with (first
    | (refine wpList_allocV V29 10 24 rfl rfl rfl (pA 0 0) zeroP ?_; intro w31 g32 V33)
    | (refine wpList_storeV V33 0 rfl _ (.tmp 41) rfl rfl rfl (pA 0 0) rfl rfl Tryd.szP (pA_size _ _) (pA_size _ _) (pA_one _ _) ?_; intro w34 V35))
  refine (awake17_any w34 (hd.of V35)).mono ?_
  rintro e w36 ⟨rfl, q38⟩
  have V37 := V35.call q38
  clear q38 V35
  go_wp2_with (first
    | (refine wpList_exec rfl (exec_loadS V37 0 rfl _ rfl rfl Tryd.underlying24 Tryd.szP (pA_size _ _)) ?_)
    | (refine wpList_buildV 52 24 _ rfl rfl rfl (pA 0 0) built_P0 ?_)
    | (refine wpList_exec rfl (exec_eqlP _ _ rfl true _ _ _ _ (ptrue _ _) rfl rfl po256 po256) ?_))
  go_ret
  exact ⟨rfl, V37.bel⟩
theorem walk_CurvePacks (a : List Nat) (da : Dig a) (pa : Option Addr) (la ka : Nat) (v : Nat) (hv : v < 2 ^ 256) (w : World) (hd : DAt w) (ra : Row .u8 w pa la ka (nI a)) : Calls Tryd.prog 7 #[.slice pa la ka, .agg (bA v)] w fun e w' => e = .returned (.bool true) ∧ Below w.heap.size w w' := by
  by_cases h0 : la ≤ 40
  · by_cases h : ∃ r, OnC r ∧ packN r = v
    · obtain ⟨r, hr, h1⟩ := h
      exact packs_yes a da pa la ka v r hr h1 w hd ra h0
    · exact packs_no a da pa la ka v hv (fun p hp e => h ⟨p, hp, e⟩) w hd ra h0
  · exact packs_long0 v w pa la ka (by omega)
end Go.Proofs.YtacicjnhpklkfaaDoor.N
