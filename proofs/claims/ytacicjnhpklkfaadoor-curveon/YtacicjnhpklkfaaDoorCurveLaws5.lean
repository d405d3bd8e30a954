/-
  Layer 17's laws: On.
-/
import Derived.Test.YtacicjnhpklkfaaDoorCurveFace
import Derived.Test.YtacicjnhpklkfaaDoorCurveRef
namespace Go.Proofs.YtacicjnhpklkfaaDoor.N
open Go.RowKit
set_option linter.unusedVariables false
set_option maxRecDepth 8192

set_option maxHeartbeats 800000 in
theorem on_long0 (x y u v : Nat) (w : World) (pa : Option Addr) (la ka : Nat) (hl : 40 < la) : Calls Tryd.prog 3 #[.agg (pA x y), .slice pa la ka, .agg (pA u v)] w fun e w' => e = .returned (.bool true) ∧ Below w.heap.size w w' := by
  have hl9 : (40 : Int) < (la : Int) := by omega
  have V0 := Vars.start w
  go_enter Tryd.func3, Tryd.ntmps3
  go_wp2_with (first
    | (refine wpList_boxV V0 3 24 _ rfl rfl rfl (pA x y) rfl ?_; intro w1 g2 V3)
    | (refine wpList_boxV V3 5 24 _ rfl rfl rfl (pA u v) rfl ?_; intro w4 g5 V6))
  go_ret
  exact ⟨rfl, V6.bel⟩
theorem base_x0 : (bA pbase.x.val)[0]? = some (.int .u8 26) := by
  rw [show pbase.x.val = baseX from rfl, bA_get _ 0 (by decide), show baseX / 256 ^ 0 % 256 = 26 from by decide]; rfl
set_option maxHeartbeats 6400000 in
theorem on_law_no (x y : Nat) (hx : x < 2 ^ 256) (hy : y < 2 ^ 256) (hn : ¬ OnN x y) (pa : Option Addr) (la ka : Nat) (u v : Nat) (hu : u < 2 ^ 256) (hv : v < 2 ^ 256) (w : World) (hd : DAt w) (h0 : la ≤ 40) : Calls Tryd.prog 3 #[.agg (pA x y), .slice pa la ka, .agg (pA u v)] w fun e w' => e = .returned (.bool true) ∧ Below w.heap.size w w' := by
  have HR : Hid (∀ w, Calls Tryd.prog 9 #[.agg (pA x y)] w fun e w' => e = .returned (.bool false) ∧ Below w.heap.size w w') := fun w => ron_no hx hy hn w
  have HA : Hid (∀ w, DAt w → Calls Tryd.prog 10 #[.agg (pA x y), .agg (pA u v)] w fun e w' => e = .returned (.tuple #[.agg (pA 0 0), .int .i64 170]) ∧ Below w.heap.size w w') := fun w hd => cAdd_no1 x y u v w hd hx hy hn
  have HC : Hid (∀ w, DAt w → Calls Tryd.prog 10 #[.agg (pA u v), .agg (pA x y)] w fun e w' => e = .returned (.tuple #[.agg (pA 0 0), .int .i64 170]) ∧ Below w.heap.size w w') := fun w hd => by
    by_cases h : OnN u v
    · exact cAdd_no2 u v x y w hd h hx hy hn
    · exact cAdd_no1 u v x y w hd hu hv h
  have HN : Hid (∀ w, DAt w → Calls Tryd.prog 11 #[.agg (pA x y)] w fun e w' => e = .returned (.tuple #[.agg (pA 0 0), .int .i64 170]) ∧ Below w.heap.size w w') := fun w hd => cNeg_no x y w hd hx hy hn
  have HS : Hid (∀ w, DAt w → Calls Tryd.prog 12 #[.slice pa la ka, .agg (pA x y)] w fun e w' => e = .returned (.tuple #[.agg (pA 0 0), .int .i64 170]) ∧ Below w.heap.size w w') := fun w hd => cScale_no x y pa la ka w hd hx hy hn
  have HK : Hid (∀ w, DAt w → Calls Tryd.prog 13 #[.agg (pA x y)] w fun e w' => e = .returned (.tuple #[.agg (bA 0), .int .i64 170]) ∧ Below w.heap.size w w') := fun w hd => cPack_no x y w hd hx hy hn
  have HO : Hid (∀ w, DAt w → Calls Tryd.prog 14 #[.agg (pA x y)] w fun e w' => e = .returned (.bool false) ∧ Below w.heap.size w w') := fun w hd => on_no hx hy hn w hd
  have HB : Hid (∀ w, DAt w → Calls Tryd.prog 15 #[] w fun e w' => e = .returned (.agg (pA pbase.x.val pbase.y.val)) ∧ Below w.heap.size w w') := base_any
  have HBO : Hid (∀ w, Calls Tryd.prog 9 #[.agg (pA pbase.x.val pbase.y.val)] w fun e w' => e = .returned (.bool true) ∧ Below w.heap.size w w') := fun w => ron_yes pbase_on w
  have HBX : Hid ((bA pbase.x.val)[0]? = some (.int .u8 26)) := base_x0
  have hl09 : ¬ (40 : Int) < (la : Int) := by omega
  clear hx hy hn hu hv h0
  generalize pbase.x.val = gx at *
  generalize pbase.y.val = gy at *
  have V0 := Vars.start w
  go_enter Tryd.func3, Tryd.ntmps3
  go_wp2_with (first
    | (refine wpList_boxV V0 3 24 _ rfl rfl rfl (pA x y) rfl ?_; intro w1 g2 V3)
    | (refine wpList_boxV V3 5 24 _ rfl rfl rfl (pA u v) rfl ?_; intro w4 g5 V6)
    | (refine wpList_exec rfl (exec_loadS V6 1 rfl _ rfl rfl Tryd.underlying24 Tryd.szP (pA_size _ _)) ?_))
  refine (HR.out w4).mono ?_
  rintro e w7 ⟨rfl, q9⟩
  have V8 := V6.call q9
  clear q9 V6
  go_wp2_with (first
    | (refine wpList_exec rfl (exec_loadS V8 1 rfl _ rfl rfl Tryd.underlying24 Tryd.szP (pA_size _ _)) ?_)
    | (refine wpList_exec rfl (exec_loadS V8 0 rfl _ rfl rfl Tryd.underlying24 Tryd.szP (pA_size _ _)) ?_))
  refine (HA.out w7 (hd.of V8)).mono ?_
  rintro e w10 ⟨rfl, q12⟩
  have V11 := V8.call q12
  clear q12 V8
  go_wp2_with (first
    | (refine wpList_allocV V11 8 24 rfl rfl rfl (pA 0 0) zeroP ?_; intro w13 g14 V15)
    | (refine wpList_storeV V15 0 rfl _ (.tmp 28) rfl rfl rfl (pA 0 0) rfl rfl Tryd.szP (pA_size _ _) (pA_size _ _) (pA_one _ _) ?_; intro w16 V17)
    | (refine wpList_exec rfl (exec_loadS V17 1 rfl _ rfl rfl Tryd.underlying24 Tryd.szP (pA_size _ _)) ?_)
    | (refine wpList_exec rfl (exec_loadS V17 2 rfl _ rfl rfl Tryd.underlying24 Tryd.szP (pA_size _ _)) ?_))
  refine (HC.out w16 (hd.of V17)).mono ?_
  rintro e w18 ⟨rfl, q20⟩
  have V19 := V17.call q20
  clear q20 V17
  go_wp2_with (first
    | (refine wpList_allocV V19 10 24 rfl rfl rfl (pA 0 0) zeroP ?_; intro w21 g22 V23)
    | (refine wpList_storeV V23 0 rfl _ (.tmp 34) rfl rfl rfl (pA 0 0) rfl rfl Tryd.szP (pA_size _ _) (pA_size _ _) (pA_one _ _) ?_; intro w24 V25)
    | (refine wpList_exec rfl (exec_loadS V25 3 rfl _ rfl rfl Tryd.underlying24 Tryd.szP (pA_size _ _)) ?_))
  refine (HN.out w24 (hd.of V25)).mono ?_
  rintro e w26 ⟨rfl, q28⟩
  have V27 := V25.call q28
  clear q28 V25
  go_wp2_with (first
    | (refine wpList_allocV V27 12 24 rfl rfl rfl (pA 0 0) zeroP ?_; intro w29 g30 V31)
    | (refine wpList_storeV V31 0 rfl _ (.tmp 39) rfl rfl rfl (pA 0 0) rfl rfl Tryd.szP (pA_size _ _) (pA_size _ _) (pA_one _ _) ?_; intro w32 V33)
    | (refine wpList_exec rfl (exec_loadS V33 4 rfl _ rfl rfl Tryd.underlying24 Tryd.szP (pA_size _ _)) ?_))
  refine (HS.out w32 (hd.of V33)).mono ?_
  rintro e w34 ⟨rfl, q36⟩
  have V35 := V33.call q36
  clear q36 V33
  go_wp2_with (first
    | (refine wpList_allocV V35 14 24 rfl rfl rfl (pA 0 0) zeroP ?_; intro w37 g38 V39)
    | (refine wpList_storeV V39 0 rfl _ (.tmp 45) rfl rfl rfl (pA 0 0) rfl rfl Tryd.szP (pA_size _ _) (pA_size _ _) (pA_one _ _) ?_; intro w40 V41)
    | (refine wpList_exec rfl (exec_loadS V41 5 rfl _ rfl rfl Tryd.underlying24 Tryd.szP (pA_size _ _)) ?_))
  refine (HK.out w40 (hd.of V41)).mono ?_
  rintro e w42 ⟨rfl, q44⟩
  have V43 := V41.call q44
  clear q44 V41
  go_wp2_with (first
    | (refine wpList_allocV V43 16 22 rfl rfl rfl (bA 0) zeroB ?_; intro w45 g46 V47)
    | (refine wpList_storeV V47 0 rfl _ (.tmp 50) rfl rfl rfl (bA 0) rfl rfl Tryd.szB (bA_size _) (bA_size _) (bA_one _) ?_; intro w48 V49)
    | (refine wpList_exec rfl (exec_loadS V49 6 rfl _ rfl rfl Tryd.underlying24 Tryd.szP (pA_size _ _)) ?_))
  refine (HO.out w48 (hd.of V49)).mono ?_
  rintro e w50 ⟨rfl, q52⟩
  have V51 := V49.call q52
  clear q52 V49
  go_wp2_with fail
  refine (HB.out w50 (hd.of V51)).mono ?_
  rintro e w53 ⟨rfl, q55⟩
  have V54 := V51.call q55
  clear q55 V51
  go_wp2_with fail
  refine (HBO.out w53).mono ?_
  rintro e w56 ⟨rfl, q58⟩
  have V57 := V54.call q58
  clear q58 V54
  go_wp2_with fail
  refine (HB.out w56 (hd.of V57)).mono ?_
  rintro e w59 ⟨rfl, q61⟩
  have V60 := V57.call q61
  clear q61 V57
  go_wp2_with (first
    | (refine wpList_exec rfl (exec_fieldV rfl rfl Tryd.underlying24 rfl (pA_part0 _ _) Tryd.underlying22 Tryd.szB (bA_size _) (by rw [pA_size]; decide)) ?_)
    | (refine wpList_exec rfl (exec_indexV rfl (bA gx) .i64 0 rfl rfl Tryd.underlying22 Tryd.underlying5 Tryd.sz8 (by decide) HBX.out) ?_)
    | (refine wpList_buildV 70 24 _ rfl rfl rfl (pA 0 0) built_P0 ?_)
    | (refine wpList_allocV V60 18 24 rfl rfl rfl (pA 0 0) zeroP ?_; intro w62 g63 V64)
    | (refine wpList_storeV V64 0 rfl _ (.tmp 70) rfl rfl rfl (pA 0 0) rfl rfl Tryd.szP (pA_size _ _) (pA_size _ _) (pA_one _ _) ?_; intro w65 V66))
  refine (awake17_any w65 (hd.of V66)).mono ?_
  rintro e w67 ⟨rfl, q69⟩
  have V68 := V66.call q69
  clear q69 V66
  go_wp2_with (first
    | (refine wpList_exec rfl (exec_loadS V68 5 rfl _ rfl rfl Tryd.underlying24 Tryd.szP (pA_size _ _)) ?_)
    | (refine wpList_exec rfl (exec_loadS V68 0 rfl _ rfl rfl Tryd.underlying24 Tryd.szP (pA_size _ _)) ?_)
    | (refine wpList_exec rfl (exec_eqlP _ _ rfl true _ _ _ _ (ptrue _ _) rfl rfl po256 po256) ?_)
    | (refine wpList_exec rfl (exec_loadS V68 4 rfl _ rfl rfl Tryd.underlying24 Tryd.szP (pA_size _ _)) ?_)
    | (refine wpList_exec rfl (exec_loadS V68 0 rfl _ rfl rfl Tryd.underlying24 Tryd.szP (pA_size _ _)) ?_)
    | (refine wpList_exec rfl (exec_eqlP _ _ rfl true _ _ _ _ (ptrue _ _) rfl rfl po256 po256) ?_)
    | (refine wpList_exec rfl (exec_loadS V68 3 rfl _ rfl rfl Tryd.underlying24 Tryd.szP (pA_size _ _)) ?_)
    | (refine wpList_exec rfl (exec_loadS V68 0 rfl _ rfl rfl Tryd.underlying24 Tryd.szP (pA_size _ _)) ?_)
    | (refine wpList_exec rfl (exec_eqlP _ _ rfl true _ _ _ _ (ptrue _ _) rfl rfl po256 po256) ?_)
    | (refine wpList_exec rfl (exec_loadS V68 2 rfl _ rfl rfl Tryd.underlying24 Tryd.szP (pA_size _ _)) ?_)
    | (refine wpList_exec rfl (exec_loadS V68 0 rfl _ rfl rfl Tryd.underlying24 Tryd.szP (pA_size _ _)) ?_)
    | (refine wpList_exec rfl (exec_eqlP _ _ rfl true _ _ _ _ (ptrue _ _) rfl rfl po256 po256) ?_)
    | (refine wpList_loadV V68 1 rfl 117 _ rfl rfl rfl rfl Tryd.underlying22 Tryd.szB (bA_size _) ?_)
    | (refine wpList_buildV 118 22 _ rfl rfl rfl (bA 0) bA_num0 ?_)
    | (refine wpList_exec rfl (exec_eqlB _ _ rfl true _ _ (decide_eq_true rfl) rfl rfl zero2 zero2) ?_))
  go_ret
  exact ⟨rfl, V68.bel⟩
set_option maxHeartbeats 6400000 in
theorem on_law_yes {p : Pt} (hp : OnC p) (a : List Nat) (da : Dig a) (pa : Option Addr) (la ka : Nat) (u v : Nat) (sx sy tx ty e1 e2 : Nat) (HA : Hid (∀ w, DAt w → Calls Tryd.prog 10 #[.agg (pA p.x.val p.y.val), .agg (pA u v)] w fun e w' => e = .returned (.tuple #[.agg (pA sx sy), .int .i64 (e1 : Int)]) ∧ Below w.heap.size w w')) (HC : Hid (∀ w, DAt w → Calls Tryd.prog 10 #[.agg (pA u v), .agg (pA p.x.val p.y.val)] w fun e w' => e = .returned (.tuple #[.agg (pA tx ty), .int .i64 (e2 : Int)]) ∧ Below w.heap.size w w')) (w : World) (hd : DAt w) (ra : Row .u8 w pa la ka (nI a)) (h0 : la ≤ 40) : Calls Tryd.prog 3 #[.agg (pA p.x.val p.y.val), .slice pa la ka, .agg (pA u v)] w fun e w' => e = .returned (.bool true) ∧ Below w.heap.size w w' := by
  have HR : Hid (∀ w, Calls Tryd.prog 9 #[.agg (pA p.x.val p.y.val)] w fun e w' => e = .returned (.bool true) ∧ Below w.heap.size w w') := fun w => ron_yes hp w
  have HN : Hid (∀ w, DAt w → Calls Tryd.prog 11 #[.agg (pA p.x.val p.y.val)] w fun e w' => e = .returned (.tuple #[.agg (pA (pneg p).x.val (pneg p).y.val), .int .i64 0]) ∧ Below w.heap.size w w') := fun w hd => cNeg_yes hp w hd
  have HS : Hid (∀ w', DAt w' → Below w.heap.size w w' → Calls Tryd.prog 12 #[.slice pa la ka, .agg (pA p.x.val p.y.val)] w' fun e w'' => e = .returned (.tuple #[.agg (pA (ptimes (vL a) p).x.val (ptimes (vL a) p).y.val), .int .i64 0]) ∧ Below w'.heap.size w' w'') := fun w' hd q => cScale_yes a da pa la ka hp w' hd (ra.below q (Nat.le_refl _)) (by omega)
  have HK : Hid (∀ w, DAt w → Calls Tryd.prog 13 #[.agg (pA p.x.val p.y.val)] w fun e w' => e = .returned (.tuple #[.agg (bA (packN p)), .int .i64 0]) ∧ Below w.heap.size w w') := fun w hd => cPack_yes hp w hd
  have HO : Hid (∀ w, DAt w → Calls Tryd.prog 14 #[.agg (pA p.x.val p.y.val)] w fun e w' => e = .returned (.bool true) ∧ Below w.heap.size w w') := fun w hd => on_yes hp w hd
  have O1 : Hid (∀ w, Calls Tryd.prog 9 #[.agg (pA (pneg p).x.val (pneg p).y.val)] w fun e w' => e = .returned (.bool true) ∧ Below w.heap.size w w') := fun w => ron_yes (pneg_on hp) w
  have O2 : Hid (∀ w, Calls Tryd.prog 9 #[.agg (pA (ptimes (vL a) p).x.val (ptimes (vL a) p).y.val)] w fun e w' => e = .returned (.bool true) ∧ Below w.heap.size w w') := fun w => ron_yes (ptimes_on hp _) w
  have K2 : Hid (∀ w, Calls Tryd.prog 17 #[.agg (pA p.x.val p.y.val)] w fun e w' => e = .returned (.agg (bA (packN p))) ∧ Below w.heap.size w w') := fun w => rPack_yes hp w
  have LK : Hid (packN p < 2 ^ 256) := packN_lt p
  have HB : Hid (∀ w, DAt w → Calls Tryd.prog 15 #[] w fun e w' => e = .returned (.agg (pA pbase.x.val pbase.y.val)) ∧ Below w.heap.size w w') := base_any
  have HBO : Hid (∀ w, Calls Tryd.prog 9 #[.agg (pA pbase.x.val pbase.y.val)] w fun e w' => e = .returned (.bool true) ∧ Below w.heap.size w w') := fun w => ron_yes pbase_on w
  have HBX : Hid ((bA pbase.x.val)[0]? = some (.int .u8 26)) := base_x0
  have hl09 : ¬ (40 : Int) < (la : Int) := by omega
  clear hp da ra h0
  generalize packN p = k at *
  generalize (pneg p).x.val = nx at *
  generalize (pneg p).y.val = ny at *
  generalize (ptimes (vL a) p).x.val = cx at *
  generalize (ptimes (vL a) p).y.val = cy at *
  generalize p.x.val = px at *
  generalize p.y.val = py at *
  generalize pbase.x.val = gx at *
  generalize pbase.y.val = gy at *
  have V0 := Vars.start w
  go_enter Tryd.func3, Tryd.ntmps3
  go_wp2_with (first
    | (refine wpList_boxV V0 3 24 _ rfl rfl rfl (pA px py) rfl ?_; intro w1 g2 V3)
    | (refine wpList_boxV V3 5 24 _ rfl rfl rfl (pA u v) rfl ?_; intro w4 g5 V6)
    | (refine wpList_exec rfl (exec_loadS V6 1 rfl _ rfl rfl Tryd.underlying24 Tryd.szP (pA_size _ _)) ?_))
  refine (HR.out w4).mono ?_
  rintro e w7 ⟨rfl, q9⟩
  have V8 := V6.call q9
  clear q9 V6
  go_wp2_with (first
    | (refine wpList_exec rfl (exec_loadS V8 1 rfl _ rfl rfl Tryd.underlying24 Tryd.szP (pA_size _ _)) ?_)
    | (refine wpList_exec rfl (exec_loadS V8 0 rfl _ rfl rfl Tryd.underlying24 Tryd.szP (pA_size _ _)) ?_))
  refine (HA.out w7 (hd.of V8)).mono ?_
  rintro e w10 ⟨rfl, q12⟩
  have V11 := V8.call q12
  clear q12 V8
  go_wp2_with (first
    | (refine wpList_allocV V11 8 24 rfl rfl rfl (pA 0 0) zeroP ?_; intro w13 g14 V15)
    | (refine wpList_storeV V15 0 rfl _ (.tmp 28) rfl rfl rfl (pA sx sy) rfl rfl Tryd.szP (pA_size _ _) (pA_size _ _) (pA_one _ _) ?_; intro w16 V17)
    | (refine wpList_exec rfl (exec_loadS V17 1 rfl _ rfl rfl Tryd.underlying24 Tryd.szP (pA_size _ _)) ?_)
    | (refine wpList_exec rfl (exec_loadS V17 2 rfl _ rfl rfl Tryd.underlying24 Tryd.szP (pA_size _ _)) ?_))
  refine (HC.out w16 (hd.of V17)).mono ?_
  rintro e w18 ⟨rfl, q20⟩
  have V19 := V17.call q20
  clear q20 V17
  go_wp2_with (first
    | (refine wpList_allocV V19 10 24 rfl rfl rfl (pA 0 0) zeroP ?_; intro w21 g22 V23)
    | (refine wpList_storeV V23 0 rfl _ (.tmp 34) rfl rfl rfl (pA tx ty) rfl rfl Tryd.szP (pA_size _ _) (pA_size _ _) (pA_one _ _) ?_; intro w24 V25)
    | (refine wpList_exec rfl (exec_loadS V25 3 rfl _ rfl rfl Tryd.underlying24 Tryd.szP (pA_size _ _)) ?_))
  refine (HN.out w24 (hd.of V25)).mono ?_
  rintro e w26 ⟨rfl, q28⟩
  have V27 := V25.call q28
  clear q28 V25
  go_wp2_with (first
    | (refine wpList_allocV V27 12 24 rfl rfl rfl (pA 0 0) zeroP ?_; intro w29 g30 V31)
    | (refine wpList_storeV V31 0 rfl _ (.tmp 39) rfl rfl rfl (pA nx ny) rfl rfl Tryd.szP (pA_size _ _) (pA_size _ _) (pA_one _ _) ?_; intro w32 V33)
    | (refine wpList_exec rfl (exec_loadS V33 4 rfl _ rfl rfl Tryd.underlying24 Tryd.szP (pA_size _ _)) ?_))
  refine (HS.out w32 (hd.of V33) V33.bel).mono ?_
  rintro e w34 ⟨rfl, q36⟩
  have V35 := V33.call q36
  clear q36 V33
  go_wp2_with (first
    | (refine wpList_allocV V35 14 24 rfl rfl rfl (pA 0 0) zeroP ?_; intro w37 g38 V39)
    | (refine wpList_storeV V39 0 rfl _ (.tmp 45) rfl rfl rfl (pA cx cy) rfl rfl Tryd.szP (pA_size _ _) (pA_size _ _) (pA_one _ _) ?_; intro w40 V41)
    | (refine wpList_exec rfl (exec_loadS V41 5 rfl _ rfl rfl Tryd.underlying24 Tryd.szP (pA_size _ _)) ?_))
  refine (HK.out w40 (hd.of V41)).mono ?_
  rintro e w42 ⟨rfl, q44⟩
  have V43 := V41.call q44
  clear q44 V41
  go_wp2_with (first
    | (refine wpList_allocV V43 16 22 rfl rfl rfl (bA 0) zeroB ?_; intro w45 g46 V47)
    | (refine wpList_storeV V47 0 rfl _ (.tmp 50) rfl rfl rfl (bA k) rfl rfl Tryd.szB (bA_size _) (bA_size _) (bA_one _) ?_; intro w48 V49)
    | (refine wpList_exec rfl (exec_loadS V49 6 rfl _ rfl rfl Tryd.underlying24 Tryd.szP (pA_size _ _)) ?_))
  refine (HO.out w48 (hd.of V49)).mono ?_
  rintro e w50 ⟨rfl, q52⟩
  have V51 := V49.call q52
  clear q52 V49
  go_wp2_with fail
  refine (HB.out w50 (hd.of V51)).mono ?_
  rintro e w53 ⟨rfl, q55⟩
  have V54 := V51.call q55
  clear q55 V51
  go_wp2_with fail
  refine (HBO.out w53).mono ?_
  rintro e w56 ⟨rfl, q58⟩
  have V57 := V54.call q58
  clear q58 V54
  go_wp2_with fail
  refine (HB.out w56 (hd.of V57)).mono ?_
  rintro e w59 ⟨rfl, q61⟩
  have V60 := V57.call q61
  clear q61 V57
  go_wp2_with (first
    | (refine wpList_exec rfl (exec_fieldV rfl rfl Tryd.underlying24 rfl (pA_part0 _ _) Tryd.underlying22 Tryd.szB (bA_size _) (by rw [pA_size]; decide)) ?_)
    | (refine wpList_exec rfl (exec_indexV rfl (bA gx) .i64 0 rfl rfl Tryd.underlying22 Tryd.underlying5 Tryd.sz8 (by decide) HBX.out) ?_))
  refine av_open (fun w' => Vars w w' [⟨g46, 22, bA k⟩, ⟨g38, 24, pA cx cy⟩, ⟨g30, 24, pA nx ny⟩, ⟨g22, 24, pA tx ty⟩, ⟨g14, 24, pA sx sy⟩, ⟨g5, 24, pA u v⟩, ⟨g2, 24, pA px py⟩]) (by kernel_rfl) ?_
  have V62 := V60.drew
  refine av_op (i := 0) (fuel := 27) (by kernel_rfl) rfl (by rfl) (fun K hK => ?_)
  go_simp
  refine (awake17_any w59.drew (hd.of V62)).mono ?_
  rintro e w63 ⟨rfl, q65⟩
  have V64 := V62.call q65
  refine hK _ _ (V64) ?_
  clear hK K q65
  refine held_reads (rs := [1, 2, 3, 4, 5, 6, 7, 8, 9, 10, 11, 12, 13, 14]) (fuel := 13) (by kernel_rfl) (fun c d v a w h => by cases d <;> exact h) (by kernel_rfl) (V64) (fun K hK => ?_)
  go_simp
  refine calm_move _ rfl (by rfl) rfl ?_
  go_simp
  refine calm_move _ rfl (by rfl) rfl ?_
  go_simp
  refine calm_do (.bool true) rfl (by rfl) (fun w' hw' => ?_) ?_
  · go_simp
  go_simp
  refine calm_do (.bool true) rfl (by rfl) (fun w' hw' => ?_) ?_
  · go_simp
  go_simp
  refine calm_move _ rfl (by rfl) rfl ?_
  go_simp
  refine calm_move _ rfl (by rfl) rfl ?_
  go_simp
  refine calm_do (.bool true) rfl (by rfl) (fun w' hw' => ?_) ?_
  · go_simp
  go_simp
  refine calm_do (.bool true) rfl (by rfl) (fun w' hw' => ?_) ?_
  · go_simp
  go_simp
  refine calm_move _ rfl (by rfl) rfl ?_
  go_simp
  refine calm_move _ rfl (by rfl) rfl ?_
  go_simp
  refine calm_do (.bool true) rfl (by rfl) (fun w' hw' => ?_) ?_
  · go_simp
  go_simp
  refine calm_do (.bool true) rfl (by rfl) (fun w' hw' => ?_) ?_
  · go_simp
  go_simp
  refine calm_move _ rfl (by rfl) rfl ?_
  go_simp
  refine calm_do (.agg (pA nx ny)) rfl (by rfl) (fun w' hw' => exec_loadS hw' 2 rfl _ rfl rfl Tryd.underlying24 Tryd.szP (pA_size _ _)) ?_
  go_simp
  refine calm_nil (hK.out _ ?_)
  clear hK K
  refine av_op (i := 15) (fuel := 12) (by kernel_rfl) rfl (by rfl) (fun K hK => ?_)
  go_simp
  refine (O1.out w63).mono ?_
  rintro e w66 ⟨rfl, q68⟩
  have V67 := V64.call q68
  refine hK _ _ (V67) ?_
  clear hK K q68
  refine held_reads (rs := [16, 17, 18]) (fuel := 9) (by kernel_rfl) (fun c d v a w h => by cases d <;> exact h) (by kernel_rfl) (V67) (fun K hK => ?_)
  go_simp
  refine calm_do (.bool true) rfl (by rfl) (fun w' hw' => ?_) ?_
  · go_simp
  go_simp
  refine calm_move _ rfl (by rfl) rfl ?_
  go_simp
  refine calm_do (.agg (pA cx cy)) rfl (by rfl) (fun w' hw' => exec_loadS hw' 1 rfl _ rfl rfl Tryd.underlying24 Tryd.szP (pA_size _ _)) ?_
  go_simp
  refine calm_nil (hK.out _ ?_)
  clear hK K
  refine av_op (i := 19) (fuel := 8) (by kernel_rfl) rfl (by rfl) (fun K hK => ?_)
  go_simp
  refine (O2.out w66).mono ?_
  rintro e w69 ⟨rfl, q71⟩
  have V70 := V67.call q71
  refine hK _ _ (V70) ?_
  clear hK K q71
  refine held_reads (rs := [20, 21, 22, 23]) (fuel := 4) (by kernel_rfl) (fun c d v a w h => by cases d <;> exact h) (by kernel_rfl) (V70) (fun K hK => ?_)
  go_simp
  refine calm_do (.bool true) rfl (by rfl) (fun w' hw' => ?_) ?_
  · go_simp
  go_simp
  refine calm_move _ rfl (by rfl) rfl ?_
  go_simp
  refine calm_do (.agg (bA k)) rfl (by rfl) (fun w' hw' => exec_loadV hw' 0 rfl _ rfl rfl Tryd.underlying22 Tryd.szB (bA_size _)) ?_
  go_simp
  refine calm_do (.agg (pA px py)) rfl (by rfl) (fun w' hw' => exec_loadS hw' 6 rfl _ rfl rfl Tryd.underlying24 Tryd.szP (pA_size _ _)) ?_
  go_simp
  refine calm_nil (hK.out _ ?_)
  clear hK K
  refine av_op (i := 24) (fuel := 3) (by kernel_rfl) rfl (by rfl) (fun K hK => ?_)
  go_simp
  refine (K2.out w69).mono ?_
  rintro e w72 ⟨rfl, q74⟩
  have V73 := V70.call q74
  refine hK _ _ (V73) ?_
  clear hK K q74
  refine held_reads (rs := [25, 26, 27]) (fuel := 0) (by kernel_rfl) (fun c d v a w h => by cases d <;> exact h) (by kernel_rfl) (V73) (fun K hK => ?_)
  go_simp
  refine calm_do (.bool true) rfl (by rfl) (fun w' hw' => exec_eqlB _ _ rfl true _ _ (decide_eq_true rfl) rfl rfl LK.out LK.out) ?_
  go_simp
  refine calm_do (.bool true) rfl (by rfl) (fun w' hw' => ?_) ?_
  · go_simp
  go_simp
  refine calm_assign _ rfl (by rfl) rfl ?_
  go_simp
  refine calm_nil (hK.out _ ?_)
  clear hK K
  refine wpAnyH_done (by kernel_rfl) ?_ _
  go_wp2_with fail
  go_ret
  exact ⟨rfl, V73.bel⟩
theorem walk_CurveOn (x y : Nat) (hx : x < 2 ^ 256) (hy : y < 2 ^ 256) (a : List Nat) (da : Dig a) (pa : Option Addr) (la ka : Nat) (u v : Nat) (hu : u < 2 ^ 256) (hv : v < 2 ^ 256) (w : World) (hd : DAt w) (ra : Row .u8 w pa la ka (nI a)) : Calls Tryd.prog 3 #[.agg (pA x y), .slice pa la ka, .agg (pA u v)] w fun e w' => e = .returned (.bool true) ∧ Below w.heap.size w w' := by
  by_cases h0 : la ≤ 40
  · by_cases h : OnN x y
    · obtain ⟨p, hp, rfl, rfl⟩ := h
      by_cases h1 : OnN u v
      · obtain ⟨q, hq, rfl, rfl⟩ := h1
        exact on_law_yes hp a da pa la ka _ _ (psum p q).x.val (psum p q).y.val (psum q p).x.val (psum q p).y.val 0 0 (fun w hd => cAdd_yes hp hq w hd) (fun w hd => cAdd_yes hq hp w hd) w hd ra h0
      · exact on_law_yes hp a da pa la ka u v 0 0 0 0 170 170 (fun w hd => cAdd_no2 _ _ u v w hd ⟨p, hp, rfl, rfl⟩ hu hv h1) (fun w hd => cAdd_no1 u v _ _ w hd hu hv h1) w hd ra h0
    · exact on_law_no x y hx hy h pa la ka u v hu hv w hd h0
  · exact on_long0 x y u v w pa la ka (by omega)
end Go.Proofs.YtacicjnhpklkfaaDoor.N
