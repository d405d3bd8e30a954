/-
 The code of layer 17 (curve): doubled.
-/
import Derived.Test.YthangiocheodoaaGreatDoorPackFb
import Derived.Test.YthangiocheodoaaGreatDoorPackCb
namespace Go.Proofs.YthangiocheodoaaGreatDoor.N
open Go.RowKit
set_option linter.unusedVariables false
set_option maxRecDepth 8192

set_option maxHeartbeats 6400000 in
theorem doubled_any (p : T3) (w : World) : Calls Tryz.prog 138 #[.agg (tA p.x.val p.y.val p.z.val)] w fun e w' => e = .returned (.agg (tA (dbl3 p).x.val (dbl3 p).y.val (dbl3 p).z.val)) ∧ Below w.heap.size w w' := by
 have H1 : Hid (∀ w, Rt Tryz.prog 56 #[.agg (bA p.x.val), .agg (bA p.x.val)] (.agg (bA ((p.x * p.x).val))) w) := fun w => cmul_any (p.x) (p.x) w
 have H2 : Hid (∀ w, Rt Tryz.prog 56 #[.agg (bA p.y.val), .agg (bA p.y.val)] (.agg (bA ((p.y * p.y).val))) w) := fun w => cmul_any (p.y) (p.y) w
 have H3 : Hid (∀ w, Rt Tryz.prog 56 #[.agg (bA p.z.val), .agg (bA p.z.val)] (.agg (bA ((p.z * p.z).val))) w) := fun w => cmul_any (p.z) (p.z) w
 have H4 : Hid (∀ w, Rt Tryz.prog 27 #[.agg (bA ((p.y * p.y).val)), .agg (bA ((p.x * p.x).val))] (.agg (bA ((p.y * p.y - p.x * p.x).val))) w) := fun w => csub_any (p.y * p.y) (p.x * p.x) w
 have H5 : Hid (∀ w, Rt Tryz.prog 58 #[.agg (bA ((p.z * p.z).val)), .agg (bA ((p.z * p.z).val))] (.agg (bA ((p.z * p.z + p.z * p.z).val))) w) := fun w => cadd_any (p.z * p.z) (p.z * p.z) w
 have H6 : Hid (∀ w, Rt Tryz.prog 27 #[.agg (bA ((p.z * p.z + p.z * p.z).val)), .agg (bA ((p.y * p.y - p.x * p.x).val))] (.agg (bA ((p.z * p.z + p.z * p.z - (p.y * p.y - p.x * p.x)).val))) w) := fun w => csub_any (p.z * p.z + p.z * p.z) (p.y * p.y - p.x * p.x) w
 have H7 : Hid (∀ w, Rt Tryz.prog 56 #[.agg (bA p.x.val), .agg (bA p.y.val)] (.agg (bA ((p.x * p.y).val))) w) := fun w => cmul_any (p.x) (p.y) w
 have H8 : Hid (∀ w, Rt Tryz.prog 58 #[.agg (bA ((p.x * p.y).val)), .agg (bA ((p.x * p.y).val))] (.agg (bA ((p.x * p.y + p.x * p.y).val))) w) := fun w => cadd_any (p.x * p.y) (p.x * p.y) w
 have H9 : Hid (∀ w, Rt Tryz.prog 56 #[.agg (bA ((p.x * p.y + p.x * p.y).val)), .agg (bA ((p.z * p.z + p.z * p.z - (p.y * p.y - p.x * p.x)).val))] (.agg (bA ((dbl3 p).x.val))) w) := fun w => cmul_any (p.x * p.y + p.x * p.y) (p.z * p.z + p.z * p.z - (p.y * p.y - p.x * p.x)) w
 have H10 : Hid (∀ w, Rt Tryz.prog 58 #[.agg (bA ((p.y * p.y).val)), .agg (bA ((p.x * p.x).val))] (.agg (bA ((p.y * p.y + p.x * p.x).val))) w) := fun w => cadd_any (p.y * p.y) (p.x * p.x) w
 have H11 : Hid (∀ w, Rt Tryz.prog 56 #[.agg (bA ((p.y * p.y + p.x * p.x).val)), .agg (bA ((p.y * p.y - p.x * p.x).val))] (.agg (bA ((dbl3 p).y.val))) w) := fun w => cmul_any (p.y * p.y + p.x * p.x) (p.y * p.y - p.x * p.x) w
 have H12 : Hid (∀ w, Rt Tryz.prog 56 #[.agg (bA ((p.y * p.y - p.x * p.x).val)), .agg (bA ((p.z * p.z + p.z * p.z - (p.y * p.y - p.x * p.x)).val))] (.agg (bA ((dbl3 p).z.val))) w) := fun w => cmul_any (p.y * p.y - p.x * p.x) (p.z * p.z + p.z * p.z - (p.y * p.y - p.x * p.x)) w
 generalize (dbl3 p).x.val = rx at *
 generalize (dbl3 p).y.val = ry at *
 generalize (dbl3 p).z.val = rz at *
 generalize (p.z * p.z + p.z * p.z - (p.y * p.y - p.x * p.x)).val = fy at *
 generalize (p.y * p.y - p.x * p.x).val = fx at *
 generalize (p.z * p.z + p.z * p.z).val = z2 at *
 generalize (p.x * p.y + p.x * p.y).val = h2 at *
 generalize (p.y * p.y + p.x * p.x).val = su at *
 generalize (p.x * p.y).val = hf at *
 generalize (p.z * p.z).val = zz at *
 generalize (p.y * p.y).val = yy at *
 generalize (p.x * p.x).val = xx at *
 generalize p.x.val = px at *
 generalize p.y.val = py at *
 generalize p.z.val = pz at *
 have V0 := Vars.start w
 go_enter Tryz.func138, Tryz.ntmps138
 go_wp2_with (first
  | (refine wpList_boxV V0 1 99 _ rfl rfl rfl (tA px py pz) rfl ?_; intro w1 g2 V3)
  | (refine wpList_allocV V3 2 99 rfl rfl rfl (tA 0 0 0) zeroT ?_; intro w4 g5 V6))
 refine av_open (fun w' => Vars w w' [⟨g5, 99, tA 0 0 0⟩, ⟨g2, 99, tA px py pz⟩]) (by kernel_rfl) ?_
 have V7 := V6.drew
 apply av_once33 (Vg := fun ga gb gc w' => Vars w w' [⟨ga, 22, bA 0⟩, ⟨gb, 22, bA 0⟩, ⟨gc, 22, bA 0⟩, ⟨g5, 99, tA 0 0 0⟩, ⟨g2, 99, tA px py pz⟩])
 intro HC8
 apply av_once22 (Vg := fun ga gb w' => Vars w w' [⟨ga, 22, bA 0⟩, ⟨gb, 22, bA 0⟩, ⟨g5, 99, tA 0 0 0⟩, ⟨g2, 99, tA px py pz⟩])
 intro HC9
 apply av_once22 (Vg := fun ga gb w' => Vars w w' [⟨ga, 22, bA 0⟩, ⟨gb, 22, bA 0⟩, ⟨g5, 99, tA 0 0 0⟩, ⟨g2, 99, tA px py pz⟩])
 intro HC10
 apply av_once22 (Vg := fun ga gb w' => Vars w w' [⟨ga, 22, bA 0⟩, ⟨gb, 22, bA 0⟩, ⟨g5, 99, tA 0 0 0⟩, ⟨g2, 99, tA px py pz⟩])
 intro HC11
 apply av_once33 (Vg := fun ga gb gc w' => Vars w w' [⟨ga, 22, bA 0⟩, ⟨gb, 22, bA 0⟩, ⟨gc, 22, bA 0⟩, ⟨g5, 99, tA 0 0 0⟩, ⟨g2, 99, tA px py pz⟩])
 intro HC12
 apply av_once (Vg := fun ga w' => Vars w w' [⟨ga, 22, bA 0⟩, ⟨g5, 99, tA 0 0 0⟩, ⟨g2, 99, tA px py pz⟩])
 intro HC13
 apply av_once (Vg := fun ga w' => Vars w w' [⟨ga, 22, bA 0⟩, ⟨g5, 99, tA 0 0 0⟩, ⟨g2, 99, tA px py pz⟩])
 intro HC14
 apply av_once (Vg := fun ga w' => Vars w w' [⟨ga, 22, bA 0⟩, ⟨g5, 99, tA 0 0 0⟩, ⟨g2, 99, tA px py pz⟩])
 intro HC15
 apply av_once22 (Vg := fun ga gb w' => Vars w w' [⟨ga, 22, bA 0⟩, ⟨gb, 22, bA 0⟩, ⟨g5, 99, tA 0 0 0⟩, ⟨g2, 99, tA px py pz⟩])
 intro HC16
 apply av_once22 (Vg := fun ga gb w' => Vars w w' [⟨ga, 22, bA 0⟩, ⟨gb, 22, bA 0⟩, ⟨g5, 99, tA 0 0 0⟩, ⟨g2, 99, tA px py pz⟩])
 intro HC17
 apply av_once22 (Vg := fun ga gb w' => Vars w w' [⟨ga, 22, bA 0⟩, ⟨gb, 22, bA 0⟩, ⟨g5, 99, tA 0 0 0⟩, ⟨g2, 99, tA px py pz⟩])
 intro HC18
 apply av_once33 (Vg := fun ga gb gc w' => Vars w w' [⟨ga, 22, bA 0⟩, ⟨gb, 22, bA 0⟩, ⟨gc, 22, bA 0⟩, ⟨g5, 99, tA 0 0 0⟩, ⟨g2, 99, tA px py pz⟩])
 intro HC19
 apply av_once (Vg := fun ga w' => Vars w w' [⟨ga, 22, bA 0⟩, ⟨g5, 99, tA 0 0 0⟩, ⟨g2, 99, tA px py pz⟩])
 intro HC20
 apply av_once (Vg := fun ga w' => Vars w w' [⟨ga, 22, bA 0⟩, ⟨g5, 99, tA 0 0 0⟩, ⟨g2, 99, tA px py pz⟩])
 intro HC21
 apply av_once (Vg := fun ga w' => Vars w w' [⟨ga, 22, bA 0⟩, ⟨g5, 99, tA 0 0 0⟩, ⟨g2, 99, tA px py pz⟩])
 intro HC22
 apply av_once22 (Vg := fun ga gb w' => Vars w w' [⟨ga, 22, bA 0⟩, ⟨gb, 22, bA 0⟩, ⟨g5, 99, tA 0 0 0⟩, ⟨g2, 99, tA px py pz⟩])
 intro HC23
 apply av_once22 (Vg := fun ga gb w' => Vars w w' [⟨ga, 22, bA 0⟩, ⟨gb, 22, bA 0⟩, ⟨g5, 99, tA 0 0 0⟩, ⟨g2, 99, tA px py pz⟩])
 intro HC24
 apply av_once22 (Vg := fun ga gb w' => Vars w w' [⟨ga, 22, bA 0⟩, ⟨gb, 22, bA 0⟩, ⟨g5, 99, tA 0 0 0⟩, ⟨g2, 99, tA px py pz⟩])
 intro HC25
 apply av_once33 (Vg := fun ga gb gc w' => Vars w w' [⟨ga, 22, bA 0⟩, ⟨gb, 22, bA 0⟩, ⟨gc, 22, bA 0⟩, ⟨g5, 99, tA 0 0 0⟩, ⟨g2, 99, tA px py pz⟩])
 intro HC26
 apply av_once (Vg := fun ga w' => Vars w w' [⟨ga, 22, bA 0⟩, ⟨g5, 99, tA 0 0 0⟩, ⟨g2, 99, tA px py pz⟩])
 intro HC27
 apply av_once (Vg := fun ga w' => Vars w w' [⟨ga, 22, bA 0⟩, ⟨g5, 99, tA 0 0 0⟩, ⟨g2, 99, tA px py pz⟩])
 intro HC28
 apply av_once (Vg := fun ga w' => Vars w w' [⟨ga, 22, bA 0⟩, ⟨g5, 99, tA 0 0 0⟩, ⟨g2, 99, tA px py pz⟩])
 intro HC29
 apply av_once22 (Vg := fun ga gb w' => Vars w w' [⟨ga, 22, bA 0⟩, ⟨gb, 22, bA 0⟩, ⟨g5, 99, tA 0 0 0⟩, ⟨g2, 99, tA px py pz⟩])
 intro HC30
 apply av_once22 (Vg := fun ga gb w' => Vars w w' [⟨ga, 22, bA 0⟩, ⟨gb, 22, bA 0⟩, ⟨g5, 99, tA 0 0 0⟩, ⟨g2, 99, tA px py pz⟩])
 intro HC31
 apply av_once22 (Vg := fun ga gb w' => Vars w w' [⟨ga, 22, bA 0⟩, ⟨gb, 22, bA 0⟩, ⟨g5, 99, tA 0 0 0⟩, ⟨g2, 99, tA px py pz⟩])
 intro HC32
 refine zR [0, 1, 2, 3, 5, 6, 7, 8, 10, 11, 12, 13] 9 (by kernel_rfl) (fun _ _ _ _ _ h => h) V7 fun K hK => ?_
 refine zC (.pointer (some ⟨g2, 0, none⟩)) rfl (by rfl) (fun w' hw' => ?_) ?_
 ·go_simp
 go_simp
 refine zC (.agg (bA px)) rfl (by rfl) (fun w' hw' => exec_loadP hw' 1 rfl 0 (tA_part0 _ _ _) _ rfl rfl Tryz.underlying22 Tryz.szB (bA_size _)) ?_
 go_simp
 refine zC (.pointer (some ⟨g2, 0, none⟩)) rfl (by rfl) (fun w' hw' => ?_) ?_
 ·go_simp
 go_simp
 refine zC (.agg (bA px)) rfl (by rfl) (fun w' hw' => exec_loadP hw' 1 rfl 0 (tA_part0 _ _ _) _ rfl rfl Tryz.underlying22 Tryz.szB (bA_size _)) ?_
 go_simp
 refine zC (.pointer (some ⟨g2, 32, none⟩)) rfl (by rfl) (fun w' hw' => ?_) ?_
 ·go_simp
 go_simp
 refine zC (.agg (bA py)) rfl (by rfl) (fun w' hw' => exec_loadP hw' 1 rfl 32 (tA_part1 _ _ _) _ rfl rfl Tryz.underlying22 Tryz.szB (bA_size _)) ?_
 go_simp
 refine zC (.pointer (some ⟨g2, 32, none⟩)) rfl (by rfl) (fun w' hw' => ?_) ?_
 ·go_simp
 go_simp
 refine zC (.agg (bA py)) rfl (by rfl) (fun w' hw' => exec_loadP hw' 1 rfl 32 (tA_part1 _ _ _) _ rfl rfl Tryz.underlying22 Tryz.szB (bA_size _)) ?_
 go_simp
 refine zC (.pointer (some ⟨g2, 64, none⟩)) rfl (by rfl) (fun w' hw' => ?_) ?_
 ·go_simp
 go_simp
 refine zC (.agg (bA pz)) rfl (by rfl) (fun w' hw' => exec_loadP hw' 1 rfl 64 (tA_part2 _ _ _) _ rfl rfl Tryz.underlying22 Tryz.szB (bA_size _)) ?_
 go_simp
 refine zC (.pointer (some ⟨g2, 64, none⟩)) rfl (by rfl) (fun w' hw' => ?_) ?_
 ·go_simp
 go_simp
 refine zC (.agg (bA pz)) rfl (by rfl) (fun w' hw' => exec_loadP hw' 1 rfl 64 (tA_part2 _ _ _) _ rfl rfl Tryz.underlying22 Tryz.szB (bA_size _)) ?_
 go_simp
 refine calm_nil (hK.out _ ?_)
 clear hK K
 refine av_listed (L' := (tf 21 15855)) (by kernel_rfl) ?_
 refine av_ops [4, 15, 16, 17] (fuel := 8) (by kernel_rfl) (List.cons_ne_nil _ _) ?_
 refine av_cons (tf 21 15871) rfl (by rfl) (by kernel_rfl) (fun K hK => ?_) ?_
 go_simp
 refine (H1.out w4.drew).mono ?_
 rintro e w33 ⟨rfl, q35⟩
 have V34 := V7.call q35
 try go_simp
 refine hK _ _ (V34) ?_
 clear hK K q35
 refine av_ops [9, 15, 16, 17] (fuel := 7) (by kernel_rfl) (List.cons_ne_nil _ _) ?_
 refine av_cons (tf 21 16383) rfl (by rfl) (by kernel_rfl) (fun K hK => ?_) ?_
 go_simp
 refine (H2.out w33).mono ?_
 rintro e w36 ⟨rfl, q38⟩
 have V37 := V34.call q38
 try go_simp
 refine hK _ _ (V37) ?_
 clear hK K q38
 refine av_ops [14, 15, 16, 17] (fuel := 6) (by kernel_rfl) (List.cons_ne_nil _ _) ?_
 refine av_cons (tf 21 32767) rfl (by rfl) (by kernel_rfl) (fun K hK => ?_) ?_
 go_simp
 refine (H3.out w36).mono ?_
 rintro e w39 ⟨rfl, q41⟩
 have V40 := V37.call q41
 try go_simp
 refine hK _ _ (V40) ?_
 clear hK K q41
 refine av_ops [15, 16, 17] (fuel := 5) (by kernel_rfl) (List.cons_ne_nil _ _) ?_
 refine av_cons (tf 21 65535) rfl (by rfl) (by kernel_rfl) (fun K hK => ?_) ?_
 refine zN V40 3 rfl rfl (fun w42 g43 V44 => ?_)
 try go_simp
 refine hK _ _ (V44.tail) ?_
 clear hK K
 exact HC13 g43 w42 V44
 refine av_cons (tf 21 98303) rfl (by rfl) (by kernel_rfl) (fun K hK => ?_) ?_
 refine zN V40 4 rfl rfl (fun w45 g46 V47 => ?_)
 try go_simp
 refine hK _ _ (V47.tail) ?_
 clear hK K
 exact HC14 g46 w45 V47
 refine av_cons (tf 21 163839) rfl (by rfl) (by kernel_rfl) (fun K hK => ?_) av_nil
 refine zN V40 5 rfl rfl (fun w48 g49 V50 => ?_)
 try go_simp
 refine hK _ _ (V50.tail) ?_
 clear hK K
 exact HC15 g49 w48 V50
 refine av_cons (tf 21 49151) rfl (by rfl) (by kernel_rfl) (fun K hK => ?_) ?_
 refine zN V37 3 rfl rfl (fun w51 g52 V53 => ?_)
 try go_simp
 refine hK _ _ (V53.tail) ?_
 clear hK K
 exact HC20 g52 w51 V53
 refine av_cons (tf 21 81919) rfl (by rfl) (by kernel_rfl) (fun K hK => ?_) ?_
 refine zN V37 4 rfl rfl (fun w54 g55 V56 => ?_)
 try go_simp
 refine hK _ _ (V56.tail) ?_
 clear hK K
 exact HC21 g55 w54 V56
 refine av_cons (tf 21 147455) rfl (by rfl) (by kernel_rfl) (fun K hK => ?_) av_nil
 refine zN V37 5 rfl rfl (fun w57 g58 V59 => ?_)
 try go_simp
 refine hK _ _ (V59.tail) ?_
 clear hK K
 exact HC22 g58 w57 V59
 refine av_cons (tf 21 48639) rfl (by rfl) (by kernel_rfl) (fun K hK => ?_) ?_
 refine zN V34 3 rfl rfl (fun w60 g61 V62 => ?_)
 try go_simp
 refine hK _ _ (V62.tail) ?_
 clear hK K
 exact HC27 g61 w60 V62
 refine av_cons (tf 21 81407) rfl (by rfl) (by kernel_rfl) (fun K hK => ?_) ?_
 refine zN V34 4 rfl rfl (fun w63 g64 V65 => ?_)
 try go_simp
 refine hK _ _ (V65.tail) ?_
 clear hK K
 exact HC28 g64 w63 V65
 refine av_cons (tf 21 146943) rfl (by rfl) (by kernel_rfl) (fun K hK => ?_) av_nil
 refine zN V34 5 rfl rfl (fun w66 g67 V68 => ?_)
 try go_simp
 refine hK _ _ (V68.tail) ?_
 clear hK K
 exact HC29 g67 w66 V68
 refine av_cons (tf 21 48623) rfl (by rfl) (by kernel_rfl) (fun K hK => ?_) ?_
 refine zN V7 3 rfl rfl (fun w69 g70 V71 => ?_)
 try go_simp
 refine hK _ _ (V71.tail) ?_
 clear hK K
 refine av_ops [4, 16, 17] (fuel := 7) (by kernel_rfl) (List.cons_ne_nil _ _) ?_
 refine av_cons (tf 21 48639) rfl (by rfl) (by kernel_rfl) (fun K hK => ?_) ?_
 go_simp
 refine (H1.out w69).mono ?_
 rintro e w72 ⟨rfl, q74⟩
 have V73 := V71.call q74
 try go_simp
 refine hK _ _ (V73.tail) ?_
 clear hK K q74
 exact HC27 g70 w72 V73
 refine av_cons (tf 21 114159) rfl (by rfl) (by kernel_rfl) (fun K hK => ?_) ?_
 refine zN V71 4 rfl rfl (fun w75 g76 V77 => ?_)
 have V77m : Vars w w75 [⟨g70, 22, bA 0⟩, ⟨g76, 22, bA 0⟩, ⟨g5, 99, tA 0 0 0⟩, ⟨g2, 99, tA px py pz⟩] := V77.mv 1 (Nat.le_of_ble_eq_true rfl)
 try go_simp
 refine hK _ _ (V77m.tail.tail) ?_
 clear hK K
 exact HC30 g70 g76 w75 V77m
 refine av_cons (tf 21 179695) rfl (by rfl) (by kernel_rfl) (fun K hK => ?_) av_nil
 refine zN V71 5 rfl rfl (fun w78 g79 V80 => ?_)
 have V80m : Vars w w78 [⟨g70, 22, bA 0⟩, ⟨g79, 22, bA 0⟩, ⟨g5, 99, tA 0 0 0⟩, ⟨g2, 99, tA px py pz⟩] := V80.mv 1 (Nat.le_of_ble_eq_true rfl)
 try go_simp
 refine hK _ _ (V80m.tail.tail) ?_
 clear hK K
 exact HC31 g70 g79 w78 V80m
 refine av_cons (tf 21 81391) rfl (by rfl) (by kernel_rfl) (fun K hK => ?_) ?_
 refine zN V7 4 rfl rfl (fun w81 g82 V83 => ?_)
 try go_simp
 refine hK _ _ (V83.tail) ?_
 clear hK K
 refine av_ops [4, 15, 17] (fuel := 7) (by kernel_rfl) (List.cons_ne_nil _ _) ?_
 refine av_cons (tf 21 81407) rfl (by rfl) (by kernel_rfl) (fun K hK => ?_) ?_
 go_simp
 refine (H1.out w81).mono ?_
 rintro e w84 ⟨rfl, q86⟩
 have V85 := V83.call q86
 try go_simp
 refine hK _ _ (V85.tail) ?_
 clear hK K q86
 exact HC28 g82 w84 V85
 refine av_cons (tf 21 114159) rfl (by rfl) (by kernel_rfl) (fun K hK => ?_) ?_
 refine zN V83 3 rfl rfl (fun w87 g88 V89 => ?_)
 try go_simp
 refine hK _ _ (V89.tail.tail) ?_
 clear hK K
 exact HC30 g88 g82 w87 V89
 refine av_cons (tf 21 212463) rfl (by rfl) (by kernel_rfl) (fun K hK => ?_) av_nil
 refine zN V83 5 rfl rfl (fun w90 g91 V92 => ?_)
 have V92m : Vars w w90 [⟨g82, 22, bA 0⟩, ⟨g91, 22, bA 0⟩, ⟨g5, 99, tA 0 0 0⟩, ⟨g2, 99, tA px py pz⟩] := V92.mv 1 (Nat.le_of_ble_eq_true rfl)
 try go_simp
 refine hK _ _ (V92m.tail.tail) ?_
 clear hK K
 exact HC32 g82 g91 w90 V92m
 refine av_cons (tf 21 146927) rfl (by rfl) (by kernel_rfl) (fun K hK => ?_) av_nil
 refine zN V7 5 rfl rfl (fun w93 g94 V95 => ?_)
 try go_simp
 refine hK _ _ (V95.tail) ?_
 clear hK K
 refine av_ops [4, 15, 16] (fuel := 7) (by kernel_rfl) (List.cons_ne_nil _ _) ?_
 refine av_cons (tf 21 146943) rfl (by rfl) (by kernel_rfl) (fun K hK => ?_) ?_
 go_simp
 refine (H1.out w93).mono ?_
 rintro e w96 ⟨rfl, q98⟩
 have V97 := V95.call q98
 try go_simp
 refine hK _ _ (V97.tail) ?_
 clear hK K q98
 exact HC29 g94 w96 V97
 refine av_cons (tf 21 179695) rfl (by rfl) (by kernel_rfl) (fun K hK => ?_) ?_
 refine zN V95 3 rfl rfl (fun w99 g100 V101 => ?_)
 try go_simp
 refine hK _ _ (V101.tail.tail) ?_
 clear hK K
 exact HC31 g100 g94 w99 V101
 refine av_cons (tf 21 212463) rfl (by rfl) (by kernel_rfl) (fun K hK => ?_) av_nil
 refine zN V95 4 rfl rfl (fun w102 g103 V104 => ?_)
 try go_simp
 refine hK _ _ (V104.tail.tail) ?_
 clear hK K
 exact HC32 g103 g94 w102 V104
 intro g105 g106 w107 V108
 refine av_ops [4, 15] (fuel := 6) (by kernel_rfl) (List.cons_ne_nil _ _) ?_
 refine av_cons (tf 21 212479) rfl (by rfl) (by kernel_rfl) (fun K hK => ?_) ?_
 go_simp
 refine (H1.out w107).mono ?_
 rintro e w109 ⟨rfl, q111⟩
 have V110 := V108.call q111
 try go_simp
 refine hK _ _ (V110.tail.tail) ?_
 clear hK K q111
 exact HC25 g105 g106 w109 V110
 refine av_cons (tf 21 245231) rfl (by rfl) (by kernel_rfl) (fun K hK => ?_) av_nil
 refine zN V108 3 rfl rfl (fun w112 g113 V114 => ?_)
 try go_simp
 refine hK _ _ (V114.tail.tail.tail) ?_
 clear hK K
 exact HC26 g113 g105 g106 w112 V114
 intro g115 g116 w117 V118
 refine av_ops [4, 16] (fuel := 6) (by kernel_rfl) (List.cons_ne_nil _ _) ?_
 refine av_cons (tf 21 179711) rfl (by rfl) (by kernel_rfl) (fun K hK => ?_) ?_
 go_simp
 refine (H1.out w117).mono ?_
 rintro e w119 ⟨rfl, q121⟩
 have V120 := V118.call q121
 try go_simp
 refine hK _ _ (V120.tail.tail) ?_
 clear hK K q121
 exact HC24 g115 g116 w119 V120
 refine av_cons (tf 21 245231) rfl (by rfl) (by kernel_rfl) (fun K hK => ?_) av_nil
 refine zN V118 4 rfl rfl (fun w122 g123 V124 => ?_)
 have V124m : Vars w w122 [⟨g115, 22, bA 0⟩, ⟨g123, 22, bA 0⟩, ⟨g116, 22, bA 0⟩, ⟨g5, 99, tA 0 0 0⟩, ⟨g2, 99, tA px py pz⟩] := V124.mv 1 (Nat.le_of_ble_eq_true rfl)
 try go_simp
 refine hK _ _ (V124m.tail.tail.tail) ?_
 clear hK K
 exact HC26 g115 g123 g116 w122 V124m
 intro g125 g126 w127 V128
 refine av_ops [4, 17] (fuel := 6) (by kernel_rfl) (List.cons_ne_nil _ _) ?_
 refine av_cons (tf 21 114175) rfl (by rfl) (by kernel_rfl) (fun K hK => ?_) ?_
 go_simp
 refine (H1.out w127).mono ?_
 rintro e w129 ⟨rfl, q131⟩
 have V130 := V128.call q131
 try go_simp
 refine hK _ _ (V130.tail.tail) ?_
 clear hK K q131
 exact HC23 g125 g126 w129 V130
 refine av_cons (tf 21 245231) rfl (by rfl) (by kernel_rfl) (fun K hK => ?_) av_nil
 refine zN V128 5 rfl rfl (fun w132 g133 V134 => ?_)
 have V134m : Vars w w132 [⟨g125, 22, bA 0⟩, ⟨g126, 22, bA 0⟩, ⟨g133, 22, bA 0⟩, ⟨g5, 99, tA 0 0 0⟩, ⟨g2, 99, tA px py pz⟩] := V134.mv 2 (Nat.le_of_ble_eq_true rfl)
 try go_simp
 refine hK _ _ (V134m.tail.tail.tail) ?_
 clear hK K
 exact HC26 g125 g126 g133 w132 V134m
 intro g135 w136 V137
 refine av_ops [9, 15, 16] (fuel := 6) (by kernel_rfl) (List.cons_ne_nil _ _) ?_
 refine av_cons (tf 21 147455) rfl (by rfl) (by kernel_rfl) (fun K hK => ?_) ?_
 go_simp
 refine (H2.out w136).mono ?_
 rintro e w138 ⟨rfl, q140⟩
 have V139 := V137.call q140
 try go_simp
 refine hK _ _ (V139.tail) ?_
 clear hK K q140
 exact HC22 g135 w138 V139
 refine av_cons (tf 21 179711) rfl (by rfl) (by kernel_rfl) (fun K hK => ?_) ?_
 refine zN V137 3 rfl rfl (fun w141 g142 V143 => ?_)
 try go_simp
 refine hK _ _ (V143.tail.tail) ?_
 clear hK K
 exact HC24 g142 g135 w141 V143
 refine av_cons (tf 21 212479) rfl (by rfl) (by kernel_rfl) (fun K hK => ?_) av_nil
 refine zN V137 4 rfl rfl (fun w144 g145 V146 => ?_)
 try go_simp
 refine hK _ _ (V146.tail.tail) ?_
 clear hK K
 exact HC25 g145 g135 w144 V146
 intro g147 w148 V149
 refine av_ops [9, 15, 17] (fuel := 6) (by kernel_rfl) (List.cons_ne_nil _ _) ?_
 refine av_cons (tf 21 81919) rfl (by rfl) (by kernel_rfl) (fun K hK => ?_) ?_
 go_simp
 refine (H2.out w148).mono ?_
 rintro e w150 ⟨rfl, q152⟩
 have V151 := V149.call q152
 try go_simp
 refine hK _ _ (V151.tail) ?_
 clear hK K q152
 exact HC21 g147 w150 V151
 refine av_cons (tf 21 114175) rfl (by rfl) (by kernel_rfl) (fun K hK => ?_) ?_
 refine zN V149 3 rfl rfl (fun w153 g154 V155 => ?_)
 try go_simp
 refine hK _ _ (V155.tail.tail) ?_
 clear hK K
 exact HC23 g154 g147 w153 V155
 refine av_cons (tf 21 212479) rfl (by rfl) (by kernel_rfl) (fun K hK => ?_) av_nil
 refine zN V149 5 rfl rfl (fun w156 g157 V158 => ?_)
 have V158m : Vars w w156 [⟨g147, 22, bA 0⟩, ⟨g157, 22, bA 0⟩, ⟨g5, 99, tA 0 0 0⟩, ⟨g2, 99, tA px py pz⟩] := V158.mv 1 (Nat.le_of_ble_eq_true rfl)
 try go_simp
 refine hK _ _ (V158m.tail.tail) ?_
 clear hK K
 exact HC25 g147 g157 w156 V158m
 intro g159 w160 V161
 refine av_ops [9, 16, 17] (fuel := 6) (by kernel_rfl) (List.cons_ne_nil _ _) ?_
 refine av_cons (tf 21 49151) rfl (by rfl) (by kernel_rfl) (fun K hK => ?_) ?_
 go_simp
 refine (H2.out w160).mono ?_
 rintro e w162 ⟨rfl, q164⟩
 have V163 := V161.call q164
 try go_simp
 refine hK _ _ (V163.tail) ?_
 clear hK K q164
 exact HC20 g159 w162 V163
 refine av_cons (tf 21 114175) rfl (by rfl) (by kernel_rfl) (fun K hK => ?_) ?_
 refine zN V161 4 rfl rfl (fun w165 g166 V167 => ?_)
 have V167m : Vars w w165 [⟨g159, 22, bA 0⟩, ⟨g166, 22, bA 0⟩, ⟨g5, 99, tA 0 0 0⟩, ⟨g2, 99, tA px py pz⟩] := V167.mv 1 (Nat.le_of_ble_eq_true rfl)
 try go_simp
 refine hK _ _ (V167m.tail.tail) ?_
 clear hK K
 exact HC23 g159 g166 w165 V167m
 refine av_cons (tf 21 179711) rfl (by rfl) (by kernel_rfl) (fun K hK => ?_) av_nil
 refine zN V161 5 rfl rfl (fun w168 g169 V170 => ?_)
 have V170m : Vars w w168 [⟨g159, 22, bA 0⟩, ⟨g169, 22, bA 0⟩, ⟨g5, 99, tA 0 0 0⟩, ⟨g2, 99, tA px py pz⟩] := V170.mv 1 (Nat.le_of_ble_eq_true rfl)
 try go_simp
 refine hK _ _ (V170m.tail.tail) ?_
 clear hK K
 exact HC24 g159 g169 w168 V170m
 intro g171 g172 g173 w174 V175
 refine av_ops [4] (fuel := 5) (by kernel_rfl) (List.cons_ne_nil _ _) ?_
 refine av_cons (tf 21 245247) rfl (by rfl) (by kernel_rfl) (fun K hK => ?_) av_nil
 go_simp
 refine (H1.out w174).mono ?_
 rintro e w176 ⟨rfl, q178⟩
 have V177 := V175.call q178
 try go_simp
 refine hK _ _ (V177.tail.tail.tail) ?_
 clear hK K q178
 exact HC19 g171 g172 g173 w176 V177
 intro g179 g180 w181 V182
 refine av_ops [9, 15] (fuel := 5) (by kernel_rfl) (List.cons_ne_nil _ _) ?_
 refine av_cons (tf 21 212991) rfl (by rfl) (by kernel_rfl) (fun K hK => ?_) ?_
 go_simp
 refine (H2.out w181).mono ?_
 rintro e w183 ⟨rfl, q185⟩
 have V184 := V182.call q185
 try go_simp
 refine hK _ _ (V184.tail.tail) ?_
 clear hK K q185
 exact HC18 g179 g180 w183 V184
 refine av_cons (tf 21 245247) rfl (by rfl) (by kernel_rfl) (fun K hK => ?_) av_nil
 refine zN V182 3 rfl rfl (fun w186 g187 V188 => ?_)
 try go_simp
 refine hK _ _ (V188.tail.tail.tail) ?_
 clear hK K
 exact HC19 g187 g179 g180 w186 V188
 intro g189 g190 w191 V192
 refine av_ops [9, 16] (fuel := 5) (by kernel_rfl) (List.cons_ne_nil _ _) ?_
 refine av_cons (tf 21 180223) rfl (by rfl) (by kernel_rfl) (fun K hK => ?_) ?_
 go_simp
 refine (H2.out w191).mono ?_
 rintro e w193 ⟨rfl, q195⟩
 have V194 := V192.call q195
 try go_simp
 refine hK _ _ (V194.tail.tail) ?_
 clear hK K q195
 exact HC17 g189 g190 w193 V194
 refine av_cons (tf 21 245247) rfl (by rfl) (by kernel_rfl) (fun K hK => ?_) av_nil
 refine zN V192 4 rfl rfl (fun w196 g197 V198 => ?_)
 have V198m : Vars w w196 [⟨g189, 22, bA 0⟩, ⟨g197, 22, bA 0⟩, ⟨g190, 22, bA 0⟩, ⟨g5, 99, tA 0 0 0⟩, ⟨g2, 99, tA px py pz⟩] := V198.mv 1 (Nat.le_of_ble_eq_true rfl)
 try go_simp
 refine hK _ _ (V198m.tail.tail.tail) ?_
 clear hK K
 exact HC19 g189 g197 g190 w196 V198m
 intro g199 g200 w201 V202
 refine av_ops [9, 17] (fuel := 5) (by kernel_rfl) (List.cons_ne_nil _ _) ?_
 refine av_cons (tf 21 114687) rfl (by rfl) (by kernel_rfl) (fun K hK => ?_) ?_
 go_simp
 refine (H2.out w201).mono ?_
 rintro e w203 ⟨rfl, q205⟩
 have V204 := V202.call q205
 try go_simp
 refine hK _ _ (V204.tail.tail) ?_
 clear hK K q205
 exact HC16 g199 g200 w203 V204
 refine av_cons (tf 21 245247) rfl (by rfl) (by kernel_rfl) (fun K hK => ?_) av_nil
 refine zN V202 5 rfl rfl (fun w206 g207 V208 => ?_)
 have V208m : Vars w w206 [⟨g199, 22, bA 0⟩, ⟨g200, 22, bA 0⟩, ⟨g207, 22, bA 0⟩, ⟨g5, 99, tA 0 0 0⟩, ⟨g2, 99, tA px py pz⟩] := V208.mv 2 (Nat.le_of_ble_eq_true rfl)
 try go_simp
 refine hK _ _ (V208m.tail.tail.tail) ?_
 clear hK K
 exact HC19 g199 g200 g207 w206 V208m
 intro g209 w210 V211
 refine av_ops [14, 15, 16] (fuel := 5) (by kernel_rfl) (List.cons_ne_nil _ _) ?_
 refine av_cons (tf 21 163839) rfl (by rfl) (by kernel_rfl) (fun K hK => ?_) ?_
 go_simp
 refine (H3.out w210).mono ?_
 rintro e w212 ⟨rfl, q214⟩
 have V213 := V211.call q214
 try go_simp
 refine hK _ _ (V213.tail) ?_
 clear hK K q214
 exact HC15 g209 w212 V213
 refine av_cons (tf 21 180223) rfl (by rfl) (by kernel_rfl) (fun K hK => ?_) ?_
 refine zN V211 3 rfl rfl (fun w215 g216 V217 => ?_)
 try go_simp
 refine hK _ _ (V217.tail.tail) ?_
 clear hK K
 exact HC17 g216 g209 w215 V217
 refine av_cons (tf 21 212991) rfl (by rfl) (by kernel_rfl) (fun K hK => ?_) av_nil
 refine zN V211 4 rfl rfl (fun w218 g219 V220 => ?_)
 try go_simp
 refine hK _ _ (V220.tail.tail) ?_
 clear hK K
 exact HC18 g219 g209 w218 V220
 intro g221 w222 V223
 refine av_ops [14, 15, 17] (fuel := 5) (by kernel_rfl) (List.cons_ne_nil _ _) ?_
 refine av_cons (tf 21 98303) rfl (by rfl) (by kernel_rfl) (fun K hK => ?_) ?_
 go_simp
 refine (H3.out w222).mono ?_
 rintro e w224 ⟨rfl, q226⟩
 have V225 := V223.call q226
 try go_simp
 refine hK _ _ (V225.tail) ?_
 clear hK K q226
 exact HC14 g221 w224 V225
 refine av_cons (tf 21 114687) rfl (by rfl) (by kernel_rfl) (fun K hK => ?_) ?_
 refine zN V223 3 rfl rfl (fun w227 g228 V229 => ?_)
 try go_simp
 refine hK _ _ (V229.tail.tail) ?_
 clear hK K
 exact HC16 g228 g221 w227 V229
 refine av_cons (tf 21 212991) rfl (by rfl) (by kernel_rfl) (fun K hK => ?_) av_nil
 refine zN V223 5 rfl rfl (fun w230 g231 V232 => ?_)
 have V232m : Vars w w230 [⟨g221, 22, bA 0⟩, ⟨g231, 22, bA 0⟩, ⟨g5, 99, tA 0 0 0⟩, ⟨g2, 99, tA px py pz⟩] := V232.mv 1 (Nat.le_of_ble_eq_true rfl)
 try go_simp
 refine hK _ _ (V232m.tail.tail) ?_
 clear hK K
 exact HC18 g221 g231 w230 V232m
 intro g233 w234 V235
 refine av_ops [14, 16, 17] (fuel := 5) (by kernel_rfl) (List.cons_ne_nil _ _) ?_
 refine av_cons (tf 21 65535) rfl (by rfl) (by kernel_rfl) (fun K hK => ?_) ?_
 go_simp
 refine (H3.out w234).mono ?_
 rintro e w236 ⟨rfl, q238⟩
 have V237 := V235.call q238
 try go_simp
 refine hK _ _ (V237.tail) ?_
 clear hK K q238
 exact HC13 g233 w236 V237
 refine av_cons (tf 21 114687) rfl (by rfl) (by kernel_rfl) (fun K hK => ?_) ?_
 refine zN V235 4 rfl rfl (fun w239 g240 V241 => ?_)
 have V241m : Vars w w239 [⟨g233, 22, bA 0⟩, ⟨g240, 22, bA 0⟩, ⟨g5, 99, tA 0 0 0⟩, ⟨g2, 99, tA px py pz⟩] := V241.mv 1 (Nat.le_of_ble_eq_true rfl)
 try go_simp
 refine hK _ _ (V241m.tail.tail) ?_
 clear hK K
 exact HC16 g233 g240 w239 V241m
 refine av_cons (tf 21 180223) rfl (by rfl) (by kernel_rfl) (fun K hK => ?_) av_nil
 refine zN V235 5 rfl rfl (fun w242 g243 V244 => ?_)
 have V244m : Vars w w242 [⟨g233, 22, bA 0⟩, ⟨g243, 22, bA 0⟩, ⟨g5, 99, tA 0 0 0⟩, ⟨g2, 99, tA px py pz⟩] := V244.mv 1 (Nat.le_of_ble_eq_true rfl)
 try go_simp
 refine hK _ _ (V244m.tail.tail) ?_
 clear hK K
 exact HC17 g233 g243 w242 V244m
 intro g245 g246 g247 w248 V249
 refine av_ops [9] (fuel := 4) (by kernel_rfl) (List.cons_ne_nil _ _) ?_
 refine av_cons (tf 21 245759) rfl (by rfl) (by kernel_rfl) (fun K hK => ?_) av_nil
 go_simp
 refine (H2.out w248).mono ?_
 rintro e w250 ⟨rfl, q252⟩
 have V251 := V249.call q252
 try go_simp
 refine hK _ _ (V251.tail.tail.tail) ?_
 clear hK K q252
 exact HC12 g245 g246 g247 w250 V251
 intro g253 g254 w255 V256
 refine av_ops [14, 15] (fuel := 4) (by kernel_rfl) (List.cons_ne_nil _ _) ?_
 refine av_cons (tf 21 229375) rfl (by rfl) (by kernel_rfl) (fun K hK => ?_) ?_
 go_simp
 refine (H3.out w255).mono ?_
 rintro e w257 ⟨rfl, q259⟩
 have V258 := V256.call q259
 try go_simp
 refine hK _ _ (V258.tail.tail) ?_
 clear hK K q259
 exact HC11 g253 g254 w257 V258
 refine av_cons (tf 21 245759) rfl (by rfl) (by kernel_rfl) (fun K hK => ?_) av_nil
 refine zN V256 3 rfl rfl (fun w260 g261 V262 => ?_)
 try go_simp
 refine hK _ _ (V262.tail.tail.tail) ?_
 clear hK K
 exact HC12 g261 g253 g254 w260 V262
 intro g263 g264 w265 V266
 refine av_ops [14, 16] (fuel := 4) (by kernel_rfl) (List.cons_ne_nil _ _) ?_
 refine av_cons (tf 21 196607) rfl (by rfl) (by kernel_rfl) (fun K hK => ?_) ?_
 go_simp
 refine (H3.out w265).mono ?_
 rintro e w267 ⟨rfl, q269⟩
 have V268 := V266.call q269
 try go_simp
 refine hK _ _ (V268.tail.tail) ?_
 clear hK K q269
 exact HC10 g263 g264 w267 V268
 refine av_cons (tf 21 245759) rfl (by rfl) (by kernel_rfl) (fun K hK => ?_) av_nil
 refine zN V266 4 rfl rfl (fun w270 g271 V272 => ?_)
 have V272m : Vars w w270 [⟨g263, 22, bA 0⟩, ⟨g271, 22, bA 0⟩, ⟨g264, 22, bA 0⟩, ⟨g5, 99, tA 0 0 0⟩, ⟨g2, 99, tA px py pz⟩] := V272.mv 1 (Nat.le_of_ble_eq_true rfl)
 try go_simp
 refine hK _ _ (V272m.tail.tail.tail) ?_
 clear hK K
 exact HC12 g263 g271 g264 w270 V272m
 intro g273 g274 w275 V276
 refine av_ops [14, 17] (fuel := 4) (by kernel_rfl) (List.cons_ne_nil _ _) ?_
 refine av_cons (tf 21 131071) rfl (by rfl) (by kernel_rfl) (fun K hK => ?_) ?_
 go_simp
 refine (H3.out w275).mono ?_
 rintro e w277 ⟨rfl, q279⟩
 have V278 := V276.call q279
 try go_simp
 refine hK _ _ (V278.tail.tail) ?_
 clear hK K q279
 exact HC9 g273 g274 w277 V278
 refine av_cons (tf 21 245759) rfl (by rfl) (by kernel_rfl) (fun K hK => ?_) av_nil
 refine zN V276 5 rfl rfl (fun w280 g281 V282 => ?_)
 have V282m : Vars w w280 [⟨g273, 22, bA 0⟩, ⟨g274, 22, bA 0⟩, ⟨g281, 22, bA 0⟩, ⟨g5, 99, tA 0 0 0⟩, ⟨g2, 99, tA px py pz⟩] := V282.mv 2 (Nat.le_of_ble_eq_true rfl)
 try go_simp
 refine hK _ _ (V282m.tail.tail.tail) ?_
 clear hK K
 exact HC12 g273 g274 g281 w280 V282m
 intro g283 w284 V285
 refine av_ops [15, 16] (fuel := 4) (by kernel_rfl) (List.cons_ne_nil _ _) ?_
 refine av_cons (tf 21 196607) rfl (by rfl) (by kernel_rfl) (fun K hK => ?_) ?_
 refine zN V285 3 rfl rfl (fun w286 g287 V288 => ?_)
 try go_simp
 refine hK _ _ (V288.tail.tail) ?_
 clear hK K
 exact HC10 g287 g283 w286 V288
 refine av_cons (tf 21 229375) rfl (by rfl) (by kernel_rfl) (fun K hK => ?_) av_nil
 refine zN V285 4 rfl rfl (fun w289 g290 V291 => ?_)
 try go_simp
 refine hK _ _ (V291.tail.tail) ?_
 clear hK K
 exact HC11 g290 g283 w289 V291
 intro g292 w293 V294
 refine av_ops [15, 17] (fuel := 4) (by kernel_rfl) (List.cons_ne_nil _ _) ?_
 refine av_cons (tf 21 131071) rfl (by rfl) (by kernel_rfl) (fun K hK => ?_) ?_
 refine zN V294 3 rfl rfl (fun w295 g296 V297 => ?_)
 try go_simp
 refine hK _ _ (V297.tail.tail) ?_
 clear hK K
 exact HC9 g296 g292 w295 V297
 refine av_cons (tf 21 229375) rfl (by rfl) (by kernel_rfl) (fun K hK => ?_) av_nil
 refine zN V294 5 rfl rfl (fun w298 g299 V300 => ?_)
 have V300m : Vars w w298 [⟨g292, 22, bA 0⟩, ⟨g299, 22, bA 0⟩, ⟨g5, 99, tA 0 0 0⟩, ⟨g2, 99, tA px py pz⟩] := V300.mv 1 (Nat.le_of_ble_eq_true rfl)
 try go_simp
 refine hK _ _ (V300m.tail.tail) ?_
 clear hK K
 exact HC11 g292 g299 w298 V300m
 intro g301 w302 V303
 refine av_ops [16, 17] (fuel := 4) (by kernel_rfl) (List.cons_ne_nil _ _) ?_
 refine av_cons (tf 21 131071) rfl (by rfl) (by kernel_rfl) (fun K hK => ?_) ?_
 refine zN V303 4 rfl rfl (fun w304 g305 V306 => ?_)
 have V306m : Vars w w304 [⟨g301, 22, bA 0⟩, ⟨g305, 22, bA 0⟩, ⟨g5, 99, tA 0 0 0⟩, ⟨g2, 99, tA px py pz⟩] := V306.mv 1 (Nat.le_of_ble_eq_true rfl)
 try go_simp
 refine hK _ _ (V306m.tail.tail) ?_
 clear hK K
 exact HC9 g301 g305 w304 V306m
 refine av_cons (tf 21 196607) rfl (by rfl) (by kernel_rfl) (fun K hK => ?_) av_nil
 refine zN V303 5 rfl rfl (fun w307 g308 V309 => ?_)
 have V309m : Vars w w307 [⟨g301, 22, bA 0⟩, ⟨g308, 22, bA 0⟩, ⟨g5, 99, tA 0 0 0⟩, ⟨g2, 99, tA px py pz⟩] := V309.mv 1 (Nat.le_of_ble_eq_true rfl)
 try go_simp
 refine hK _ _ (V309m.tail.tail) ?_
 clear hK K
 exact HC10 g301 g308 w307 V309m
 intro g310 g311 g312 w313 V314
 refine av_ops [14] (fuel := 3) (by kernel_rfl) (List.cons_ne_nil _ _) ?_
 refine av_cons (tf 21 262143) rfl (by rfl) (by kernel_rfl) (fun K hK => ?_) av_nil
 go_simp
 refine (H3.out w313).mono ?_
 rintro e w315 ⟨rfl, q317⟩
 have V316 := V314.call q317
 try go_simp
 refine hK _ _ (V316.tail.tail.tail) ?_
 clear hK K q317
 exact HC8 g310 g311 g312 w315 V316
 intro g318 g319 w320 V321
 refine av_ops [15] (fuel := 3) (by kernel_rfl) (List.cons_ne_nil _ _) ?_
 refine av_cons (tf 21 262143) rfl (by rfl) (by kernel_rfl) (fun K hK => ?_) av_nil
 refine zN V321 3 rfl rfl (fun w322 g323 V324 => ?_)
 try go_simp
 refine hK _ _ (V324.tail.tail.tail) ?_
 clear hK K
 exact HC8 g323 g318 g319 w322 V324
 intro g325 g326 w327 V328
 refine av_ops [16] (fuel := 3) (by kernel_rfl) (List.cons_ne_nil _ _) ?_
 refine av_cons (tf 21 262143) rfl (by rfl) (by kernel_rfl) (fun K hK => ?_) av_nil
 refine zN V328 4 rfl rfl (fun w329 g330 V331 => ?_)
 have V331m : Vars w w329 [⟨g325, 22, bA 0⟩, ⟨g330, 22, bA 0⟩, ⟨g326, 22, bA 0⟩, ⟨g5, 99, tA 0 0 0⟩, ⟨g2, 99, tA px py pz⟩] := V331.mv 1 (Nat.le_of_ble_eq_true rfl)
 try go_simp
 refine hK _ _ (V331m.tail.tail.tail) ?_
 clear hK K
 exact HC8 g325 g330 g326 w329 V331m
 intro g332 g333 w334 V335
 refine av_ops [17] (fuel := 3) (by kernel_rfl) (List.cons_ne_nil _ _) ?_
 refine av_cons (tf 21 262143) rfl (by rfl) (by kernel_rfl) (fun K hK => ?_) av_nil
 refine zN V335 5 rfl rfl (fun w336 g337 V338 => ?_)
 have V338m : Vars w w336 [⟨g332, 22, bA 0⟩, ⟨g333, 22, bA 0⟩, ⟨g337, 22, bA 0⟩, ⟨g5, 99, tA 0 0 0⟩, ⟨g2, 99, tA px py pz⟩] := V338.mv 2 (Nat.le_of_ble_eq_true rfl)
 try go_simp
 refine hK _ _ (V338m.tail.tail.tail) ?_
 clear hK K
 exact HC8 g332 g333 g337 w336 V338m
 intro g339 g340 g341 w342 V343
 refine av_ops [18] (fuel := 2) (by kernel_rfl) (List.cons_ne_nil _ _) ?_
 refine av_cons (tf 21 524287) rfl (by rfl) (by kernel_rfl) (fun K hK => ?_) av_nil
 refine zS V343 0 rfl _ _ rfl rfl xx rfl rfl (fun w344 V345 => ?_)
 refine hK _ _ (V345.tail.tail.tail) ?_
 clear hK K
 refine av_ops [19] (fuel := 1) (by kernel_rfl) (List.cons_ne_nil _ _) ?_
 refine av_cons (tf 21 1048575) rfl (by rfl) (by kernel_rfl) (fun K hK => ?_) av_nil
 refine zS V345 1 rfl _ _ rfl rfl yy rfl rfl (fun w346 V347 => ?_)
 refine hK _ _ (V347.tail.tail.tail) ?_
 clear hK K
 refine av_ops [20] (fuel := 0) (by kernel_rfl) (List.cons_ne_nil _ _) ?_
 refine av_cons (tf 21 2097151) rfl (by rfl) (by kernel_rfl) (fun K hK => ?_) av_nil
 refine zS V347 2 rfl _ _ rfl rfl zz rfl rfl (fun w348 V349 => ?_)
 refine hK _ _ (V349.tail.tail.tail) ?_
 clear hK K
 refine wpAnyH_done (by kernel_rfl) ?_ _
 go_wp2_with (first
  | (refine zD V349 1 rfl 24 _ rfl rfl rfl rfl ?_)
  | (refine zD V349 0 rfl 25 _ rfl rfl rfl rfl ?_))
 refine (H4.out w348).mono ?_
 rintro e w350 ⟨rfl, q352⟩
 have V351 := V349.call q352
 clear q352 V349
 go_wp2_with (first
  | (refine zA V351 6 rfl rfl rfl ?_; intro w353 g354 V355)
  | (refine zL V355 0 rfl _ (.tmp 26) rfl rfl rfl fx rfl rfl ?_; intro w356 V357))
 refine av_open (fun w' => Vars w w' [⟨g354, 22, bA fx⟩, ⟨g339, 22, bA xx⟩, ⟨g340, 22, bA yy⟩, ⟨g341, 22, bA zz⟩, ⟨g5, 99, tA 0 0 0⟩, ⟨g2, 99, tA px py pz⟩]) (by kernel_rfl) ?_
 have V358 := V357.drew
 apply av_once (Vg := fun g w' => Vars w w' [⟨g, 22, bA fy⟩, ⟨g354, 22, bA fx⟩, ⟨g339, 22, bA xx⟩, ⟨g340, 22, bA yy⟩, ⟨g341, 22, bA zz⟩, ⟨g5, 99, tA 0 0 0⟩, ⟨g2, 99, tA px py pz⟩])
 ·intro HC359
  refine zR [0, 1, 3] 4 (by kernel_rfl) (fun _ _ _ _ _ h => h) V358 fun K hK => ?_
  refine zC (.agg (bA zz)) rfl (by rfl) (fun w' hw' => zB hw' 3 rfl _ rfl rfl) ?_
  go_simp
  refine zC (.agg (bA zz)) rfl (by rfl) (fun w' hw' => zB hw' 3 rfl _ rfl rfl) ?_
  go_simp
  refine zC (.agg (bA fx)) rfl (by rfl) (fun w' hw' => zB hw' 0 rfl _ rfl rfl) ?_
  go_simp
  refine calm_nil (hK.out _ ?_)
  clear hK K
  refine zP 2 5 3 (by kernel_rfl) rfl (by rfl) rfl (by rfl) (fun K hK => ?_) (fun K hK => ?_)
  ·go_simp
   refine (H5.out w356.drew).mono ?_
   rintro e w360 ⟨rfl, q362⟩
   have V361 := V358.call q362
   refine hK _ _ (V361) ?_
   clear hK K q362
   refine zP 4 5 2 (by kernel_rfl) rfl (by rfl) rfl (by rfl) (fun K hK => ?_) (fun K hK => ?_)
   ·go_simp
    refine (H6.out w360).mono ?_
    rintro e w363 ⟨rfl, q365⟩
    have V364 := V361.call q365
    refine hK _ _ (V364) ?_
    clear hK K q365
    refine zO 5 1 (by kernel_rfl) rfl (by rfl) fun K hK => ?_
    refine zN V364 7 rfl rfl (fun w366 g367 V368 => ?_)
    refine hK _ _ (V368.tail) ?_
    clear hK K
    refine zO 6 0 (by kernel_rfl) rfl (by rfl) fun K hK => ?_
    refine zS V368 0 rfl _ _ rfl rfl fy rfl rfl (fun w369 V370 => ?_)
    refine hK _ _ (V370.tail) ?_
    clear hK K
    refine wpAnyH_done (by kernel_rfl) ?_ _
    exact HC359 g367 w369 V370
   ·refine zN V361 7 rfl rfl (fun w371 g372 V373 => ?_)
    refine hK _ _ (V373.tail) ?_
    clear hK K
    refine zO 4 1 (by kernel_rfl) rfl (by rfl) fun K hK => ?_
    go_simp
    refine (H6.out w371).mono ?_
    rintro e w374 ⟨rfl, q376⟩
    have V375 := V373.call q376
    refine hK _ _ (V375.tail) ?_
    clear hK K q376
    refine zO 6 0 (by kernel_rfl) rfl (by rfl) fun K hK => ?_
    refine zS V375 0 rfl _ _ rfl rfl fy rfl rfl (fun w377 V378 => ?_)
    refine hK _ _ (V378.tail) ?_
    clear hK K
    refine wpAnyH_done (by kernel_rfl) ?_ _
    exact HC359 g372 w377 V378
  ·refine zN V358 7 rfl rfl (fun w379 g380 V381 => ?_)
   refine hK _ _ (V381.tail) ?_
   clear hK K
   refine zO 2 2 (by kernel_rfl) rfl (by rfl) fun K hK => ?_
   go_simp
   refine (H5.out w379).mono ?_
   rintro e w382 ⟨rfl, q384⟩
   have V383 := V381.call q384
   refine hK _ _ (V383.tail) ?_
   clear hK K q384
   refine zO 4 1 (by kernel_rfl) rfl (by rfl) fun K hK => ?_
   go_simp
   refine (H6.out w382).mono ?_
   rintro e w385 ⟨rfl, q387⟩
   have V386 := V383.call q387
   refine hK _ _ (V386.tail) ?_
   clear hK K q387
   refine zO 6 0 (by kernel_rfl) rfl (by rfl) fun K hK => ?_
   refine zS V386 0 rfl _ _ rfl rfl fy rfl rfl (fun w388 V389 => ?_)
   refine hK _ _ (V389.tail) ?_
   clear hK K
   refine wpAnyH_done (by kernel_rfl) ?_ _
   exact HC359 g380 w388 V389
 intro g380 w388 V389
 clear V358
 go_wp2_with (first
  | (refine wpList_exec rfl (exec_loadP V389 6 rfl 0 (tA_part0 _ _ _) _ rfl rfl Tryz.underlying22 Tryz.szB (bA_size _)) ?_)
  | (refine wpList_exec rfl (exec_loadP V389 6 rfl 32 (tA_part1 _ _ _) _ rfl rfl Tryz.underlying22 Tryz.szB (bA_size _)) ?_))
 refine (H7.out w388).mono ?_
 rintro e w390 ⟨rfl, q392⟩
 have V391 := V389.call q392
 clear q392 V389
 go_wp2_with (first
  | (refine zA V391 8 rfl rfl rfl ?_; intro w393 g394 V395)
  | (refine zL V395 0 rfl _ (.tmp 36) rfl rfl rfl hf rfl rfl ?_; intro w396 V397))
 refine av_open (fun w' => Vars w w' [⟨g394, 22, bA hf⟩, ⟨g380, 22, bA fy⟩, ⟨g354, 22, bA fx⟩, ⟨g339, 22, bA xx⟩, ⟨g340, 22, bA yy⟩, ⟨g341, 22, bA zz⟩, ⟨g2, 99, tA px py pz⟩]) (by kernel_rfl) ?_
 have V398 := V397.drew
 refine zR [0, 1, 3, 5, 6, 8, 10, 11] 7 (by kernel_rfl) (fun _ _ _ _ _ h => h) ((V398.del 6)) fun K hK => ?_
 refine zC (.agg (bA hf)) rfl (by rfl) (fun w' hw' => zB hw' 0 rfl _ rfl rfl) ?_
 go_simp
 refine zC (.agg (bA hf)) rfl (by rfl) (fun w' hw' => zB hw' 0 rfl _ rfl rfl) ?_
 go_simp
 refine zC (.agg (bA fy)) rfl (by rfl) (fun w' hw' => zB hw' 1 rfl _ rfl rfl) ?_
 go_simp
 refine zC (.agg (bA yy)) rfl (by rfl) (fun w' hw' => zB hw' 4 rfl _ rfl rfl) ?_
 go_simp
 refine zC (.agg (bA xx)) rfl (by rfl) (fun w' hw' => zB hw' 3 rfl _ rfl rfl) ?_
 go_simp
 refine zC (.agg (bA fx)) rfl (by rfl) (fun w' hw' => zB hw' 2 rfl _ rfl rfl) ?_
 go_simp
 refine zC (.agg (bA fx)) rfl (by rfl) (fun w' hw' => zB hw' 2 rfl _ rfl rfl) ?_
 go_simp
 refine zC (.agg (bA fy)) rfl (by rfl) (fun w' hw' => zB hw' 1 rfl _ rfl rfl) ?_
 go_simp
 refine calm_nil (hK.out _ ?_)
 clear hK K
 refine zO 2 6 (by kernel_rfl) rfl (by rfl) fun K hK => ?_
 go_simp
 refine (H8.out w396.drew).mono ?_
 rintro e w399 ⟨rfl, q401⟩
 have V400 := V398.call q401
 refine hK _ _ ((V400.del 6)) ?_
 clear hK K q401
 refine zO 4 5 (by kernel_rfl) rfl (by rfl) fun K hK => ?_
 go_simp
 refine (H9.out w399).mono ?_
 rintro e w402 ⟨rfl, q404⟩
 have V403 := V400.call q404
 refine hK _ _ ((V403.del 6)) ?_
 clear hK K q404
 refine zO 7 4 (by kernel_rfl) rfl (by rfl) fun K hK => ?_
 go_simp
 refine (H10.out w402).mono ?_
 rintro e w405 ⟨rfl, q407⟩
 have V406 := V403.call q407
 refine hK _ _ ((V406.del 6)) ?_
 clear hK K q407
 refine zO 9 3 (by kernel_rfl) rfl (by rfl) fun K hK => ?_
 go_simp
 refine (H11.out w405).mono ?_
 rintro e w408 ⟨rfl, q410⟩
 have V409 := V406.call q410
 refine hK _ _ ((V409.del 6)) ?_
 clear hK K q410
 refine zO 12 2 (by kernel_rfl) rfl (by rfl) fun K hK => ?_
 go_simp
 refine (H12.out w408).mono ?_
 rintro e w411 ⟨rfl, q413⟩
 have V412 := V409.call q413
 refine hK _ _ ((V412.del 6)) ?_
 clear hK K q413
 refine zR [13] 1 (by kernel_rfl) (fun _ _ _ _ _ h => h) ((V412.del 6)) fun K hK => ?_
 go_simp
 refine zC (.agg (tA rx ry rz)) rfl (by rfl) (fun w' hw' => ?_) ?_
 ·refine exec_buildV 99 _ rfl (tA rx ry rz) ?_
  exact (built_T _ _ _)
 go_simp
 refine calm_nil (hK.out _ ?_)
 clear hK K
 refine zO 14 0 (by kernel_rfl) rfl (by rfl) fun K hK => ?_
 refine wp_storeV V412 6 rfl _ _ rfl rfl (tA rx ry rz) rfl rfl Tryz.szT (tA_size _ _ _) (tA_size _ _ _) (tA_one _ _ _) (fun w414 V415 => ?_)
 refine hK _ _ ((V415.del 6)) ?_
 clear hK K
 refine wpAnyH_done (by kernel_rfl) ?_ _
 go_wp2_with fail
 exact bodyPost_ret (resS1 rfl _ V415 6 rfl rfl Tryz.underlying99 Tryz.szT (tA_size _ _ _)) rfl ⟨rfl, V415.bel⟩
end Go.Proofs.YthangiocheodoaaGreatDoor.N
