/-
 The code of layer 17 (curve): plus.
-/
import Derived.Test.YthangiocheodoaaGreatDoorPackFb
import Derived.Test.YthangiocheodoaaGreatDoorPackCb
namespace Go.Proofs.YthangiocheodoaaGreatDoor.N
open Go.RowKit
set_option linter.unusedVariables false
set_option maxRecDepth 8192

set_option maxHeartbeats 6400000 in
theorem cplus_any (p q : T3) (w : World) (hd : DAt w) : Calls Tryz.prog 77 #[.agg (tA p.x.val p.y.val p.z.val), .agg (tA q.x.val q.y.val q.z.val)] w fun e w' => e = .returned (.agg (tA (plus3 p q).x.val (plus3 p q).y.val (plus3 p q).z.val)) ∧ Below w.heap.size w w' := by
 have H1 : Hid (∀ w, Rt Tryz.prog 56 #[.agg (bA p.x.val), .agg (bA q.x.val)] (.agg (bA ((p.x * q.x).val))) w) := fun w => cmul_any (p.x) (q.x) w
 have H2 : Hid (∀ w, Rt Tryz.prog 56 #[.agg (bA p.y.val), .agg (bA q.y.val)] (.agg (bA ((p.y * q.y).val))) w) := fun w => cmul_any (p.y) (q.y) w
 have H3 : Hid (∀ w, Rt Tryz.prog 56 #[.agg (bA p.z.val), .agg (bA q.z.val)] (.agg (bA ((p.z * q.z).val))) w) := fun w => cmul_any (p.z) (q.z) w
 have H4 : Hid (∀ w, Rt Tryz.prog 56 #[.agg (bA ((p.z * q.z).val)), .agg (bA ((p.z * q.z).val))] (.agg (bA ((p.z * q.z * (p.z * q.z)).val))) w) := fun w => cmul_any (p.z * q.z) (p.z * q.z) w
 have H5 : Hid (∀ w, Rt Tryz.prog 56 #[.agg (bA ((p.x * q.x).val)), .agg (bA ((p.y * q.y).val))] (.agg (bA ((p.x * q.x * (p.y * q.y)).val))) w) := fun w => cmul_any (p.x * q.x) (p.y * q.y) w
 have H6 : Hid (∀ w, Rt Tryz.prog 56 #[.agg (bA dN), .agg (bA ((p.x * q.x * (p.y * q.y)).val))] (.agg (bA ((cD * (p.x * q.x * (p.y * q.y))).val))) w) := fun w => cmul_any (cD) (p.x * q.x * (p.y * q.y)) w
 have H7 : Hid (∀ w, Rt Tryz.prog 58 #[.agg (bA ((p.z * q.z * (p.z * q.z)).val)), .agg (bA ((cD * (p.x * q.x * (p.y * q.y))).val))] (.agg (bA ((p.z * q.z * (p.z * q.z) + cD * (p.x * q.x * (p.y * q.y))).val))) w) := fun w => cadd_any (p.z * q.z * (p.z * q.z)) (cD * (p.x * q.x * (p.y * q.y))) w
 have H8 : Hid (∀ w, Rt Tryz.prog 27 #[.agg (bA ((p.z * q.z * (p.z * q.z)).val)), .agg (bA ((cD * (p.x * q.x * (p.y * q.y))).val))] (.agg (bA ((p.z * q.z * (p.z * q.z) - cD * (p.x * q.x * (p.y * q.y))).val))) w) := fun w => csub_any (p.z * q.z * (p.z * q.z)) (cD * (p.x * q.x * (p.y * q.y))) w
 have H9 : Hid (∀ w, Rt Tryz.prog 56 #[.agg (bA p.x.val), .agg (bA q.y.val)] (.agg (bA ((p.x * q.y).val))) w) := fun w => cmul_any (p.x) (q.y) w
 have H10 : Hid (∀ w, Rt Tryz.prog 56 #[.agg (bA p.y.val), .agg (bA q.x.val)] (.agg (bA ((p.y * q.x).val))) w) := fun w => cmul_any (p.y) (q.x) w
 have H11 : Hid (∀ w, Rt Tryz.prog 58 #[.agg (bA ((p.x * q.y).val)), .agg (bA ((p.y * q.x).val))] (.agg (bA ((p.x * q.y + p.y * q.x).val))) w) := fun w => cadd_any (p.x * q.y) (p.y * q.x) w
 have H12 : Hid (∀ w, Rt Tryz.prog 56 #[.agg (bA ((p.z * q.z).val)), .agg (bA ((p.x * q.y + p.y * q.x).val))] (.agg (bA ((p.z * q.z * (p.x * q.y + p.y * q.x)).val))) w) := fun w => cmul_any (p.z * q.z) (p.x * q.y + p.y * q.x) w
 have H13 : Hid (∀ w, Rt Tryz.prog 56 #[.agg (bA ((p.z * q.z * (p.x * q.y + p.y * q.x)).val)), .agg (bA ((p.z * q.z * (p.z * q.z) - cD * (p.x * q.x * (p.y * q.y))).val))] (.agg (bA ((plus3 p q).x.val))) w) := fun w => cmul_any (p.z * q.z * (p.x * q.y + p.y * q.x)) (p.z * q.z * (p.z * q.z) - cD * (p.x * q.x * (p.y * q.y))) w
 have H14 : Hid (∀ w, Rt Tryz.prog 58 #[.agg (bA ((p.y * q.y).val)), .agg (bA ((p.x * q.x).val))] (.agg (bA ((p.y * q.y + p.x * q.x).val))) w) := fun w => cadd_any (p.y * q.y) (p.x * q.x) w
 have H15 : Hid (∀ w, Rt Tryz.prog 56 #[.agg (bA ((p.z * q.z).val)), .agg (bA ((p.y * q.y + p.x * q.x).val))] (.agg (bA ((p.z * q.z * (p.y * q.y + p.x * q.x)).val))) w) := fun w => cmul_any (p.z * q.z) (p.y * q.y + p.x * q.x) w
 have H16 : Hid (∀ w, Rt Tryz.prog 56 #[.agg (bA ((p.z * q.z * (p.y * q.y + p.x * q.x)).val)), .agg (bA ((p.z * q.z * (p.z * q.z) + cD * (p.x * q.x * (p.y * q.y))).val))] (.agg (bA ((plus3 p q).y.val))) w) := fun w => cmul_any (p.z * q.z * (p.y * q.y + p.x * q.x)) (p.z * q.z * (p.z * q.z) + cD * (p.x * q.x * (p.y * q.y))) w
 have H17 : Hid (∀ w, Rt Tryz.prog 56 #[.agg (bA ((p.z * q.z * (p.z * q.z) + cD * (p.x * q.x * (p.y * q.y))).val)), .agg (bA ((p.z * q.z * (p.z * q.z) - cD * (p.x * q.x * (p.y * q.y))).val))] (.agg (bA ((plus3 p q).z.val))) w) := fun w => cmul_any (p.z * q.z * (p.z * q.z) + cD * (p.x * q.x * (p.y * q.y))) (p.z * q.z * (p.z * q.z) - cD * (p.x * q.x * (p.y * q.y))) w
 generalize (plus3 p q).x.val = rx at *
 generalize (plus3 p q).y.val = ry at *
 generalize (plus3 p q).z.val = rz at *
 generalize (p.z * q.z * (p.z * q.z) + cD * (p.x * q.x * (p.y * q.y))).val = fx at *
 generalize (p.z * q.z * (p.z * q.z) - cD * (p.x * q.x * (p.y * q.y))).val = fy at *
 generalize (p.z * q.z * (p.x * q.y + p.y * q.x)).val = zc at *
 generalize (p.z * q.z * (p.y * q.y + p.x * q.x)).val = zs at *
 generalize (p.y * q.y + p.x * q.x).val = su at *
 generalize (p.x * q.y + p.y * q.x).val = cr at *
 generalize (p.x * q.y).val = c1 at *
 generalize (p.y * q.x).val = c2 at *
 generalize (cD * (p.x * q.x * (p.y * q.y))).val = tu at *
 generalize (p.x * q.x * (p.y * q.y)).val = xy at *
 generalize (p.z * q.z * (p.z * q.z)).val = on at *
 generalize (p.z * q.z).val = zz at *
 generalize (p.y * q.y).val = yy at *
 generalize (p.x * q.x).val = xx at *
 generalize p.x.val = px at *
 generalize p.y.val = py at *
 generalize p.z.val = pz at *
 generalize q.x.val = qx at *
 generalize q.y.val = qy at *
 generalize q.z.val = qz at *
 have V0 := Vars.start w
 go_enter Tryz.func77, Tryz.ntmps77
 go_wp2_with (first
  | (refine wpList_boxV V0 2 99 _ rfl rfl rfl (tA px py pz) rfl ?_; intro w1 g2 V3)
  | (refine wpList_boxV V3 3 99 _ rfl rfl rfl (tA qx qy qz) rfl ?_; intro w4 g5 V6)
  | (refine wpList_allocV V6 4 99 rfl rfl rfl (tA 0 0 0) zeroT ?_; intro w7 g8 V9))
 refine av_open (fun w' => Vars w w' [⟨g8, 99, tA 0 0 0⟩, ⟨g5, 99, tA qx qy qz⟩, ⟨g2, 99, tA px py pz⟩]) (by kernel_rfl) ?_
 have V10 := V9.drew
 apply av_once33 (Vg := fun ga gb gc w' => Vars w w' [⟨ga, 22, bA 0⟩, ⟨gb, 22, bA 0⟩, ⟨gc, 22, bA 0⟩, ⟨g8, 99, tA 0 0 0⟩, ⟨g5, 99, tA qx qy qz⟩, ⟨g2, 99, tA px py pz⟩])
 intro HC11
 apply av_once22 (Vg := fun ga gb w' => Vars w w' [⟨ga, 22, bA 0⟩, ⟨gb, 22, bA 0⟩, ⟨g8, 99, tA 0 0 0⟩, ⟨g5, 99, tA qx qy qz⟩, ⟨g2, 99, tA px py pz⟩])
 intro HC12
 apply av_once22 (Vg := fun ga gb w' => Vars w w' [⟨ga, 22, bA 0⟩, ⟨gb, 22, bA 0⟩, ⟨g8, 99, tA 0 0 0⟩, ⟨g5, 99, tA qx qy qz⟩, ⟨g2, 99, tA px py pz⟩])
 intro HC13
 apply av_once22 (Vg := fun ga gb w' => Vars w w' [⟨ga, 22, bA 0⟩, ⟨gb, 22, bA 0⟩, ⟨g8, 99, tA 0 0 0⟩, ⟨g5, 99, tA qx qy qz⟩, ⟨g2, 99, tA px py pz⟩])
 intro HC14
 apply av_once33 (Vg := fun ga gb gc w' => Vars w w' [⟨ga, 22, bA 0⟩, ⟨gb, 22, bA 0⟩, ⟨gc, 22, bA 0⟩, ⟨g8, 99, tA 0 0 0⟩, ⟨g5, 99, tA qx qy qz⟩, ⟨g2, 99, tA px py pz⟩])
 intro HC15
 apply av_once (Vg := fun ga w' => Vars w w' [⟨ga, 22, bA 0⟩, ⟨g8, 99, tA 0 0 0⟩, ⟨g5, 99, tA qx qy qz⟩, ⟨g2, 99, tA px py pz⟩])
 intro HC16
 apply av_once (Vg := fun ga w' => Vars w w' [⟨ga, 22, bA 0⟩, ⟨g8, 99, tA 0 0 0⟩, ⟨g5, 99, tA qx qy qz⟩, ⟨g2, 99, tA px py pz⟩])
 intro HC17
 apply av_once (Vg := fun ga w' => Vars w w' [⟨ga, 22, bA 0⟩, ⟨g8, 99, tA 0 0 0⟩, ⟨g5, 99, tA qx qy qz⟩, ⟨g2, 99, tA px py pz⟩])
 intro HC18
 apply av_once22 (Vg := fun ga gb w' => Vars w w' [⟨ga, 22, bA 0⟩, ⟨gb, 22, bA 0⟩, ⟨g8, 99, tA 0 0 0⟩, ⟨g5, 99, tA qx qy qz⟩, ⟨g2, 99, tA px py pz⟩])
 intro HC19
 apply av_once22 (Vg := fun ga gb w' => Vars w w' [⟨ga, 22, bA 0⟩, ⟨gb, 22, bA 0⟩, ⟨g8, 99, tA 0 0 0⟩, ⟨g5, 99, tA qx qy qz⟩, ⟨g2, 99, tA px py pz⟩])
 intro HC20
 apply av_once22 (Vg := fun ga gb w' => Vars w w' [⟨ga, 22, bA 0⟩, ⟨gb, 22, bA 0⟩, ⟨g8, 99, tA 0 0 0⟩, ⟨g5, 99, tA qx qy qz⟩, ⟨g2, 99, tA px py pz⟩])
 intro HC21
 apply av_once33 (Vg := fun ga gb gc w' => Vars w w' [⟨ga, 22, bA 0⟩, ⟨gb, 22, bA 0⟩, ⟨gc, 22, bA 0⟩, ⟨g8, 99, tA 0 0 0⟩, ⟨g5, 99, tA qx qy qz⟩, ⟨g2, 99, tA px py pz⟩])
 intro HC22
 apply av_once (Vg := fun ga w' => Vars w w' [⟨ga, 22, bA 0⟩, ⟨g8, 99, tA 0 0 0⟩, ⟨g5, 99, tA qx qy qz⟩, ⟨g2, 99, tA px py pz⟩])
 intro HC23
 apply av_once (Vg := fun ga w' => Vars w w' [⟨ga, 22, bA 0⟩, ⟨g8, 99, tA 0 0 0⟩, ⟨g5, 99, tA qx qy qz⟩, ⟨g2, 99, tA px py pz⟩])
 intro HC24
 apply av_once (Vg := fun ga w' => Vars w w' [⟨ga, 22, bA 0⟩, ⟨g8, 99, tA 0 0 0⟩, ⟨g5, 99, tA qx qy qz⟩, ⟨g2, 99, tA px py pz⟩])
 intro HC25
 apply av_once22 (Vg := fun ga gb w' => Vars w w' [⟨ga, 22, bA 0⟩, ⟨gb, 22, bA 0⟩, ⟨g8, 99, tA 0 0 0⟩, ⟨g5, 99, tA qx qy qz⟩, ⟨g2, 99, tA px py pz⟩])
 intro HC26
 apply av_once22 (Vg := fun ga gb w' => Vars w w' [⟨ga, 22, bA 0⟩, ⟨gb, 22, bA 0⟩, ⟨g8, 99, tA 0 0 0⟩, ⟨g5, 99, tA qx qy qz⟩, ⟨g2, 99, tA px py pz⟩])
 intro HC27
 apply av_once22 (Vg := fun ga gb w' => Vars w w' [⟨ga, 22, bA 0⟩, ⟨gb, 22, bA 0⟩, ⟨g8, 99, tA 0 0 0⟩, ⟨g5, 99, tA qx qy qz⟩, ⟨g2, 99, tA px py pz⟩])
 intro HC28
 apply av_once33 (Vg := fun ga gb gc w' => Vars w w' [⟨ga, 22, bA 0⟩, ⟨gb, 22, bA 0⟩, ⟨gc, 22, bA 0⟩, ⟨g8, 99, tA 0 0 0⟩, ⟨g5, 99, tA qx qy qz⟩, ⟨g2, 99, tA px py pz⟩])
 intro HC29
 apply av_once (Vg := fun ga w' => Vars w w' [⟨ga, 22, bA 0⟩, ⟨g8, 99, tA 0 0 0⟩, ⟨g5, 99, tA qx qy qz⟩, ⟨g2, 99, tA px py pz⟩])
 intro HC30
 apply av_once (Vg := fun ga w' => Vars w w' [⟨ga, 22, bA 0⟩, ⟨g8, 99, tA 0 0 0⟩, ⟨g5, 99, tA qx qy qz⟩, ⟨g2, 99, tA px py pz⟩])
 intro HC31
 apply av_once (Vg := fun ga w' => Vars w w' [⟨ga, 22, bA 0⟩, ⟨g8, 99, tA 0 0 0⟩, ⟨g5, 99, tA qx qy qz⟩, ⟨g2, 99, tA px py pz⟩])
 intro HC32
 apply av_once22 (Vg := fun ga gb w' => Vars w w' [⟨ga, 22, bA 0⟩, ⟨gb, 22, bA 0⟩, ⟨g8, 99, tA 0 0 0⟩, ⟨g5, 99, tA qx qy qz⟩, ⟨g2, 99, tA px py pz⟩])
 intro HC33
 apply av_once22 (Vg := fun ga gb w' => Vars w w' [⟨ga, 22, bA 0⟩, ⟨gb, 22, bA 0⟩, ⟨g8, 99, tA 0 0 0⟩, ⟨g5, 99, tA qx qy qz⟩, ⟨g2, 99, tA px py pz⟩])
 intro HC34
 apply av_once22 (Vg := fun ga gb w' => Vars w w' [⟨ga, 22, bA 0⟩, ⟨gb, 22, bA 0⟩, ⟨g8, 99, tA 0 0 0⟩, ⟨g5, 99, tA qx qy qz⟩, ⟨g2, 99, tA px py pz⟩])
 intro HC35
 refine zR [0, 1, 2, 3, 5, 6, 7, 8, 10, 11, 12, 13] 9 (by kernel_rfl) (fun _ _ _ _ _ h => h) V10 fun K hK => ?_
 refine zC (.pointer (some ⟨g2, 0, none⟩)) rfl (by rfl) (fun w' hw' => ?_) ?_
 ·go_simp
 go_simp
 refine zC (.agg (bA px)) rfl (by rfl) (fun w' hw' => exec_loadP hw' 2 rfl 0 (tA_part0 _ _ _) _ rfl rfl Tryz.underlying22 Tryz.szB (bA_size _)) ?_
 go_simp
 refine zC (.pointer (some ⟨g5, 0, none⟩)) rfl (by rfl) (fun w' hw' => ?_) ?_
 ·go_simp
 go_simp
 refine zC (.agg (bA qx)) rfl (by rfl) (fun w' hw' => exec_loadP hw' 1 rfl 0 (tA_part0 _ _ _) _ rfl rfl Tryz.underlying22 Tryz.szB (bA_size _)) ?_
 go_simp
 refine zC (.pointer (some ⟨g2, 32, none⟩)) rfl (by rfl) (fun w' hw' => ?_) ?_
 ·go_simp
 go_simp
 refine zC (.agg (bA py)) rfl (by rfl) (fun w' hw' => exec_loadP hw' 2 rfl 32 (tA_part1 _ _ _) _ rfl rfl Tryz.underlying22 Tryz.szB (bA_size _)) ?_
 go_simp
 refine zC (.pointer (some ⟨g5, 32, none⟩)) rfl (by rfl) (fun w' hw' => ?_) ?_
 ·go_simp
 go_simp
 refine zC (.agg (bA qy)) rfl (by rfl) (fun w' hw' => exec_loadP hw' 1 rfl 32 (tA_part1 _ _ _) _ rfl rfl Tryz.underlying22 Tryz.szB (bA_size _)) ?_
 go_simp
 refine zC (.pointer (some ⟨g2, 64, none⟩)) rfl (by rfl) (fun w' hw' => ?_) ?_
 ·go_simp
 go_simp
 refine zC (.agg (bA pz)) rfl (by rfl) (fun w' hw' => exec_loadP hw' 2 rfl 64 (tA_part2 _ _ _) _ rfl rfl Tryz.underlying22 Tryz.szB (bA_size _)) ?_
 go_simp
 refine zC (.pointer (some ⟨g5, 64, none⟩)) rfl (by rfl) (fun w' hw' => ?_) ?_
 ·go_simp
 go_simp
 refine zC (.agg (bA qz)) rfl (by rfl) (fun w' hw' => exec_loadP hw' 1 rfl 64 (tA_part2 _ _ _) _ rfl rfl Tryz.underlying22 Tryz.szB (bA_size _)) ?_
 go_simp
 refine calm_nil (hK.out _ ?_)
 clear hK K
 refine av_listed (L' := (tf 21 15855)) (by kernel_rfl) ?_
 refine av_ops [4, 15, 16, 17] (fuel := 8) (by kernel_rfl) (List.cons_ne_nil _ _) ?_
 refine av_cons (tf 21 15871) rfl (by rfl) (by kernel_rfl) (fun K hK => ?_) ?_
 go_simp
 refine (H1.out w7.drew).mono ?_
 rintro e w36 ⟨rfl, q38⟩
 have V37 := V10.call q38
 try go_simp
 refine hK _ _ (V37) ?_
 clear hK K q38
 refine av_ops [9, 15, 16, 17] (fuel := 7) (by kernel_rfl) (List.cons_ne_nil _ _) ?_
 refine av_cons (tf 21 16383) rfl (by rfl) (by kernel_rfl) (fun K hK => ?_) ?_
 go_simp
 refine (H2.out w36).mono ?_
 rintro e w39 ⟨rfl, q41⟩
 have V40 := V37.call q41
 try go_simp
 refine hK _ _ (V40) ?_
 clear hK K q41
 refine av_ops [14, 15, 16, 17] (fuel := 6) (by kernel_rfl) (List.cons_ne_nil _ _) ?_
 refine av_cons (tf 21 32767) rfl (by rfl) (by kernel_rfl) (fun K hK => ?_) ?_
 go_simp
 refine (H3.out w39).mono ?_
 rintro e w42 ⟨rfl, q44⟩
 have V43 := V40.call q44
 try go_simp
 refine hK _ _ (V43) ?_
 clear hK K q44
 refine av_ops [15, 16, 17] (fuel := 5) (by kernel_rfl) (List.cons_ne_nil _ _) ?_
 refine av_cons (tf 21 65535) rfl (by rfl) (by kernel_rfl) (fun K hK => ?_) ?_
 refine zN V43 5 rfl rfl (fun w45 g46 V47 => ?_)
 try go_simp
 refine hK _ _ (V47.tail) ?_
 clear hK K
 exact HC16 g46 w45 V47
 refine av_cons (tf 21 98303) rfl (by rfl) (by kernel_rfl) (fun K hK => ?_) ?_
 refine zN V43 6 rfl rfl (fun w48 g49 V50 => ?_)
 try go_simp
 refine hK _ _ (V50.tail) ?_
 clear hK K
 exact HC17 g49 w48 V50
 refine av_cons (tf 21 163839) rfl (by rfl) (by kernel_rfl) (fun K hK => ?_) av_nil
 refine zN V43 7 rfl rfl (fun w51 g52 V53 => ?_)
 try go_simp
 refine hK _ _ (V53.tail) ?_
 clear hK K
 exact HC18 g52 w51 V53
 refine av_cons (tf 21 49151) rfl (by rfl) (by kernel_rfl) (fun K hK => ?_) ?_
 refine zN V40 5 rfl rfl (fun w54 g55 V56 => ?_)
 try go_simp
 refine hK _ _ (V56.tail) ?_
 clear hK K
 exact HC23 g55 w54 V56
 refine av_cons (tf 21 81919) rfl (by rfl) (by kernel_rfl) (fun K hK => ?_) ?_
 refine zN V40 6 rfl rfl (fun w57 g58 V59 => ?_)
 try go_simp
 refine hK _ _ (V59.tail) ?_
 clear hK K
 exact HC24 g58 w57 V59
 refine av_cons (tf 21 147455) rfl (by rfl) (by kernel_rfl) (fun K hK => ?_) av_nil
 refine zN V40 7 rfl rfl (fun w60 g61 V62 => ?_)
 try go_simp
 refine hK _ _ (V62.tail) ?_
 clear hK K
 exact HC25 g61 w60 V62
 refine av_cons (tf 21 48639) rfl (by rfl) (by kernel_rfl) (fun K hK => ?_) ?_
 refine zN V37 5 rfl rfl (fun w63 g64 V65 => ?_)
 try go_simp
 refine hK _ _ (V65.tail) ?_
 clear hK K
 exact HC30 g64 w63 V65
 refine av_cons (tf 21 81407) rfl (by rfl) (by kernel_rfl) (fun K hK => ?_) ?_
 refine zN V37 6 rfl rfl (fun w66 g67 V68 => ?_)
 try go_simp
 refine hK _ _ (V68.tail) ?_
 clear hK K
 exact HC31 g67 w66 V68
 refine av_cons (tf 21 146943) rfl (by rfl) (by kernel_rfl) (fun K hK => ?_) av_nil
 refine zN V37 7 rfl rfl (fun w69 g70 V71 => ?_)
 try go_simp
 refine hK _ _ (V71.tail) ?_
 clear hK K
 exact HC32 g70 w69 V71
 refine av_cons (tf 21 48623) rfl (by rfl) (by kernel_rfl) (fun K hK => ?_) ?_
 refine zN V10 5 rfl rfl (fun w72 g73 V74 => ?_)
 try go_simp
 refine hK _ _ (V74.tail) ?_
 clear hK K
 refine av_ops [4, 16, 17] (fuel := 7) (by kernel_rfl) (List.cons_ne_nil _ _) ?_
 refine av_cons (tf 21 48639) rfl (by rfl) (by kernel_rfl) (fun K hK => ?_) ?_
 go_simp
 refine (H1.out w72).mono ?_
 rintro e w75 ⟨rfl, q77⟩
 have V76 := V74.call q77
 try go_simp
 refine hK _ _ (V76.tail) ?_
 clear hK K q77
 exact HC30 g73 w75 V76
 refine av_cons (tf 21 114159) rfl (by rfl) (by kernel_rfl) (fun K hK => ?_) ?_
 refine zN V74 6 rfl rfl (fun w78 g79 V80 => ?_)
 have V80m : Vars w w78 [⟨g73, 22, bA 0⟩, ⟨g79, 22, bA 0⟩, ⟨g8, 99, tA 0 0 0⟩, ⟨g5, 99, tA qx qy qz⟩, ⟨g2, 99, tA px py pz⟩] := V80.mv 1 (Nat.le_of_ble_eq_true rfl)
 try go_simp
 refine hK _ _ (V80m.tail.tail) ?_
 clear hK K
 exact HC33 g73 g79 w78 V80m
 refine av_cons (tf 21 179695) rfl (by rfl) (by kernel_rfl) (fun K hK => ?_) av_nil
 refine zN V74 7 rfl rfl (fun w81 g82 V83 => ?_)
 have V83m : Vars w w81 [⟨g73, 22, bA 0⟩, ⟨g82, 22, bA 0⟩, ⟨g8, 99, tA 0 0 0⟩, ⟨g5, 99, tA qx qy qz⟩, ⟨g2, 99, tA px py pz⟩] := V83.mv 1 (Nat.le_of_ble_eq_true rfl)
 try go_simp
 refine hK _ _ (V83m.tail.tail) ?_
 clear hK K
 exact HC34 g73 g82 w81 V83m
 refine av_cons (tf 21 81391) rfl (by rfl) (by kernel_rfl) (fun K hK => ?_) ?_
 refine zN V10 6 rfl rfl (fun w84 g85 V86 => ?_)
 try go_simp
 refine hK _ _ (V86.tail) ?_
 clear hK K
 refine av_ops [4, 15, 17] (fuel := 7) (by kernel_rfl) (List.cons_ne_nil _ _) ?_
 refine av_cons (tf 21 81407) rfl (by rfl) (by kernel_rfl) (fun K hK => ?_) ?_
 go_simp
 refine (H1.out w84).mono ?_
 rintro e w87 ⟨rfl, q89⟩
 have V88 := V86.call q89
 try go_simp
 refine hK _ _ (V88.tail) ?_
 clear hK K q89
 exact HC31 g85 w87 V88
 refine av_cons (tf 21 114159) rfl (by rfl) (by kernel_rfl) (fun K hK => ?_) ?_
 refine zN V86 5 rfl rfl (fun w90 g91 V92 => ?_)
 try go_simp
 refine hK _ _ (V92.tail.tail) ?_
 clear hK K
 exact HC33 g91 g85 w90 V92
 refine av_cons (tf 21 212463) rfl (by rfl) (by kernel_rfl) (fun K hK => ?_) av_nil
 refine zN V86 7 rfl rfl (fun w93 g94 V95 => ?_)
 have V95m : Vars w w93 [⟨g85, 22, bA 0⟩, ⟨g94, 22, bA 0⟩, ⟨g8, 99, tA 0 0 0⟩, ⟨g5, 99, tA qx qy qz⟩, ⟨g2, 99, tA px py pz⟩] := V95.mv 1 (Nat.le_of_ble_eq_true rfl)
 try go_simp
 refine hK _ _ (V95m.tail.tail) ?_
 clear hK K
 exact HC35 g85 g94 w93 V95m
 refine av_cons (tf 21 146927) rfl (by rfl) (by kernel_rfl) (fun K hK => ?_) av_nil
 refine zN V10 7 rfl rfl (fun w96 g97 V98 => ?_)
 try go_simp
 refine hK _ _ (V98.tail) ?_
 clear hK K
 refine av_ops [4, 15, 16] (fuel := 7) (by kernel_rfl) (List.cons_ne_nil _ _) ?_
 refine av_cons (tf 21 146943) rfl (by rfl) (by kernel_rfl) (fun K hK => ?_) ?_
 go_simp
 refine (H1.out w96).mono ?_
 rintro e w99 ⟨rfl, q101⟩
 have V100 := V98.call q101
 try go_simp
 refine hK _ _ (V100.tail) ?_
 clear hK K q101
 exact HC32 g97 w99 V100
 refine av_cons (tf 21 179695) rfl (by rfl) (by kernel_rfl) (fun K hK => ?_) ?_
 refine zN V98 5 rfl rfl (fun w102 g103 V104 => ?_)
 try go_simp
 refine hK _ _ (V104.tail.tail) ?_
 clear hK K
 exact HC34 g103 g97 w102 V104
 refine av_cons (tf 21 212463) rfl (by rfl) (by kernel_rfl) (fun K hK => ?_) av_nil
 refine zN V98 6 rfl rfl (fun w105 g106 V107 => ?_)
 try go_simp
 refine hK _ _ (V107.tail.tail) ?_
 clear hK K
 exact HC35 g106 g97 w105 V107
 intro g108 g109 w110 V111
 refine av_ops [4, 15] (fuel := 6) (by kernel_rfl) (List.cons_ne_nil _ _) ?_
 refine av_cons (tf 21 212479) rfl (by rfl) (by kernel_rfl) (fun K hK => ?_) ?_
 go_simp
 refine (H1.out w110).mono ?_
 rintro e w112 ⟨rfl, q114⟩
 have V113 := V111.call q114
 try go_simp
 refine hK _ _ (V113.tail.tail) ?_
 clear hK K q114
 exact HC28 g108 g109 w112 V113
 refine av_cons (tf 21 245231) rfl (by rfl) (by kernel_rfl) (fun K hK => ?_) av_nil
 refine zN V111 5 rfl rfl (fun w115 g116 V117 => ?_)
 try go_simp
 refine hK _ _ (V117.tail.tail.tail) ?_
 clear hK K
 exact HC29 g116 g108 g109 w115 V117
 intro g118 g119 w120 V121
 refine av_ops [4, 16] (fuel := 6) (by kernel_rfl) (List.cons_ne_nil _ _) ?_
 refine av_cons (tf 21 179711) rfl (by rfl) (by kernel_rfl) (fun K hK => ?_) ?_
 go_simp
 refine (H1.out w120).mono ?_
 rintro e w122 ⟨rfl, q124⟩
 have V123 := V121.call q124
 try go_simp
 refine hK _ _ (V123.tail.tail) ?_
 clear hK K q124
 exact HC27 g118 g119 w122 V123
 refine av_cons (tf 21 245231) rfl (by rfl) (by kernel_rfl) (fun K hK => ?_) av_nil
 refine zN V121 6 rfl rfl (fun w125 g126 V127 => ?_)
 have V127m : Vars w w125 [⟨g118, 22, bA 0⟩, ⟨g126, 22, bA 0⟩, ⟨g119, 22, bA 0⟩, ⟨g8, 99, tA 0 0 0⟩, ⟨g5, 99, tA qx qy qz⟩, ⟨g2, 99, tA px py pz⟩] := V127.mv 1 (Nat.le_of_ble_eq_true rfl)
 try go_simp
 refine hK _ _ (V127m.tail.tail.tail) ?_
 clear hK K
 exact HC29 g118 g126 g119 w125 V127m
 intro g128 g129 w130 V131
 refine av_ops [4, 17] (fuel := 6) (by kernel_rfl) (List.cons_ne_nil _ _) ?_
 refine av_cons (tf 21 114175) rfl (by rfl) (by kernel_rfl) (fun K hK => ?_) ?_
 go_simp
 refine (H1.out w130).mono ?_
 rintro e w132 ⟨rfl, q134⟩
 have V133 := V131.call q134
 try go_simp
 refine hK _ _ (V133.tail.tail) ?_
 clear hK K q134
 exact HC26 g128 g129 w132 V133
 refine av_cons (tf 21 245231) rfl (by rfl) (by kernel_rfl) (fun K hK => ?_) av_nil
 refine zN V131 7 rfl rfl (fun w135 g136 V137 => ?_)
 have V137m : Vars w w135 [⟨g128, 22, bA 0⟩, ⟨g129, 22, bA 0⟩, ⟨g136, 22, bA 0⟩, ⟨g8, 99, tA 0 0 0⟩, ⟨g5, 99, tA qx qy qz⟩, ⟨g2, 99, tA px py pz⟩] := V137.mv 2 (Nat.le_of_ble_eq_true rfl)
 try go_simp
 refine hK _ _ (V137m.tail.tail.tail) ?_
 clear hK K
 exact HC29 g128 g129 g136 w135 V137m
 intro g138 w139 V140
 refine av_ops [9, 15, 16] (fuel := 6) (by kernel_rfl) (List.cons_ne_nil _ _) ?_
 refine av_cons (tf 21 147455) rfl (by rfl) (by kernel_rfl) (fun K hK => ?_) ?_
 go_simp
 refine (H2.out w139).mono ?_
 rintro e w141 ⟨rfl, q143⟩
 have V142 := V140.call q143
 try go_simp
 refine hK _ _ (V142.tail) ?_
 clear hK K q143
 exact HC25 g138 w141 V142
 refine av_cons (tf 21 179711) rfl (by rfl) (by kernel_rfl) (fun K hK => ?_) ?_
 refine zN V140 5 rfl rfl (fun w144 g145 V146 => ?_)
 try go_simp
 refine hK _ _ (V146.tail.tail) ?_
 clear hK K
 exact HC27 g145 g138 w144 V146
 refine av_cons (tf 21 212479) rfl (by rfl) (by kernel_rfl) (fun K hK => ?_) av_nil
 refine zN V140 6 rfl rfl (fun w147 g148 V149 => ?_)
 try go_simp
 refine hK _ _ (V149.tail.tail) ?_
 clear hK K
 exact HC28 g148 g138 w147 V149
 intro g150 w151 V152
 refine av_ops [9, 15, 17] (fuel := 6) (by kernel_rfl) (List.cons_ne_nil _ _) ?_
 refine av_cons (tf 21 81919) rfl (by rfl) (by kernel_rfl) (fun K hK => ?_) ?_
 go_simp
 refine (H2.out w151).mono ?_
 rintro e w153 ⟨rfl, q155⟩
 have V154 := V152.call q155
 try go_simp
 refine hK _ _ (V154.tail) ?_
 clear hK K q155
 exact HC24 g150 w153 V154
 refine av_cons (tf 21 114175) rfl (by rfl) (by kernel_rfl) (fun K hK => ?_) ?_
 refine zN V152 5 rfl rfl (fun w156 g157 V158 => ?_)
 try go_simp
 refine hK _ _ (V158.tail.tail) ?_
 clear hK K
 exact HC26 g157 g150 w156 V158
 refine av_cons (tf 21 212479) rfl (by rfl) (by kernel_rfl) (fun K hK => ?_) av_nil
 refine zN V152 7 rfl rfl (fun w159 g160 V161 => ?_)
 have V161m : Vars w w159 [⟨g150, 22, bA 0⟩, ⟨g160, 22, bA 0⟩, ⟨g8, 99, tA 0 0 0⟩, ⟨g5, 99, tA qx qy qz⟩, ⟨g2, 99, tA px py pz⟩] := V161.mv 1 (Nat.le_of_ble_eq_true rfl)
 try go_simp
 refine hK _ _ (V161m.tail.tail) ?_
 clear hK K
 exact HC28 g150 g160 w159 V161m
 intro g162 w163 V164
 refine av_ops [9, 16, 17] (fuel := 6) (by kernel_rfl) (List.cons_ne_nil _ _) ?_
 refine av_cons (tf 21 49151) rfl (by rfl) (by kernel_rfl) (fun K hK => ?_) ?_
 go_simp
 refine (H2.out w163).mono ?_
 rintro e w165 ⟨rfl, q167⟩
 have V166 := V164.call q167
 try go_simp
 refine hK _ _ (V166.tail) ?_
 clear hK K q167
 exact HC23 g162 w165 V166
 refine av_cons (tf 21 114175) rfl (by rfl) (by kernel_rfl) (fun K hK => ?_) ?_
 refine zN V164 6 rfl rfl (fun w168 g169 V170 => ?_)
 have V170m : Vars w w168 [⟨g162, 22, bA 0⟩, ⟨g169, 22, bA 0⟩, ⟨g8, 99, tA 0 0 0⟩, ⟨g5, 99, tA qx qy qz⟩, ⟨g2, 99, tA px py pz⟩] := V170.mv 1 (Nat.le_of_ble_eq_true rfl)
 try go_simp
 refine hK _ _ (V170m.tail.tail) ?_
 clear hK K
 exact HC26 g162 g169 w168 V170m
 refine av_cons (tf 21 179711) rfl (by rfl) (by kernel_rfl) (fun K hK => ?_) av_nil
 refine zN V164 7 rfl rfl (fun w171 g172 V173 => ?_)
 have V173m : Vars w w171 [⟨g162, 22, bA 0⟩, ⟨g172, 22, bA 0⟩, ⟨g8, 99, tA 0 0 0⟩, ⟨g5, 99, tA qx qy qz⟩, ⟨g2, 99, tA px py pz⟩] := V173.mv 1 (Nat.le_of_ble_eq_true rfl)
 try go_simp
 refine hK _ _ (V173m.tail.tail) ?_
 clear hK K
 exact HC27 g162 g172 w171 V173m
 intro g174 g175 g176 w177 V178
 refine av_ops [4] (fuel := 5) (by kernel_rfl) (List.cons_ne_nil _ _) ?_
 refine av_cons (tf 21 245247) rfl (by rfl) (by kernel_rfl) (fun K hK => ?_) av_nil
 go_simp
 refine (H1.out w177).mono ?_
 rintro e w179 ⟨rfl, q181⟩
 have V180 := V178.call q181
 try go_simp
 refine hK _ _ (V180.tail.tail.tail) ?_
 clear hK K q181
 exact HC22 g174 g175 g176 w179 V180
 intro g182 g183 w184 V185
 refine av_ops [9, 15] (fuel := 5) (by kernel_rfl) (List.cons_ne_nil _ _) ?_
 refine av_cons (tf 21 212991) rfl (by rfl) (by kernel_rfl) (fun K hK => ?_) ?_
 go_simp
 refine (H2.out w184).mono ?_
 rintro e w186 ⟨rfl, q188⟩
 have V187 := V185.call q188
 try go_simp
 refine hK _ _ (V187.tail.tail) ?_
 clear hK K q188
 exact HC21 g182 g183 w186 V187
 refine av_cons (tf 21 245247) rfl (by rfl) (by kernel_rfl) (fun K hK => ?_) av_nil
 refine zN V185 5 rfl rfl (fun w189 g190 V191 => ?_)
 try go_simp
 refine hK _ _ (V191.tail.tail.tail) ?_
 clear hK K
 exact HC22 g190 g182 g183 w189 V191
 intro g192 g193 w194 V195
 refine av_ops [9, 16] (fuel := 5) (by kernel_rfl) (List.cons_ne_nil _ _) ?_
 refine av_cons (tf 21 180223) rfl (by rfl) (by kernel_rfl) (fun K hK => ?_) ?_
 go_simp
 refine (H2.out w194).mono ?_
 rintro e w196 ⟨rfl, q198⟩
 have V197 := V195.call q198
 try go_simp
 refine hK _ _ (V197.tail.tail) ?_
 clear hK K q198
 exact HC20 g192 g193 w196 V197
 refine av_cons (tf 21 245247) rfl (by rfl) (by kernel_rfl) (fun K hK => ?_) av_nil
 refine zN V195 6 rfl rfl (fun w199 g200 V201 => ?_)
 have V201m : Vars w w199 [⟨g192, 22, bA 0⟩, ⟨g200, 22, bA 0⟩, ⟨g193, 22, bA 0⟩, ⟨g8, 99, tA 0 0 0⟩, ⟨g5, 99, tA qx qy qz⟩, ⟨g2, 99, tA px py pz⟩] := V201.mv 1 (Nat.le_of_ble_eq_true rfl)
 try go_simp
 refine hK _ _ (V201m.tail.tail.tail) ?_
 clear hK K
 exact HC22 g192 g200 g193 w199 V201m
 intro g202 g203 w204 V205
 refine av_ops [9, 17] (fuel := 5) (by kernel_rfl) (List.cons_ne_nil _ _) ?_
 refine av_cons (tf 21 114687) rfl (by rfl) (by kernel_rfl) (fun K hK => ?_) ?_
 go_simp
 refine (H2.out w204).mono ?_
 rintro e w206 ⟨rfl, q208⟩
 have V207 := V205.call q208
 try go_simp
 refine hK _ _ (V207.tail.tail) ?_
 clear hK K q208
 exact HC19 g202 g203 w206 V207
 refine av_cons (tf 21 245247) rfl (by rfl) (by kernel_rfl) (fun K hK => ?_) av_nil
 refine zN V205 7 rfl rfl (fun w209 g210 V211 => ?_)
 have V211m : Vars w w209 [⟨g202, 22, bA 0⟩, ⟨g203, 22, bA 0⟩, ⟨g210, 22, bA 0⟩, ⟨g8, 99, tA 0 0 0⟩, ⟨g5, 99, tA qx qy qz⟩, ⟨g2, 99, tA px py pz⟩] := V211.mv 2 (Nat.le_of_ble_eq_true rfl)
 try go_simp
 refine hK _ _ (V211m.tail.tail.tail) ?_
 clear hK K
 exact HC22 g202 g203 g210 w209 V211m
 intro g212 w213 V214
 refine av_ops [14, 15, 16] (fuel := 5) (by kernel_rfl) (List.cons_ne_nil _ _) ?_
 refine av_cons (tf 21 163839) rfl (by rfl) (by kernel_rfl) (fun K hK => ?_) ?_
 go_simp
 refine (H3.out w213).mono ?_
 rintro e w215 ⟨rfl, q217⟩
 have V216 := V214.call q217
 try go_simp
 refine hK _ _ (V216.tail) ?_
 clear hK K q217
 exact HC18 g212 w215 V216
 refine av_cons (tf 21 180223) rfl (by rfl) (by kernel_rfl) (fun K hK => ?_) ?_
 refine zN V214 5 rfl rfl (fun w218 g219 V220 => ?_)
 try go_simp
 refine hK _ _ (V220.tail.tail) ?_
 clear hK K
 exact HC20 g219 g212 w218 V220
 refine av_cons (tf 21 212991) rfl (by rfl) (by kernel_rfl) (fun K hK => ?_) av_nil
 refine zN V214 6 rfl rfl (fun w221 g222 V223 => ?_)
 try go_simp
 refine hK _ _ (V223.tail.tail) ?_
 clear hK K
 exact HC21 g222 g212 w221 V223
 intro g224 w225 V226
 refine av_ops [14, 15, 17] (fuel := 5) (by kernel_rfl) (List.cons_ne_nil _ _) ?_
 refine av_cons (tf 21 98303) rfl (by rfl) (by kernel_rfl) (fun K hK => ?_) ?_
 go_simp
 refine (H3.out w225).mono ?_
 rintro e w227 ⟨rfl, q229⟩
 have V228 := V226.call q229
 try go_simp
 refine hK _ _ (V228.tail) ?_
 clear hK K q229
 exact HC17 g224 w227 V228
 refine av_cons (tf 21 114687) rfl (by rfl) (by kernel_rfl) (fun K hK => ?_) ?_
 refine zN V226 5 rfl rfl (fun w230 g231 V232 => ?_)
 try go_simp
 refine hK _ _ (V232.tail.tail) ?_
 clear hK K
 exact HC19 g231 g224 w230 V232
 refine av_cons (tf 21 212991) rfl (by rfl) (by kernel_rfl) (fun K hK => ?_) av_nil
 refine zN V226 7 rfl rfl (fun w233 g234 V235 => ?_)
 have V235m : Vars w w233 [⟨g224, 22, bA 0⟩, ⟨g234, 22, bA 0⟩, ⟨g8, 99, tA 0 0 0⟩, ⟨g5, 99, tA qx qy qz⟩, ⟨g2, 99, tA px py pz⟩] := V235.mv 1 (Nat.le_of_ble_eq_true rfl)
 try go_simp
 refine hK _ _ (V235m.tail.tail) ?_
 clear hK K
 exact HC21 g224 g234 w233 V235m
 intro g236 w237 V238
 refine av_ops [14, 16, 17] (fuel := 5) (by kernel_rfl) (List.cons_ne_nil _ _) ?_
 refine av_cons (tf 21 65535) rfl (by rfl) (by kernel_rfl) (fun K hK => ?_) ?_
 go_simp
 refine (H3.out w237).mono ?_
 rintro e w239 ⟨rfl, q241⟩
 have V240 := V238.call q241
 try go_simp
 refine hK _ _ (V240.tail) ?_
 clear hK K q241
 exact HC16 g236 w239 V240
 refine av_cons (tf 21 114687) rfl (by rfl) (by kernel_rfl) (fun K hK => ?_) ?_
 refine zN V238 6 rfl rfl (fun w242 g243 V244 => ?_)
 have V244m : Vars w w242 [⟨g236, 22, bA 0⟩, ⟨g243, 22, bA 0⟩, ⟨g8, 99, tA 0 0 0⟩, ⟨g5, 99, tA qx qy qz⟩, ⟨g2, 99, tA px py pz⟩] := V244.mv 1 (Nat.le_of_ble_eq_true rfl)
 try go_simp
 refine hK _ _ (V244m.tail.tail) ?_
 clear hK K
 exact HC19 g236 g243 w242 V244m
 refine av_cons (tf 21 180223) rfl (by rfl) (by kernel_rfl) (fun K hK => ?_) av_nil
 refine zN V238 7 rfl rfl (fun w245 g246 V247 => ?_)
 have V247m : Vars w w245 [⟨g236, 22, bA 0⟩, ⟨g246, 22, bA 0⟩, ⟨g8, 99, tA 0 0 0⟩, ⟨g5, 99, tA qx qy qz⟩, ⟨g2, 99, tA px py pz⟩] := V247.mv 1 (Nat.le_of_ble_eq_true rfl)
 try go_simp
 refine hK _ _ (V247m.tail.tail) ?_
 clear hK K
 exact HC20 g236 g246 w245 V247m
 intro g248 g249 g250 w251 V252
 refine av_ops [9] (fuel := 4) (by kernel_rfl) (List.cons_ne_nil _ _) ?_
 refine av_cons (tf 21 245759) rfl (by rfl) (by kernel_rfl) (fun K hK => ?_) av_nil
 go_simp
 refine (H2.out w251).mono ?_
 rintro e w253 ⟨rfl, q255⟩
 have V254 := V252.call q255
 try go_simp
 refine hK _ _ (V254.tail.tail.tail) ?_
 clear hK K q255
 exact HC15 g248 g249 g250 w253 V254
 intro g256 g257 w258 V259
 refine av_ops [14, 15] (fuel := 4) (by kernel_rfl) (List.cons_ne_nil _ _) ?_
 refine av_cons (tf 21 229375) rfl (by rfl) (by kernel_rfl) (fun K hK => ?_) ?_
 go_simp
 refine (H3.out w258).mono ?_
 rintro e w260 ⟨rfl, q262⟩
 have V261 := V259.call q262
 try go_simp
 refine hK _ _ (V261.tail.tail) ?_
 clear hK K q262
 exact HC14 g256 g257 w260 V261
 refine av_cons (tf 21 245759) rfl (by rfl) (by kernel_rfl) (fun K hK => ?_) av_nil
 refine zN V259 5 rfl rfl (fun w263 g264 V265 => ?_)
 try go_simp
 refine hK _ _ (V265.tail.tail.tail) ?_
 clear hK K
 exact HC15 g264 g256 g257 w263 V265
 intro g266 g267 w268 V269
 refine av_ops [14, 16] (fuel := 4) (by kernel_rfl) (List.cons_ne_nil _ _) ?_
 refine av_cons (tf 21 196607) rfl (by rfl) (by kernel_rfl) (fun K hK => ?_) ?_
 go_simp
 refine (H3.out w268).mono ?_
 rintro e w270 ⟨rfl, q272⟩
 have V271 := V269.call q272
 try go_simp
 refine hK _ _ (V271.tail.tail) ?_
 clear hK K q272
 exact HC13 g266 g267 w270 V271
 refine av_cons (tf 21 245759) rfl (by rfl) (by kernel_rfl) (fun K hK => ?_) av_nil
 refine zN V269 6 rfl rfl (fun w273 g274 V275 => ?_)
 have V275m : Vars w w273 [⟨g266, 22, bA 0⟩, ⟨g274, 22, bA 0⟩, ⟨g267, 22, bA 0⟩, ⟨g8, 99, tA 0 0 0⟩, ⟨g5, 99, tA qx qy qz⟩, ⟨g2, 99, tA px py pz⟩] := V275.mv 1 (Nat.le_of_ble_eq_true rfl)
 try go_simp
 refine hK _ _ (V275m.tail.tail.tail) ?_
 clear hK K
 exact HC15 g266 g274 g267 w273 V275m
 intro g276 g277 w278 V279
 refine av_ops [14, 17] (fuel := 4) (by kernel_rfl) (List.cons_ne_nil _ _) ?_
 refine av_cons (tf 21 131071) rfl (by rfl) (by kernel_rfl) (fun K hK => ?_) ?_
 go_simp
 refine (H3.out w278).mono ?_
 rintro e w280 ⟨rfl, q282⟩
 have V281 := V279.call q282
 try go_simp
 refine hK _ _ (V281.tail.tail) ?_
 clear hK K q282
 exact HC12 g276 g277 w280 V281
 refine av_cons (tf 21 245759) rfl (by rfl) (by kernel_rfl) (fun K hK => ?_) av_nil
 refine zN V279 7 rfl rfl (fun w283 g284 V285 => ?_)
 have V285m : Vars w w283 [⟨g276, 22, bA 0⟩, ⟨g277, 22, bA 0⟩, ⟨g284, 22, bA 0⟩, ⟨g8, 99, tA 0 0 0⟩, ⟨g5, 99, tA qx qy qz⟩, ⟨g2, 99, tA px py pz⟩] := V285.mv 2 (Nat.le_of_ble_eq_true rfl)
 try go_simp
 refine hK _ _ (V285m.tail.tail.tail) ?_
 clear hK K
 exact HC15 g276 g277 g284 w283 V285m
 intro g286 w287 V288
 refine av_ops [15, 16] (fuel := 4) (by kernel_rfl) (List.cons_ne_nil _ _) ?_
 refine av_cons (tf 21 196607) rfl (by rfl) (by kernel_rfl) (fun K hK => ?_) ?_
 refine zN V288 5 rfl rfl (fun w289 g290 V291 => ?_)
 try go_simp
 refine hK _ _ (V291.tail.tail) ?_
 clear hK K
 exact HC13 g290 g286 w289 V291
 refine av_cons (tf 21 229375) rfl (by rfl) (by kernel_rfl) (fun K hK => ?_) av_nil
 refine zN V288 6 rfl rfl (fun w292 g293 V294 => ?_)
 try go_simp
 refine hK _ _ (V294.tail.tail) ?_
 clear hK K
 exact HC14 g293 g286 w292 V294
 intro g295 w296 V297
 refine av_ops [15, 17] (fuel := 4) (by kernel_rfl) (List.cons_ne_nil _ _) ?_
 refine av_cons (tf 21 131071) rfl (by rfl) (by kernel_rfl) (fun K hK => ?_) ?_
 refine zN V297 5 rfl rfl (fun w298 g299 V300 => ?_)
 try go_simp
 refine hK _ _ (V300.tail.tail) ?_
 clear hK K
 exact HC12 g299 g295 w298 V300
 refine av_cons (tf 21 229375) rfl (by rfl) (by kernel_rfl) (fun K hK => ?_) av_nil
 refine zN V297 7 rfl rfl (fun w301 g302 V303 => ?_)
 have V303m : Vars w w301 [⟨g295, 22, bA 0⟩, ⟨g302, 22, bA 0⟩, ⟨g8, 99, tA 0 0 0⟩, ⟨g5, 99, tA qx qy qz⟩, ⟨g2, 99, tA px py pz⟩] := V303.mv 1 (Nat.le_of_ble_eq_true rfl)
 try go_simp
 refine hK _ _ (V303m.tail.tail) ?_
 clear hK K
 exact HC14 g295 g302 w301 V303m
 intro g304 w305 V306
 refine av_ops [16, 17] (fuel := 4) (by kernel_rfl) (List.cons_ne_nil _ _) ?_
 refine av_cons (tf 21 131071) rfl (by rfl) (by kernel_rfl) (fun K hK => ?_) ?_
 refine zN V306 6 rfl rfl (fun w307 g308 V309 => ?_)
 have V309m : Vars w w307 [⟨g304, 22, bA 0⟩, ⟨g308, 22, bA 0⟩, ⟨g8, 99, tA 0 0 0⟩, ⟨g5, 99, tA qx qy qz⟩, ⟨g2, 99, tA px py pz⟩] := V309.mv 1 (Nat.le_of_ble_eq_true rfl)
 try go_simp
 refine hK _ _ (V309m.tail.tail) ?_
 clear hK K
 exact HC12 g304 g308 w307 V309m
 refine av_cons (tf 21 196607) rfl (by rfl) (by kernel_rfl) (fun K hK => ?_) av_nil
 refine zN V306 7 rfl rfl (fun w310 g311 V312 => ?_)
 have V312m : Vars w w310 [⟨g304, 22, bA 0⟩, ⟨g311, 22, bA 0⟩, ⟨g8, 99, tA 0 0 0⟩, ⟨g5, 99, tA qx qy qz⟩, ⟨g2, 99, tA px py pz⟩] := V312.mv 1 (Nat.le_of_ble_eq_true rfl)
 try go_simp
 refine hK _ _ (V312m.tail.tail) ?_
 clear hK K
 exact HC13 g304 g311 w310 V312m
 intro g313 g314 g315 w316 V317
 refine av_ops [14] (fuel := 3) (by kernel_rfl) (List.cons_ne_nil _ _) ?_
 refine av_cons (tf 21 262143) rfl (by rfl) (by kernel_rfl) (fun K hK => ?_) av_nil
 go_simp
 refine (H3.out w316).mono ?_
 rintro e w318 ⟨rfl, q320⟩
 have V319 := V317.call q320
 try go_simp
 refine hK _ _ (V319.tail.tail.tail) ?_
 clear hK K q320
 exact HC11 g313 g314 g315 w318 V319
 intro g321 g322 w323 V324
 refine av_ops [15] (fuel := 3) (by kernel_rfl) (List.cons_ne_nil _ _) ?_
 refine av_cons (tf 21 262143) rfl (by rfl) (by kernel_rfl) (fun K hK => ?_) av_nil
 refine zN V324 5 rfl rfl (fun w325 g326 V327 => ?_)
 try go_simp
 refine hK _ _ (V327.tail.tail.tail) ?_
 clear hK K
 exact HC11 g326 g321 g322 w325 V327
 intro g328 g329 w330 V331
 refine av_ops [16] (fuel := 3) (by kernel_rfl) (List.cons_ne_nil _ _) ?_
 refine av_cons (tf 21 262143) rfl (by rfl) (by kernel_rfl) (fun K hK => ?_) av_nil
 refine zN V331 6 rfl rfl (fun w332 g333 V334 => ?_)
 have V334m : Vars w w332 [⟨g328, 22, bA 0⟩, ⟨g333, 22, bA 0⟩, ⟨g329, 22, bA 0⟩, ⟨g8, 99, tA 0 0 0⟩, ⟨g5, 99, tA qx qy qz⟩, ⟨g2, 99, tA px py pz⟩] := V334.mv 1 (Nat.le_of_ble_eq_true rfl)
 try go_simp
 refine hK _ _ (V334m.tail.tail.tail) ?_
 clear hK K
 exact HC11 g328 g333 g329 w332 V334m
 intro g335 g336 w337 V338
 refine av_ops [17] (fuel := 3) (by kernel_rfl) (List.cons_ne_nil _ _) ?_
 refine av_cons (tf 21 262143) rfl (by rfl) (by kernel_rfl) (fun K hK => ?_) av_nil
 refine zN V338 7 rfl rfl (fun w339 g340 V341 => ?_)
 have V341m : Vars w w339 [⟨g335, 22, bA 0⟩, ⟨g336, 22, bA 0⟩, ⟨g340, 22, bA 0⟩, ⟨g8, 99, tA 0 0 0⟩, ⟨g5, 99, tA qx qy qz⟩, ⟨g2, 99, tA px py pz⟩] := V341.mv 2 (Nat.le_of_ble_eq_true rfl)
 try go_simp
 refine hK _ _ (V341m.tail.tail.tail) ?_
 clear hK K
 exact HC11 g335 g336 g340 w339 V341m
 intro g342 g343 g344 w345 V346
 refine av_ops [18] (fuel := 2) (by kernel_rfl) (List.cons_ne_nil _ _) ?_
 refine av_cons (tf 21 524287) rfl (by rfl) (by kernel_rfl) (fun K hK => ?_) av_nil
 refine zS V346 0 rfl _ _ rfl rfl xx rfl rfl (fun w347 V348 => ?_)
 refine hK _ _ (V348.tail.tail.tail) ?_
 clear hK K
 refine av_ops [19] (fuel := 1) (by kernel_rfl) (List.cons_ne_nil _ _) ?_
 refine av_cons (tf 21 1048575) rfl (by rfl) (by kernel_rfl) (fun K hK => ?_) av_nil
 refine zS V348 1 rfl _ _ rfl rfl yy rfl rfl (fun w349 V350 => ?_)
 refine hK _ _ (V350.tail.tail.tail) ?_
 clear hK K
 refine av_ops [20] (fuel := 0) (by kernel_rfl) (List.cons_ne_nil _ _) ?_
 refine av_cons (tf 21 2097151) rfl (by rfl) (by kernel_rfl) (fun K hK => ?_) av_nil
 refine zS V350 2 rfl _ _ rfl rfl zz rfl rfl (fun w351 V352 => ?_)
 refine hK _ _ (V352.tail.tail.tail) ?_
 clear hK K
 refine wpAnyH_done (by kernel_rfl) ?_ _
 go_wp2_with fail
 refine av_open (fun w' => Vars w w' [⟨g342, 22, bA xx⟩, ⟨g343, 22, bA yy⟩, ⟨g344, 22, bA zz⟩, ⟨g8, 99, tA 0 0 0⟩, ⟨g5, 99, tA qx qy qz⟩, ⟨g2, 99, tA px py pz⟩]) (by kernel_rfl) ?_
 have V353 := V352.drew
 apply av_once22 (Vg := fun ga gb w' => Vars w w' [⟨ga, 22, bA 0⟩, ⟨gb, 22, bA 0⟩, ⟨g342, 22, bA xx⟩, ⟨g343, 22, bA yy⟩, ⟨g344, 22, bA zz⟩, ⟨g8, 99, tA 0 0 0⟩, ⟨g5, 99, tA qx qy qz⟩, ⟨g2, 99, tA px py pz⟩])
 intro HC354
 apply av_once (Vg := fun ga w' => Vars w w' [⟨ga, 22, bA 0⟩, ⟨g342, 22, bA xx⟩, ⟨g343, 22, bA yy⟩, ⟨g344, 22, bA zz⟩, ⟨g8, 99, tA 0 0 0⟩, ⟨g5, 99, tA qx qy qz⟩, ⟨g2, 99, tA px py pz⟩])
 intro HC355
 apply av_once (Vg := fun ga w' => Vars w w' [⟨ga, 22, bA 0⟩, ⟨g342, 22, bA xx⟩, ⟨g343, 22, bA yy⟩, ⟨g344, 22, bA zz⟩, ⟨g8, 99, tA 0 0 0⟩, ⟨g5, 99, tA qx qy qz⟩, ⟨g2, 99, tA px py pz⟩])
 intro HC356
 apply av_once22 (Vg := fun ga gb w' => Vars w w' [⟨ga, 22, bA 0⟩, ⟨gb, 22, bA 0⟩, ⟨g342, 22, bA xx⟩, ⟨g343, 22, bA yy⟩, ⟨g344, 22, bA zz⟩, ⟨g8, 99, tA 0 0 0⟩, ⟨g5, 99, tA qx qy qz⟩, ⟨g2, 99, tA px py pz⟩])
 intro HC357
 apply av_once (Vg := fun ga w' => Vars w w' [⟨ga, 22, bA 0⟩, ⟨g342, 22, bA xx⟩, ⟨g343, 22, bA yy⟩, ⟨g344, 22, bA zz⟩, ⟨g8, 99, tA 0 0 0⟩, ⟨g5, 99, tA qx qy qz⟩, ⟨g2, 99, tA px py pz⟩])
 intro HC358
 apply av_once (Vg := fun ga w' => Vars w w' [⟨ga, 22, bA 0⟩, ⟨g342, 22, bA xx⟩, ⟨g343, 22, bA yy⟩, ⟨g344, 22, bA zz⟩, ⟨g8, 99, tA 0 0 0⟩, ⟨g5, 99, tA qx qy qz⟩, ⟨g2, 99, tA px py pz⟩])
 intro HC359
 apply av_once22 (Vg := fun ga gb w' => Vars w w' [⟨ga, 22, bA 0⟩, ⟨gb, 22, bA 0⟩, ⟨g342, 22, bA xx⟩, ⟨g343, 22, bA yy⟩, ⟨g344, 22, bA zz⟩, ⟨g8, 99, tA 0 0 0⟩, ⟨g5, 99, tA qx qy qz⟩, ⟨g2, 99, tA px py pz⟩])
 intro HC360
 apply av_once (Vg := fun ga w' => Vars w w' [⟨ga, 22, bA 0⟩, ⟨g342, 22, bA xx⟩, ⟨g343, 22, bA yy⟩, ⟨g344, 22, bA zz⟩, ⟨g8, 99, tA 0 0 0⟩, ⟨g5, 99, tA qx qy qz⟩, ⟨g2, 99, tA px py pz⟩])
 intro HC361
 apply av_once (Vg := fun ga w' => Vars w w' [⟨ga, 22, bA 0⟩, ⟨g342, 22, bA xx⟩, ⟨g343, 22, bA yy⟩, ⟨g344, 22, bA zz⟩, ⟨g8, 99, tA 0 0 0⟩, ⟨g5, 99, tA qx qy qz⟩, ⟨g2, 99, tA px py pz⟩])
 intro HC362
 apply av_once22 (Vg := fun ga gb w' => Vars w w' [⟨ga, 22, bA 0⟩, ⟨gb, 22, bA 0⟩, ⟨g342, 22, bA xx⟩, ⟨g343, 22, bA yy⟩, ⟨g344, 22, bA zz⟩, ⟨g8, 99, tA 0 0 0⟩, ⟨g5, 99, tA qx qy qz⟩, ⟨g2, 99, tA px py pz⟩])
 intro HC363
 refine zR [0, 1, 3, 4, 5] 7 (by kernel_rfl) (fun _ _ _ _ _ h => h) V353 fun K hK => ?_
 refine zC (.agg (bA zz)) rfl (by rfl) (fun w' hw' => zB hw' 2 rfl _ rfl rfl) ?_
 go_simp
 refine zC (.agg (bA zz)) rfl (by rfl) (fun w' hw' => zB hw' 2 rfl _ rfl rfl) ?_
 go_simp
 refine zC (.agg (bA dN)) rfl (by rfl) (fun w' hw' => exec_loadG (hd.of hw') _ rfl rfl) ?_
 go_simp
 refine zC (.agg (bA xx)) rfl (by rfl) (fun w' hw' => zB hw' 0 rfl _ rfl rfl) ?_
 go_simp
 refine zC (.agg (bA yy)) rfl (by rfl) (fun w' hw' => zB hw' 1 rfl _ rfl rfl) ?_
 go_simp
 refine calm_nil (hK.out _ ?_)
 clear hK K
 refine av_listed (L' := (tf 12 59)) (by kernel_rfl) ?_
 refine av_ops [2, 8, 9] (fuel := 6) (by kernel_rfl) (List.cons_ne_nil _ _) ?_
 refine av_cons (tf 12 63) rfl (by rfl) (by kernel_rfl) (fun K hK => ?_) ?_
 go_simp
 refine (H4.out w351.drew).mono ?_
 rintro e w364 ⟨rfl, q366⟩
 have V365 := V353.call q366
 try go_simp
 refine hK _ _ (V365) ?_
 clear hK K q366
 refine av_ops [6, 8, 9] (fuel := 5) (by kernel_rfl) (List.cons_ne_nil _ _) ?_
 refine av_cons (tf 12 127) rfl (by rfl) (by kernel_rfl) (fun K hK => ?_) ?_
 go_simp
 refine (H5.out w364).mono ?_
 rintro e w367 ⟨rfl, q369⟩
 have V368 := V365.call q369
 try go_simp
 refine hK _ _ (V368) ?_
 clear hK K q369
 refine av_ops [7, 8, 9] (fuel := 4) (by kernel_rfl) (List.cons_ne_nil _ _) ?_
 refine av_cons (tf 12 255) rfl (by rfl) (by kernel_rfl) (fun K hK => ?_) ?_
 go_simp
 refine (H6.out w367).mono ?_
 rintro e w370 ⟨rfl, q372⟩
 have V371 := V368.call q372
 try go_simp
 refine hK _ _ (V371) ?_
 clear hK K q372
 refine av_ops [8, 9] (fuel := 3) (by kernel_rfl) (List.cons_ne_nil _ _) ?_
 refine av_cons (tf 12 511) rfl (by rfl) (by kernel_rfl) (fun K hK => ?_) ?_
 refine zN V371 8 rfl rfl (fun w373 g374 V375 => ?_)
 try go_simp
 refine hK _ _ (V375.tail) ?_
 clear hK K
 exact HC355 g374 w373 V375
 refine av_cons (tf 12 767) rfl (by rfl) (by kernel_rfl) (fun K hK => ?_) av_nil
 refine zN V371 9 rfl rfl (fun w376 g377 V378 => ?_)
 try go_simp
 refine hK _ _ (V378.tail) ?_
 clear hK K
 exact HC356 g377 w376 V378
 refine av_cons (tf 12 383) rfl (by rfl) (by kernel_rfl) (fun K hK => ?_) ?_
 refine zN V368 8 rfl rfl (fun w379 g380 V381 => ?_)
 try go_simp
 refine hK _ _ (V381.tail) ?_
 clear hK K
 exact HC358 g380 w379 V381
 refine av_cons (tf 12 639) rfl (by rfl) (by kernel_rfl) (fun K hK => ?_) av_nil
 refine zN V368 9 rfl rfl (fun w382 g383 V384 => ?_)
 try go_simp
 refine hK _ _ (V384.tail) ?_
 clear hK K
 exact HC359 g383 w382 V384
 refine av_cons (tf 12 319) rfl (by rfl) (by kernel_rfl) (fun K hK => ?_) ?_
 refine zN V365 8 rfl rfl (fun w385 g386 V387 => ?_)
 try go_simp
 refine hK _ _ (V387.tail) ?_
 clear hK K
 exact HC361 g386 w385 V387
 refine av_cons (tf 12 575) rfl (by rfl) (by kernel_rfl) (fun K hK => ?_) av_nil
 refine zN V365 9 rfl rfl (fun w388 g389 V390 => ?_)
 try go_simp
 refine hK _ _ (V390.tail) ?_
 clear hK K
 exact HC362 g389 w388 V390
 refine av_cons (tf 12 315) rfl (by rfl) (by kernel_rfl) (fun K hK => ?_) ?_
 refine zN V353 8 rfl rfl (fun w391 g392 V393 => ?_)
 try go_simp
 refine hK _ _ (V393.tail) ?_
 clear hK K
 refine av_ops [2, 9] (fuel := 5) (by kernel_rfl) (List.cons_ne_nil _ _) ?_
 refine av_cons (tf 12 319) rfl (by rfl) (by kernel_rfl) (fun K hK => ?_) ?_
 go_simp
 refine (H4.out w391).mono ?_
 rintro e w394 ⟨rfl, q396⟩
 have V395 := V393.call q396
 try go_simp
 refine hK _ _ (V395.tail) ?_
 clear hK K q396
 exact HC361 g392 w394 V395
 refine av_cons (tf 12 827) rfl (by rfl) (by kernel_rfl) (fun K hK => ?_) av_nil
 refine zN V393 9 rfl rfl (fun w397 g398 V399 => ?_)
 have V399m : Vars w w397 [⟨g392, 22, bA 0⟩, ⟨g398, 22, bA 0⟩, ⟨g342, 22, bA xx⟩, ⟨g343, 22, bA yy⟩, ⟨g344, 22, bA zz⟩, ⟨g8, 99, tA 0 0 0⟩, ⟨g5, 99, tA qx qy qz⟩, ⟨g2, 99, tA px py pz⟩] := V399.mv 1 (Nat.le_of_ble_eq_true rfl)
 try go_simp
 refine hK _ _ (V399m.tail.tail) ?_
 clear hK K
 exact HC363 g392 g398 w397 V399m
 refine av_cons (tf 12 571) rfl (by rfl) (by kernel_rfl) (fun K hK => ?_) av_nil
 refine zN V353 9 rfl rfl (fun w400 g401 V402 => ?_)
 try go_simp
 refine hK _ _ (V402.tail) ?_
 clear hK K
 refine av_ops [2, 8] (fuel := 5) (by kernel_rfl) (List.cons_ne_nil _ _) ?_
 refine av_cons (tf 12 575) rfl (by rfl) (by kernel_rfl) (fun K hK => ?_) ?_
 go_simp
 refine (H4.out w400).mono ?_
 rintro e w403 ⟨rfl, q405⟩
 have V404 := V402.call q405
 try go_simp
 refine hK _ _ (V404.tail) ?_
 clear hK K q405
 exact HC362 g401 w403 V404
 refine av_cons (tf 12 827) rfl (by rfl) (by kernel_rfl) (fun K hK => ?_) av_nil
 refine zN V402 8 rfl rfl (fun w406 g407 V408 => ?_)
 try go_simp
 refine hK _ _ (V408.tail.tail) ?_
 clear hK K
 exact HC363 g407 g401 w406 V408
 intro g409 g410 w411 V412
 refine av_ops [2] (fuel := 4) (by kernel_rfl) (List.cons_ne_nil _ _) ?_
 refine av_cons (tf 12 831) rfl (by rfl) (by kernel_rfl) (fun K hK => ?_) av_nil
 go_simp
 refine (H4.out w411).mono ?_
 rintro e w413 ⟨rfl, q415⟩
 have V414 := V412.call q415
 try go_simp
 refine hK _ _ (V414.tail.tail) ?_
 clear hK K q415
 exact HC360 g409 g410 w413 V414
 intro g416 w417 V418
 refine av_ops [6, 8] (fuel := 4) (by kernel_rfl) (List.cons_ne_nil _ _) ?_
 refine av_cons (tf 12 639) rfl (by rfl) (by kernel_rfl) (fun K hK => ?_) ?_
 go_simp
 refine (H5.out w417).mono ?_
 rintro e w419 ⟨rfl, q421⟩
 have V420 := V418.call q421
 try go_simp
 refine hK _ _ (V420.tail) ?_
 clear hK K q421
 exact HC359 g416 w419 V420
 refine av_cons (tf 12 831) rfl (by rfl) (by kernel_rfl) (fun K hK => ?_) av_nil
 refine zN V418 8 rfl rfl (fun w422 g423 V424 => ?_)
 try go_simp
 refine hK _ _ (V424.tail.tail) ?_
 clear hK K
 exact HC360 g423 g416 w422 V424
 intro g425 w426 V427
 refine av_ops [6, 9] (fuel := 4) (by kernel_rfl) (List.cons_ne_nil _ _) ?_
 refine av_cons (tf 12 383) rfl (by rfl) (by kernel_rfl) (fun K hK => ?_) ?_
 go_simp
 refine (H5.out w426).mono ?_
 rintro e w428 ⟨rfl, q430⟩
 have V429 := V427.call q430
 try go_simp
 refine hK _ _ (V429.tail) ?_
 clear hK K q430
 exact HC358 g425 w428 V429
 refine av_cons (tf 12 831) rfl (by rfl) (by kernel_rfl) (fun K hK => ?_) av_nil
 refine zN V427 9 rfl rfl (fun w431 g432 V433 => ?_)
 have V433m : Vars w w431 [⟨g425, 22, bA 0⟩, ⟨g432, 22, bA 0⟩, ⟨g342, 22, bA xx⟩, ⟨g343, 22, bA yy⟩, ⟨g344, 22, bA zz⟩, ⟨g8, 99, tA 0 0 0⟩, ⟨g5, 99, tA qx qy qz⟩, ⟨g2, 99, tA px py pz⟩] := V433.mv 1 (Nat.le_of_ble_eq_true rfl)
 try go_simp
 refine hK _ _ (V433m.tail.tail) ?_
 clear hK K
 exact HC360 g425 g432 w431 V433m
 intro g434 g435 w436 V437
 refine av_ops [6] (fuel := 3) (by kernel_rfl) (List.cons_ne_nil _ _) ?_
 refine av_cons (tf 12 895) rfl (by rfl) (by kernel_rfl) (fun K hK => ?_) av_nil
 go_simp
 refine (H5.out w436).mono ?_
 rintro e w438 ⟨rfl, q440⟩
 have V439 := V437.call q440
 try go_simp
 refine hK _ _ (V439.tail.tail) ?_
 clear hK K q440
 exact HC357 g434 g435 w438 V439
 intro g441 w442 V443
 refine av_ops [7, 8] (fuel := 3) (by kernel_rfl) (List.cons_ne_nil _ _) ?_
 refine av_cons (tf 12 767) rfl (by rfl) (by kernel_rfl) (fun K hK => ?_) ?_
 go_simp
 refine (H6.out w442).mono ?_
 rintro e w444 ⟨rfl, q446⟩
 have V445 := V443.call q446
 try go_simp
 refine hK _ _ (V445.tail) ?_
 clear hK K q446
 exact HC356 g441 w444 V445
 refine av_cons (tf 12 895) rfl (by rfl) (by kernel_rfl) (fun K hK => ?_) av_nil
 refine zN V443 8 rfl rfl (fun w447 g448 V449 => ?_)
 try go_simp
 refine hK _ _ (V449.tail.tail) ?_
 clear hK K
 exact HC357 g448 g441 w447 V449
 intro g450 w451 V452
 refine av_ops [7, 9] (fuel := 3) (by kernel_rfl) (List.cons_ne_nil _ _) ?_
 refine av_cons (tf 12 511) rfl (by rfl) (by kernel_rfl) (fun K hK => ?_) ?_
 go_simp
 refine (H6.out w451).mono ?_
 rintro e w453 ⟨rfl, q455⟩
 have V454 := V452.call q455
 try go_simp
 refine hK _ _ (V454.tail) ?_
 clear hK K q455
 exact HC355 g450 w453 V454
 refine av_cons (tf 12 895) rfl (by rfl) (by kernel_rfl) (fun K hK => ?_) av_nil
 refine zN V452 9 rfl rfl (fun w456 g457 V458 => ?_)
 have V458m : Vars w w456 [⟨g450, 22, bA 0⟩, ⟨g457, 22, bA 0⟩, ⟨g342, 22, bA xx⟩, ⟨g343, 22, bA yy⟩, ⟨g344, 22, bA zz⟩, ⟨g8, 99, tA 0 0 0⟩, ⟨g5, 99, tA qx qy qz⟩, ⟨g2, 99, tA px py pz⟩] := V458.mv 1 (Nat.le_of_ble_eq_true rfl)
 try go_simp
 refine hK _ _ (V458m.tail.tail) ?_
 clear hK K
 exact HC357 g450 g457 w456 V458m
 intro g459 g460 w461 V462
 refine av_ops [7] (fuel := 2) (by kernel_rfl) (List.cons_ne_nil _ _) ?_
 refine av_cons (tf 12 1023) rfl (by rfl) (by kernel_rfl) (fun K hK => ?_) av_nil
 go_simp
 refine (H6.out w461).mono ?_
 rintro e w463 ⟨rfl, q465⟩
 have V464 := V462.call q465
 try go_simp
 refine hK _ _ (V464.tail.tail) ?_
 clear hK K q465
 exact HC354 g459 g460 w463 V464
 intro g466 w467 V468
 refine av_ops [8] (fuel := 2) (by kernel_rfl) (List.cons_ne_nil _ _) ?_
 refine av_cons (tf 12 1023) rfl (by rfl) (by kernel_rfl) (fun K hK => ?_) av_nil
 refine zN V468 8 rfl rfl (fun w469 g470 V471 => ?_)
 try go_simp
 refine hK _ _ (V471.tail.tail) ?_
 clear hK K
 exact HC354 g470 g466 w469 V471
 intro g472 w473 V474
 refine av_ops [9] (fuel := 2) (by kernel_rfl) (List.cons_ne_nil _ _) ?_
 refine av_cons (tf 12 1023) rfl (by rfl) (by kernel_rfl) (fun K hK => ?_) av_nil
 refine zN V474 9 rfl rfl (fun w475 g476 V477 => ?_)
 have V477m : Vars w w475 [⟨g472, 22, bA 0⟩, ⟨g476, 22, bA 0⟩, ⟨g342, 22, bA xx⟩, ⟨g343, 22, bA yy⟩, ⟨g344, 22, bA zz⟩, ⟨g8, 99, tA 0 0 0⟩, ⟨g5, 99, tA qx qy qz⟩, ⟨g2, 99, tA px py pz⟩] := V477.mv 1 (Nat.le_of_ble_eq_true rfl)
 try go_simp
 refine hK _ _ (V477m.tail.tail) ?_
 clear hK K
 exact HC354 g472 g476 w475 V477m
 intro g478 g479 w480 V481
 refine av_ops [10] (fuel := 1) (by kernel_rfl) (List.cons_ne_nil _ _) ?_
 refine av_cons (tf 12 2047) rfl (by rfl) (by kernel_rfl) (fun K hK => ?_) av_nil
 refine zS V481 0 rfl _ _ rfl rfl on rfl rfl (fun w482 V483 => ?_)
 refine hK _ _ (V483.tail.tail) ?_
 clear hK K
 refine av_ops [11] (fuel := 0) (by kernel_rfl) (List.cons_ne_nil _ _) ?_
 refine av_cons (tf 12 4095) rfl (by rfl) (by kernel_rfl) (fun K hK => ?_) av_nil
 refine zS V483 1 rfl _ _ rfl rfl tu rfl rfl (fun w484 V485 => ?_)
 refine hK _ _ (V485.tail.tail) ?_
 clear hK K
 refine wpAnyH_done (by kernel_rfl) ?_ _
 go_wp2_with fail
 refine av_open (fun w' => Vars w w' [⟨g478, 22, bA on⟩, ⟨g479, 22, bA tu⟩, ⟨g342, 22, bA xx⟩, ⟨g343, 22, bA yy⟩, ⟨g344, 22, bA zz⟩, ⟨g8, 99, tA 0 0 0⟩, ⟨g5, 99, tA qx qy qz⟩, ⟨g2, 99, tA px py pz⟩]) (by kernel_rfl) ?_
 have V486 := V485.drew
 apply av_once22 (Vg := fun ga gb w' => Vars w w' [⟨ga, 22, bA 0⟩, ⟨gb, 22, bA 0⟩, ⟨g478, 22, bA on⟩, ⟨g479, 22, bA tu⟩, ⟨g342, 22, bA xx⟩, ⟨g343, 22, bA yy⟩, ⟨g344, 22, bA zz⟩, ⟨g8, 99, tA 0 0 0⟩, ⟨g5, 99, tA qx qy qz⟩, ⟨g2, 99, tA px py pz⟩])
 intro HC487
 apply av_once (Vg := fun ga w' => Vars w w' [⟨ga, 22, bA 0⟩, ⟨g478, 22, bA on⟩, ⟨g479, 22, bA tu⟩, ⟨g342, 22, bA xx⟩, ⟨g343, 22, bA yy⟩, ⟨g344, 22, bA zz⟩, ⟨g8, 99, tA 0 0 0⟩, ⟨g5, 99, tA qx qy qz⟩, ⟨g2, 99, tA px py pz⟩])
 intro HC488
 apply av_once (Vg := fun ga w' => Vars w w' [⟨ga, 22, bA 0⟩, ⟨g478, 22, bA on⟩, ⟨g479, 22, bA tu⟩, ⟨g342, 22, bA xx⟩, ⟨g343, 22, bA yy⟩, ⟨g344, 22, bA zz⟩, ⟨g8, 99, tA 0 0 0⟩, ⟨g5, 99, tA qx qy qz⟩, ⟨g2, 99, tA px py pz⟩])
 intro HC489
 apply av_once22 (Vg := fun ga gb w' => Vars w w' [⟨ga, 22, bA 0⟩, ⟨gb, 22, bA 0⟩, ⟨g478, 22, bA on⟩, ⟨g479, 22, bA tu⟩, ⟨g342, 22, bA xx⟩, ⟨g343, 22, bA yy⟩, ⟨g344, 22, bA zz⟩, ⟨g8, 99, tA 0 0 0⟩, ⟨g5, 99, tA qx qy qz⟩, ⟨g2, 99, tA px py pz⟩])
 intro HC490
 apply av_once (Vg := fun ga w' => Vars w w' [⟨ga, 22, bA 0⟩, ⟨g478, 22, bA on⟩, ⟨g479, 22, bA tu⟩, ⟨g342, 22, bA xx⟩, ⟨g343, 22, bA yy⟩, ⟨g344, 22, bA zz⟩, ⟨g8, 99, tA 0 0 0⟩, ⟨g5, 99, tA qx qy qz⟩, ⟨g2, 99, tA px py pz⟩])
 intro HC491
 apply av_once (Vg := fun ga w' => Vars w w' [⟨ga, 22, bA 0⟩, ⟨g478, 22, bA on⟩, ⟨g479, 22, bA tu⟩, ⟨g342, 22, bA xx⟩, ⟨g343, 22, bA yy⟩, ⟨g344, 22, bA zz⟩, ⟨g8, 99, tA 0 0 0⟩, ⟨g5, 99, tA qx qy qz⟩, ⟨g2, 99, tA px py pz⟩])
 intro HC492
 apply av_once22 (Vg := fun ga gb w' => Vars w w' [⟨ga, 22, bA 0⟩, ⟨gb, 22, bA 0⟩, ⟨g478, 22, bA on⟩, ⟨g479, 22, bA tu⟩, ⟨g342, 22, bA xx⟩, ⟨g343, 22, bA yy⟩, ⟨g344, 22, bA zz⟩, ⟨g8, 99, tA 0 0 0⟩, ⟨g5, 99, tA qx qy qz⟩, ⟨g2, 99, tA px py pz⟩])
 intro HC493
 refine zR [0, 1, 3, 4] 6 (by kernel_rfl) (fun _ _ _ _ _ h => h) V486 fun K hK => ?_
 refine zC (.agg (bA on)) rfl (by rfl) (fun w' hw' => zB hw' 0 rfl _ rfl rfl) ?_
 go_simp
 refine zC (.agg (bA tu)) rfl (by rfl) (fun w' hw' => zB hw' 1 rfl _ rfl rfl) ?_
 go_simp
 refine zC (.agg (bA on)) rfl (by rfl) (fun w' hw' => zB hw' 0 rfl _ rfl rfl) ?_
 go_simp
 refine zC (.agg (bA tu)) rfl (by rfl) (fun w' hw' => zB hw' 1 rfl _ rfl rfl) ?_
 go_simp
 refine calm_nil (hK.out _ ?_)
 clear hK K
 refine av_listed (L' := (tf 10 27)) (by kernel_rfl) ?_
 refine av_ops [2, 6, 7] (fuel := 5) (by kernel_rfl) (List.cons_ne_nil _ _) ?_
 refine av_cons (tf 10 31) rfl (by rfl) (by kernel_rfl) (fun K hK => ?_) ?_
 go_simp
 refine (H7.out w484.drew).mono ?_
 rintro e w494 ⟨rfl, q496⟩
 have V495 := V486.call q496
 try go_simp
 refine hK _ _ (V495) ?_
 clear hK K q496
 refine av_ops [5, 6, 7] (fuel := 4) (by kernel_rfl) (List.cons_ne_nil _ _) ?_
 refine av_cons (tf 10 63) rfl (by rfl) (by kernel_rfl) (fun K hK => ?_) ?_
 go_simp
 refine (H8.out w494).mono ?_
 rintro e w497 ⟨rfl, q499⟩
 have V498 := V495.call q499
 try go_simp
 refine hK _ _ (V498) ?_
 clear hK K q499
 refine av_ops [6, 7] (fuel := 3) (by kernel_rfl) (List.cons_ne_nil _ _) ?_
 refine av_cons (tf 10 127) rfl (by rfl) (by kernel_rfl) (fun K hK => ?_) ?_
 refine zN V498 10 rfl rfl (fun w500 g501 V502 => ?_)
 try go_simp
 refine hK _ _ (V502.tail) ?_
 clear hK K
 exact HC488 g501 w500 V502
 refine av_cons (tf 10 191) rfl (by rfl) (by kernel_rfl) (fun K hK => ?_) av_nil
 refine zN V498 11 rfl rfl (fun w503 g504 V505 => ?_)
 try go_simp
 refine hK _ _ (V505.tail) ?_
 clear hK K
 exact HC489 g504 w503 V505
 refine av_cons (tf 10 95) rfl (by rfl) (by kernel_rfl) (fun K hK => ?_) ?_
 refine zN V495 10 rfl rfl (fun w506 g507 V508 => ?_)
 try go_simp
 refine hK _ _ (V508.tail) ?_
 clear hK K
 exact HC491 g507 w506 V508
 refine av_cons (tf 10 159) rfl (by rfl) (by kernel_rfl) (fun K hK => ?_) av_nil
 refine zN V495 11 rfl rfl (fun w509 g510 V511 => ?_)
 try go_simp
 refine hK _ _ (V511.tail) ?_
 clear hK K
 exact HC492 g510 w509 V511
 refine av_cons (tf 10 91) rfl (by rfl) (by kernel_rfl) (fun K hK => ?_) ?_
 refine zN V486 10 rfl rfl (fun w512 g513 V514 => ?_)
 try go_simp
 refine hK _ _ (V514.tail) ?_
 clear hK K
 refine av_ops [2, 7] (fuel := 4) (by kernel_rfl) (List.cons_ne_nil _ _) ?_
 refine av_cons (tf 10 95) rfl (by rfl) (by kernel_rfl) (fun K hK => ?_) ?_
 go_simp
 refine (H7.out w512).mono ?_
 rintro e w515 ⟨rfl, q517⟩
 have V516 := V514.call q517
 try go_simp
 refine hK _ _ (V516.tail) ?_
 clear hK K q517
 exact HC491 g513 w515 V516
 refine av_cons (tf 10 219) rfl (by rfl) (by kernel_rfl) (fun K hK => ?_) av_nil
 refine zN V514 11 rfl rfl (fun w518 g519 V520 => ?_)
 have V520m : Vars w w518 [⟨g513, 22, bA 0⟩, ⟨g519, 22, bA 0⟩, ⟨g478, 22, bA on⟩, ⟨g479, 22, bA tu⟩, ⟨g342, 22, bA xx⟩, ⟨g343, 22, bA yy⟩, ⟨g344, 22, bA zz⟩, ⟨g8, 99, tA 0 0 0⟩, ⟨g5, 99, tA qx qy qz⟩, ⟨g2, 99, tA px py pz⟩] := V520.mv 1 (Nat.le_of_ble_eq_true rfl)
 try go_simp
 refine hK _ _ (V520m.tail.tail) ?_
 clear hK K
 exact HC493 g513 g519 w518 V520m
 refine av_cons (tf 10 155) rfl (by rfl) (by kernel_rfl) (fun K hK => ?_) av_nil
 refine zN V486 11 rfl rfl (fun w521 g522 V523 => ?_)
 try go_simp
 refine hK _ _ (V523.tail) ?_
 clear hK K
 refine av_ops [2, 6] (fuel := 4) (by kernel_rfl) (List.cons_ne_nil _ _) ?_
 refine av_cons (tf 10 159) rfl (by rfl) (by kernel_rfl) (fun K hK => ?_) ?_
 go_simp
 refine (H7.out w521).mono ?_
 rintro e w524 ⟨rfl, q526⟩
 have V525 := V523.call q526
 try go_simp
 refine hK _ _ (V525.tail) ?_
 clear hK K q526
 exact HC492 g522 w524 V525
 refine av_cons (tf 10 219) rfl (by rfl) (by kernel_rfl) (fun K hK => ?_) av_nil
 refine zN V523 10 rfl rfl (fun w527 g528 V529 => ?_)
 try go_simp
 refine hK _ _ (V529.tail.tail) ?_
 clear hK K
 exact HC493 g528 g522 w527 V529
 intro g530 g531 w532 V533
 refine av_ops [2] (fuel := 3) (by kernel_rfl) (List.cons_ne_nil _ _) ?_
 refine av_cons (tf 10 223) rfl (by rfl) (by kernel_rfl) (fun K hK => ?_) av_nil
 go_simp
 refine (H7.out w532).mono ?_
 rintro e w534 ⟨rfl, q536⟩
 have V535 := V533.call q536
 try go_simp
 refine hK _ _ (V535.tail.tail) ?_
 clear hK K q536
 exact HC490 g530 g531 w534 V535
 intro g537 w538 V539
 refine av_ops [5, 6] (fuel := 3) (by kernel_rfl) (List.cons_ne_nil _ _) ?_
 refine av_cons (tf 10 191) rfl (by rfl) (by kernel_rfl) (fun K hK => ?_) ?_
 go_simp
 refine (H8.out w538).mono ?_
 rintro e w540 ⟨rfl, q542⟩
 have V541 := V539.call q542
 try go_simp
 refine hK _ _ (V541.tail) ?_
 clear hK K q542
 exact HC489 g537 w540 V541
 refine av_cons (tf 10 223) rfl (by rfl) (by kernel_rfl) (fun K hK => ?_) av_nil
 refine zN V539 10 rfl rfl (fun w543 g544 V545 => ?_)
 try go_simp
 refine hK _ _ (V545.tail.tail) ?_
 clear hK K
 exact HC490 g544 g537 w543 V545
 intro g546 w547 V548
 refine av_ops [5, 7] (fuel := 3) (by kernel_rfl) (List.cons_ne_nil _ _) ?_
 refine av_cons (tf 10 127) rfl (by rfl) (by kernel_rfl) (fun K hK => ?_) ?_
 go_simp
 refine (H8.out w547).mono ?_
 rintro e w549 ⟨rfl, q551⟩
 have V550 := V548.call q551
 try go_simp
 refine hK _ _ (V550.tail) ?_
 clear hK K q551
 exact HC488 g546 w549 V550
 refine av_cons (tf 10 223) rfl (by rfl) (by kernel_rfl) (fun K hK => ?_) av_nil
 refine zN V548 11 rfl rfl (fun w552 g553 V554 => ?_)
 have V554m : Vars w w552 [⟨g546, 22, bA 0⟩, ⟨g553, 22, bA 0⟩, ⟨g478, 22, bA on⟩, ⟨g479, 22, bA tu⟩, ⟨g342, 22, bA xx⟩, ⟨g343, 22, bA yy⟩, ⟨g344, 22, bA zz⟩, ⟨g8, 99, tA 0 0 0⟩, ⟨g5, 99, tA qx qy qz⟩, ⟨g2, 99, tA px py pz⟩] := V554.mv 1 (Nat.le_of_ble_eq_true rfl)
 try go_simp
 refine hK _ _ (V554m.tail.tail) ?_
 clear hK K
 exact HC490 g546 g553 w552 V554m
 intro g555 g556 w557 V558
 refine av_ops [5] (fuel := 2) (by kernel_rfl) (List.cons_ne_nil _ _) ?_
 refine av_cons (tf 10 255) rfl (by rfl) (by kernel_rfl) (fun K hK => ?_) av_nil
 go_simp
 refine (H8.out w557).mono ?_
 rintro e w559 ⟨rfl, q561⟩
 have V560 := V558.call q561
 try go_simp
 refine hK _ _ (V560.tail.tail) ?_
 clear hK K q561
 exact HC487 g555 g556 w559 V560
 intro g562 w563 V564
 refine av_ops [6] (fuel := 2) (by kernel_rfl) (List.cons_ne_nil _ _) ?_
 refine av_cons (tf 10 255) rfl (by rfl) (by kernel_rfl) (fun K hK => ?_) av_nil
 refine zN V564 10 rfl rfl (fun w565 g566 V567 => ?_)
 try go_simp
 refine hK _ _ (V567.tail.tail) ?_
 clear hK K
 exact HC487 g566 g562 w565 V567
 intro g568 w569 V570
 refine av_ops [7] (fuel := 2) (by kernel_rfl) (List.cons_ne_nil _ _) ?_
 refine av_cons (tf 10 255) rfl (by rfl) (by kernel_rfl) (fun K hK => ?_) av_nil
 refine zN V570 11 rfl rfl (fun w571 g572 V573 => ?_)
 have V573m : Vars w w571 [⟨g568, 22, bA 0⟩, ⟨g572, 22, bA 0⟩, ⟨g478, 22, bA on⟩, ⟨g479, 22, bA tu⟩, ⟨g342, 22, bA xx⟩, ⟨g343, 22, bA yy⟩, ⟨g344, 22, bA zz⟩, ⟨g8, 99, tA 0 0 0⟩, ⟨g5, 99, tA qx qy qz⟩, ⟨g2, 99, tA px py pz⟩] := V573.mv 1 (Nat.le_of_ble_eq_true rfl)
 try go_simp
 refine hK _ _ (V573m.tail.tail) ?_
 clear hK K
 exact HC487 g568 g572 w571 V573m
 intro g574 g575 w576 V577
 refine av_ops [8] (fuel := 1) (by kernel_rfl) (List.cons_ne_nil _ _) ?_
 refine av_cons (tf 10 511) rfl (by rfl) (by kernel_rfl) (fun K hK => ?_) av_nil
 refine zS V577 0 rfl _ _ rfl rfl fx rfl rfl (fun w578 V579 => ?_)
 refine hK _ _ (V579.tail.tail) ?_
 clear hK K
 refine av_ops [9] (fuel := 0) (by kernel_rfl) (List.cons_ne_nil _ _) ?_
 refine av_cons (tf 10 1023) rfl (by rfl) (by kernel_rfl) (fun K hK => ?_) av_nil
 refine zS V579 1 rfl _ _ rfl rfl fy rfl rfl (fun w580 V581 => ?_)
 refine hK _ _ (V581.tail.tail) ?_
 clear hK K
 refine wpAnyH_done (by kernel_rfl) ?_ _
 go_wp2_with fail
 refine av_open (fun w' => Vars w w' [⟨g574, 22, bA fx⟩, ⟨g575, 22, bA fy⟩, ⟨g478, 22, bA on⟩, ⟨g479, 22, bA tu⟩, ⟨g342, 22, bA xx⟩, ⟨g343, 22, bA yy⟩, ⟨g344, 22, bA zz⟩, ⟨g8, 99, tA 0 0 0⟩, ⟨g5, 99, tA qx qy qz⟩, ⟨g2, 99, tA px py pz⟩]) (by kernel_rfl) ?_
 have V582 := V581.drew
 apply av_once (Vg := fun g w' => Vars w w' [⟨g, 22, bA cr⟩, ⟨g574, 22, bA fx⟩, ⟨g575, 22, bA fy⟩, ⟨g478, 22, bA on⟩, ⟨g479, 22, bA tu⟩, ⟨g342, 22, bA xx⟩, ⟨g343, 22, bA yy⟩, ⟨g344, 22, bA zz⟩, ⟨g8, 99, tA 0 0 0⟩, ⟨g5, 99, tA qx qy qz⟩, ⟨g2, 99, tA px py pz⟩])
 ·intro HC583
  refine zR [0, 1, 2, 3, 5, 6, 7, 8] 5 (by kernel_rfl) (fun _ _ _ _ _ h => h) V582 fun K hK => ?_
  refine zC (.pointer (some ⟨g2, 0, none⟩)) rfl (by rfl) (fun w' hw' => ?_) ?_
  ·go_simp
  go_simp
  refine zC (.agg (bA px)) rfl (by rfl) (fun w' hw' => exec_loadP hw' 9 rfl 0 (tA_part0 _ _ _) _ rfl rfl Tryz.underlying22 Tryz.szB (bA_size _)) ?_
  go_simp
  refine zC (.pointer (some ⟨g5, 32, none⟩)) rfl (by rfl) (fun w' hw' => ?_) ?_
  ·go_simp
  go_simp
  refine zC (.agg (bA qy)) rfl (by rfl) (fun w' hw' => exec_loadP hw' 8 rfl 32 (tA_part1 _ _ _) _ rfl rfl Tryz.underlying22 Tryz.szB (bA_size _)) ?_
  go_simp
  refine zC (.pointer (some ⟨g2, 32, none⟩)) rfl (by rfl) (fun w' hw' => ?_) ?_
  ·go_simp
  go_simp
  refine zC (.agg (bA py)) rfl (by rfl) (fun w' hw' => exec_loadP hw' 9 rfl 32 (tA_part1 _ _ _) _ rfl rfl Tryz.underlying22 Tryz.szB (bA_size _)) ?_
  go_simp
  refine zC (.pointer (some ⟨g5, 0, none⟩)) rfl (by rfl) (fun w' hw' => ?_) ?_
  ·go_simp
  go_simp
  refine zC (.agg (bA qx)) rfl (by rfl) (fun w' hw' => exec_loadP hw' 8 rfl 0 (tA_part0 _ _ _) _ rfl rfl Tryz.underlying22 Tryz.szB (bA_size _)) ?_
  go_simp
  refine calm_nil (hK.out _ ?_)
  clear hK K
  refine zP 4 11 4 (by kernel_rfl) rfl (by rfl) rfl (by rfl) (fun K hK => ?_) (fun K hK => ?_)
  ·go_simp
   refine (H9.out w580.drew).mono ?_
   rintro e w584 ⟨rfl, q586⟩
   have V585 := V582.call q586
   refine hK _ _ (V585) ?_
   clear hK K q586
   refine zP 9 11 3 (by kernel_rfl) rfl (by rfl) rfl (by rfl) (fun K hK => ?_) (fun K hK => ?_)
   ·go_simp
    refine (H10.out w584).mono ?_
    rintro e w587 ⟨rfl, q589⟩
    have V588 := V585.call q589
    refine hK _ _ (V588) ?_
    clear hK K q589
    refine zP 10 11 2 (by kernel_rfl) rfl (by rfl) rfl (by rfl) (fun K hK => ?_) (fun K hK => ?_)
    ·go_simp
     refine (H11.out w587).mono ?_
     rintro e w590 ⟨rfl, q592⟩
     have V591 := V588.call q592
     refine hK _ _ (V591) ?_
     clear hK K q592
     refine zO 11 1 (by kernel_rfl) rfl (by rfl) fun K hK => ?_
     refine zN V591 12 rfl rfl (fun w593 g594 V595 => ?_)
     refine hK _ _ (V595.tail) ?_
     clear hK K
     refine zO 12 0 (by kernel_rfl) rfl (by rfl) fun K hK => ?_
     refine zS V595 0 rfl _ _ rfl rfl cr rfl rfl (fun w596 V597 => ?_)
     refine hK _ _ (V597.tail) ?_
     clear hK K
     refine wpAnyH_done (by kernel_rfl) ?_ _
     exact HC583 g594 w596 V597
    ·refine zN V588 12 rfl rfl (fun w598 g599 V600 => ?_)
     refine hK _ _ (V600.tail) ?_
     clear hK K
     refine zO 10 1 (by kernel_rfl) rfl (by rfl) fun K hK => ?_
     go_simp
     refine (H11.out w598).mono ?_
     rintro e w601 ⟨rfl, q603⟩
     have V602 := V600.call q603
     refine hK _ _ (V602.tail) ?_
     clear hK K q603
     refine zO 12 0 (by kernel_rfl) rfl (by rfl) fun K hK => ?_
     refine zS V602 0 rfl _ _ rfl rfl cr rfl rfl (fun w604 V605 => ?_)
     refine hK _ _ (V605.tail) ?_
     clear hK K
     refine wpAnyH_done (by kernel_rfl) ?_ _
     exact HC583 g599 w604 V605
   ·refine zN V585 12 rfl rfl (fun w606 g607 V608 => ?_)
    refine hK _ _ (V608.tail) ?_
    clear hK K
    refine zO 9 2 (by kernel_rfl) rfl (by rfl) fun K hK => ?_
    go_simp
    refine (H10.out w606).mono ?_
    rintro e w609 ⟨rfl, q611⟩
    have V610 := V608.call q611
    refine hK _ _ (V610.tail) ?_
    clear hK K q611
    refine zO 10 1 (by kernel_rfl) rfl (by rfl) fun K hK => ?_
    go_simp
    refine (H11.out w609).mono ?_
    rintro e w612 ⟨rfl, q614⟩
    have V613 := V610.call q614
    refine hK _ _ (V613.tail) ?_
    clear hK K q614
    refine zO 12 0 (by kernel_rfl) rfl (by rfl) fun K hK => ?_
    refine zS V613 0 rfl _ _ rfl rfl cr rfl rfl (fun w615 V616 => ?_)
    refine hK _ _ (V616.tail) ?_
    clear hK K
    refine wpAnyH_done (by kernel_rfl) ?_ _
    exact HC583 g607 w615 V616
  ·refine zN V582 12 rfl rfl (fun w617 g618 V619 => ?_)
   refine hK _ _ (V619.tail) ?_
   clear hK K
   refine zO 4 3 (by kernel_rfl) rfl (by rfl) fun K hK => ?_
   go_simp
   refine (H9.out w617).mono ?_
   rintro e w620 ⟨rfl, q622⟩
   have V621 := V619.call q622
   refine hK _ _ (V621.tail) ?_
   clear hK K q622
   refine zO 9 2 (by kernel_rfl) rfl (by rfl) fun K hK => ?_
   go_simp
   refine (H10.out w620).mono ?_
   rintro e w623 ⟨rfl, q625⟩
   have V624 := V621.call q625
   refine hK _ _ (V624.tail) ?_
   clear hK K q625
   refine zO 10 1 (by kernel_rfl) rfl (by rfl) fun K hK => ?_
   go_simp
   refine (H11.out w623).mono ?_
   rintro e w626 ⟨rfl, q628⟩
   have V627 := V624.call q628
   refine hK _ _ (V627.tail) ?_
   clear hK K q628
   refine zO 12 0 (by kernel_rfl) rfl (by rfl) fun K hK => ?_
   refine zS V627 0 rfl _ _ rfl rfl cr rfl rfl (fun w629 V630 => ?_)
   refine hK _ _ (V630.tail) ?_
   clear hK K
   refine wpAnyH_done (by kernel_rfl) ?_ _
   exact HC583 g618 w629 V630
 intro g618 w629 V630
 clear V582
 go_wp2_with fail
 refine av_open (fun w' => Vars w w' [⟨g618, 22, bA cr⟩, ⟨g574, 22, bA fx⟩, ⟨g575, 22, bA fy⟩, ⟨g478, 22, bA on⟩, ⟨g479, 22, bA tu⟩, ⟨g342, 22, bA xx⟩, ⟨g343, 22, bA yy⟩, ⟨g344, 22, bA zz⟩, ⟨g5, 99, tA qx qy qz⟩, ⟨g2, 99, tA px py pz⟩]) (by kernel_rfl) ?_
 have V631 := V630.drew
 refine zR [0, 1, 3, 5, 6, 7, 10, 12, 13] 8 (by kernel_rfl) (fun _ _ _ _ _ h => h) ((V631.del 8)) fun K hK => ?_
 refine zC (.agg (bA zz)) rfl (by rfl) (fun w' hw' => zB hw' 7 rfl _ rfl rfl) ?_
 go_simp
 refine zC (.agg (bA cr)) rfl (by rfl) (fun w' hw' => zB hw' 0 rfl _ rfl rfl) ?_
 go_simp
 refine zC (.agg (bA fy)) rfl (by rfl) (fun w' hw' => zB hw' 2 rfl _ rfl rfl) ?_
 go_simp
 refine zC (.agg (bA zz)) rfl (by rfl) (fun w' hw' => zB hw' 7 rfl _ rfl rfl) ?_
 go_simp
 refine zC (.agg (bA yy)) rfl (by rfl) (fun w' hw' => zB hw' 6 rfl _ rfl rfl) ?_
 go_simp
 refine zC (.agg (bA xx)) rfl (by rfl) (fun w' hw' => zB hw' 5 rfl _ rfl rfl) ?_
 go_simp
 refine zC (.agg (bA fx)) rfl (by rfl) (fun w' hw' => zB hw' 1 rfl _ rfl rfl) ?_
 go_simp
 refine zC (.agg (bA fx)) rfl (by rfl) (fun w' hw' => zB hw' 1 rfl _ rfl rfl) ?_
 go_simp
 refine zC (.agg (bA fy)) rfl (by rfl) (fun w' hw' => zB hw' 2 rfl _ rfl rfl) ?_
 go_simp
 refine calm_nil (hK.out _ ?_)
 clear hK K
 refine zO 2 7 (by kernel_rfl) rfl (by rfl) fun K hK => ?_
 go_simp
 refine (H12.out w629.drew).mono ?_
 rintro e w632 ⟨rfl, q634⟩
 have V633 := V631.call q634
 refine hK _ _ ((V633.del 8)) ?_
 clear hK K q634
 refine zO 4 6 (by kernel_rfl) rfl (by rfl) fun K hK => ?_
 go_simp
 refine (H13.out w632).mono ?_
 rintro e w635 ⟨rfl, q637⟩
 have V636 := V633.call q637
 refine hK _ _ ((V636.del 8)) ?_
 clear hK K q637
 refine zO 8 5 (by kernel_rfl) rfl (by rfl) fun K hK => ?_
 go_simp
 refine (H14.out w635).mono ?_
 rintro e w638 ⟨rfl, q640⟩
 have V639 := V636.call q640
 refine hK _ _ ((V639.del 8)) ?_
 clear hK K q640
 refine zO 9 4 (by kernel_rfl) rfl (by rfl) fun K hK => ?_
 go_simp
 refine (H15.out w638).mono ?_
 rintro e w641 ⟨rfl, q643⟩
 have V642 := V639.call q643
 refine hK _ _ ((V642.del 8)) ?_
 clear hK K q643
 refine zO 11 3 (by kernel_rfl) rfl (by rfl) fun K hK => ?_
 go_simp
 refine (H16.out w641).mono ?_
 rintro e w644 ⟨rfl, q646⟩
 have V645 := V642.call q646
 refine hK _ _ ((V645.del 8)) ?_
 clear hK K q646
 refine zO 14 2 (by kernel_rfl) rfl (by rfl) fun K hK => ?_
 go_simp
 refine (H17.out w644).mono ?_
 rintro e w647 ⟨rfl, q649⟩
 have V648 := V645.call q649
 refine hK _ _ ((V648.del 8)) ?_
 clear hK K q649
 refine zR [15] 1 (by kernel_rfl) (fun _ _ _ _ _ h => h) ((V648.del 8)) fun K hK => ?_
 go_simp
 refine zC (.agg (tA rx ry rz)) rfl (by rfl) (fun w' hw' => ?_) ?_
 ·refine exec_buildV 99 _ rfl (tA rx ry rz) ?_
  exact (built_T _ _ _)
 go_simp
 refine calm_nil (hK.out _ ?_)
 clear hK K
 refine zO 16 0 (by kernel_rfl) rfl (by rfl) fun K hK => ?_
 refine wp_storeV V648 8 rfl _ _ rfl rfl (tA rx ry rz) rfl rfl Tryz.szT (tA_size _ _ _) (tA_size _ _ _) (tA_one _ _ _) (fun w650 V651 => ?_)
 refine hK _ _ ((V651.del 8)) ?_
 clear hK K
 refine wpAnyH_done (by kernel_rfl) ?_ _
 go_wp2_with fail
 exact bodyPost_ret (resS1 rfl _ V651 8 rfl rfl Tryz.underlying99 Tryz.szT (tA_size _ _ _)) rfl ⟨rfl, V651.bel⟩
end Go.Proofs.YthangiocheodoaaGreatDoor.N
