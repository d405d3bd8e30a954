/-
 Layer 19's laws: Public.
-/
import Derived.Test.YthangiocheodoaaGreatDoorPackFb
import Derived.Test.YthangiocheodoaaGreatDoorEdFace
import Derived.Test.YthangiocheodoaaGreatDoorEdRef4
namespace Go.Proofs.YthangiocheodoaaGreatDoor.N
open Go.RowKit
set_option linter.unusedVariables false
set_option maxRecDepth 8192

set_option maxHeartbeats 3200000 in
theorem walk_EdPublic (sd : Nat) (hs : sd < 2 ^ 256) (w : World) (ho : OAt w) (hd : DAt w) : Calls Tryz.prog 3 #[.agg (bA sd)] w fun e w' => e = .returned (.bool true) ∧ Below w.heap.size w w' := by
 have HP : Hid (∀ w, DAt w → Rt Tryz.prog 6 #[.agg (bA sd)] (.agg (bA (pubN sd))) w) := fun w hd => public_any sd hs w hd
 have HSEC : Hid (∀ w, Calls Tryz.prog 7 #[.agg (bA sd)] w fun e w' => ∃ g, e = .returned (.tuple #[.agg (bA (secA sd)), .slice (some ⟨g, 32, none⟩) 32 32]) ∧ w.heap.size ≤ g ∧ w'.heap[g]? = some (.cells (hA (hN (digL sd 32))) 40 (0, 0)) ∧ Below w.heap.size w w') := fun w => secret19_any sd w
 have HB : Hid (∀ w, DAt w → Rt Tryz.prog 13 #[] (.agg (pA pbase.x.val pbase.y.val)) w) := base_any
 have HO : Hid (∀ w, Rt Tryz.prog 12 #[.agg (pA pbase.x.val pbase.y.val)] (.agg (tA pbase.x.val pbase.y.val 1)) w) := fun w => of19_any pbase w
 obtain ⟨L, hL⟩ : ∃ L, L = rrun ⟨pbase.x, pbase.y, 1⟩ (secA sd) 256 256 := ⟨_, rfl⟩
 have sL : Stands L (pubP sd) := by rw [hL]; exact Stands.rall (Stands.one pbase) pbase_on _ 256 (secA_lt sd)
 have HU : Hid (∀ w, DAt w → Rt Tryz.prog 8 #[.agg (bA (pubN sd))] (.tuple #[.agg (pA (pubP sd).x.val (pubP sd).y.val), .int .i64 0]) w) := fun w hd => cUnpack_yes (pubP_on sd) w hd
 have HS : Hid (∀ (w : World) (g : Nat), w.heap[g]? = some (.cells (bA (secA sd)) 22 (0, 0)) → Rt Tryz.prog 11 #[.slice (some ⟨g, 0, none⟩) 32 32, .agg (tA pbase.x.val pbase.y.val 1)] (.agg (tA L.x.val L.y.val L.z.val)) w) := fun w g hg => by
  have h := scale19_any (digL (secA sd) 32) (digL_dig _ _) (some ⟨g, 0, none⟩) 32 32 ⟨pbase.x, pbase.y, 1⟩ w (row_bA hg) (by decide)
  rw [vB (secA_lt sd), ← hL] at h
  exact h
 have HK : Hid (∀ w, Rt Tryz.prog 10 #[.agg (bA (pubN sd)), .agg (pA (pubP sd).x.val (pubP sd).y.val), .agg (tA L.x.val L.y.val L.z.val)] (.bool true) w) := fun w => packs19_any (pubP_on sd) sL w
 clear hs hL sL
 generalize pubN sd = pu at *
 generalize secA sd = sa at *
 generalize hN (digL sd 32) = h at *
 generalize L.x.val = lx at *
 generalize L.y.val = ly at *
 generalize L.z.val = lz at *
 generalize (pubP sd).x.val = qx at *
 generalize (pubP sd).y.val = qy at *
 generalize pbase.x.val = bx at *
 generalize pbase.y.val = by9 at *
 have V0 := Vars.start w
 go_enter Tryz.func3, Tryz.ntmps3
 go_wp2_with (first
  | (refine wpList_boxV V0 1 22 _ rfl rfl rfl (bA sd) rfl ?_; intro w1 g2 V3)
  | (refine zD V3 0 rfl 8 _ rfl rfl rfl rfl ?_))
 refine (HP.out w1 (hd.of V3)).mono ?_
 rintro e w4 ⟨rfl, q6⟩
 have V5 := V3.call q6
 clear q6 V3
 go_wp2_with (first
  | (refine zA V5 3 rfl rfl rfl ?_; intro w7 g8 V9)
  | (refine zL V9 0 rfl _ (.tmp 9) rfl rfl rfl pu rfl rfl ?_; intro w10 V11)
  | (refine zD V11 1 rfl 11 _ rfl rfl rfl rfl ?_))
 refine (HSEC.out w10).mono ?_
 rintro e w12 ⟨g15, rfl, hg, hh, q14⟩
 have V13 := V11.made q14 hg hh
 clear hg hh q14 V11
 go_wp2_with (first
  | (refine zA V13 4 rfl rfl rfl ?_; intro w16 g17 V18)
  | (refine zL V18 0 rfl _ (.tmp 13) rfl rfl rfl sa rfl rfl ?_; intro w19 V20)
  | (refine zD V20 2 rfl 16 _ rfl rfl rfl rfl ?_))
 refine (HU.out w19 (hd.of V20)).mono ?_
 rintro e w21 ⟨rfl, q23⟩
 have V22 := V20.call q23
 clear q23 V20
 go_wp2_with (first
  | (refine wpList_allocV V22 6 28 rfl rfl rfl (pA 0 0) zeroP ?_; intro w24 g25 V26)
  | (refine wpList_storeV V26 0 rfl _ (.tmp 18) rfl rfl rfl (pA qx qy) rfl rfl Tryz.szP (pA_size _ _) (pA_size _ _) (pA_one _ _) ?_; intro w27 V28))
 refine av_open (fun w' => Vars w w' [⟨g25, 28, pA qx qy⟩, ⟨g17, 22, bA sa⟩, ⟨g15, 40, hA h⟩, ⟨g8, 22, bA pu⟩, ⟨g2, 22, bA sd⟩]) (by kernel_rfl) ?_
 have V29 := V28.drew
 refine zO 0 14 (by kernel_rfl) rfl (by rfl) fun K hK => ?_
 go_simp
 refine (awake19_any w27.drew (ho.of V29) (hd.of V29)).mono ?_
 rintro e w30 ⟨rfl, q32⟩
 have V31 := V29.call q32
 refine hK _ _ (V31) ?_
 clear hK K q32
 refine zR [1, 2, 3, 4, 5, 6, 7, 8] 6 (by kernel_rfl) (fun _ _ _ _ _ h => h) V31 fun K hK => ?_
 go_simp
 refine calm_move _ rfl (by rfl) rfl ?_
 go_simp
 refine calm_move _ rfl (by rfl) rfl ?_
 go_simp
 refine zC (.bool true) rfl (by rfl) (fun w' hw' => ?_) ?_
 ·go_simp
 go_simp
 refine zC (.bool true) rfl (by rfl) (fun w' hw' => ?_) ?_
 ·go_simp
 go_simp
 refine calm_move _ rfl (by rfl) rfl ?_
 go_simp
 refine zC (.agg (bA pu)) rfl (by rfl) (fun w' hw' => zB hw' 3 rfl _ rfl rfl) ?_
 go_simp
 refine zC (.agg (pA qx qy)) rfl (by rfl) (fun w' hw' => exec_loadS hw' 0 rfl _ rfl rfl Tryz.underlying28 Tryz.szP (pA_size _ _)) ?_
 go_simp
 refine zC (.slice (some ⟨g17, 0, none⟩) 32 32) rfl (by rfl) (fun w' hw' => exec_sliceB hw' 1 rfl _ rfl rfl) ?_
 go_simp
 refine calm_nil (hK.out _ ?_)
 clear hK K
 refine zO 9 5 (by kernel_rfl) rfl (by rfl) fun K hK => ?_
 go_simp
 refine (HB.out w30 (hd.of V31)).mono ?_
 rintro e w33 ⟨rfl, q35⟩
 have V34 := V31.call q35
 refine hK _ _ (V34) ?_
 clear hK K q35
 refine zO 10 4 (by kernel_rfl) rfl (by rfl) fun K hK => ?_
 go_simp
 refine (HO.out w33).mono ?_
 rintro e w36 ⟨rfl, q38⟩
 have V37 := V34.call q38
 refine hK _ _ (V37) ?_
 clear hK K q38
 refine zO 11 3 (by kernel_rfl) rfl (by rfl) fun K hK => ?_
 go_simp
 refine (HS.out w36 g17 (V37.at 1 rfl)).mono ?_
 rintro e w39 ⟨rfl, q41⟩
 have V40 := V37.call q41
 refine hK _ _ (V40) ?_
 clear hK K q41
 refine zO 12 2 (by kernel_rfl) rfl (by rfl) fun K hK => ?_
 go_simp
 refine (HK.out w39).mono ?_
 rintro e w42 ⟨rfl, q44⟩
 have V43 := V40.call q44
 refine hK _ _ (V43) ?_
 clear hK K q44
 refine zR [13, 14] 0 (by kernel_rfl) (fun _ _ _ _ _ h => h) V43 fun K hK => ?_
 go_simp
 refine zC (.bool true) rfl (by rfl) (fun w' hw' => ?_) ?_
 ·go_simp
 go_simp
 refine calm_assign _ rfl (by rfl) rfl ?_
 go_simp
 refine calm_nil (hK.out _ ?_)
 clear hK K
 refine wpAnyH_done (by kernel_rfl) ?_ _
 go_wp2_with fail
 go_ret
 exact ⟨rfl, V43.bel⟩
end Go.Proofs.YthangiocheodoaaGreatDoor.N
