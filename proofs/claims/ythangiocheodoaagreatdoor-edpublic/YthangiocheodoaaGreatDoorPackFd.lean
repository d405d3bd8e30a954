/-
 The code of layer 16 (field): both, Add, Sub, Mul, Inv, root, Root.
-/
import Derived.Test.YthangiocheodoaaGreatDoorPackFb
import Derived.Test.YthangiocheodoaaGreatDoorPackFc
namespace Go.Proofs.YthangiocheodoaaGreatDoor.N
open Go.RowKit
set_option linter.unusedVariables false
set_option maxRecDepth 8192

theorem elt256 {a : Nat} (h : a < fP) : a < 2 ^ 256 := Nat.lt_trans h fP_lt256
/-- What root makes of a, and its steps. -/
def rtV (a : Nat) : Nat := ((a + a) % fP) ^ ((fP - 5) / 8) % fP
def rtI (a : Nat) : Nat := ((a + a) % fP) * (rtV a * rtV a % fP) % fP
def rtN (a : Nat) : Nat := (a * rtV a % fP) * ((rtI a + (fP - 1)) % fP) % fP
/-- The even one of r and what it lacks to p. -/
def evN (r : Nat) : Nat := if r % 2 = 1 then fP - r else r
theorem evN_def (r : Nat) : evN r = if r % 2 = 1 then fP - r else r := rfl
theorem rtV_lt (a : Nat) : rtV a < fP := mod_fP _
theorem rtI_lt (a : Nat) : rtI a < fP := mod_fP _
theorem rtN_lt (a : Nat) : rtN a < fP := mod_fP _
theorem bA_num0 : Tryz.prog.built 22 [] = some (bA 0) := by rw [bA_zero]; kernel_rfl
theorem is_yes {a : Nat} (h : a < fP) (w : World) : Calls Tryz.prog 25 #[.agg (bA a)] w fun e w' => e = .returned (.bool true) ∧ Below w.heap.size w w' := by
 have := is_any a w (elt256 h)
 rwa [decide_eq_true h] at this
theorem is_no {a : Nat} (ha : a < 2 ^ 256) (h : ¬ a < fP) (w : World) : Calls Tryz.prog 25 #[.agg (bA a)] w fun e w' => e = .returned (.bool false) ∧ Below w.heap.size w w' := by
 have := is_any a w ha
 rwa [decide_eq_false h] at this
set_option maxHeartbeats 1600000 in
theorem both_yes (a b r : Nat) (F : FuncId) (w : World) (ha : a < fP) (hb : b < fP) (hF : ∀ w, Calls Tryz.prog F #[.agg (wA a), .agg (wA b)] w fun e w' => e = .returned (.agg (wA r)) ∧ Below w.heap.size w w') (hcall : ∀ args w, Sem.run Tryz.prog (callFunc F args) w = .ok (.enter F args) w) :
  Calls Tryz.prog 100 #[.agg (bA a), .agg (bA b), .func (.func F) #[] #[]] w fun e w' => e = .returned (.tuple #[.agg (bA r), .int .i64 0]) ∧ Below w.heap.size w w' := by
 have HA : Hid (∀ w, Rt Tryz.prog 25 #[.agg (bA a)] (.bool true) w) := fun w => is_yes ha w
 have HB : Hid (∀ w, Rt Tryz.prog 25 #[.agg (bA b)] (.bool true) w) := fun w => is_yes hb w
 have RA : Hid (∀ w, Rt Tryz.prog 54 #[.agg (bA a)] (.agg (wA a)) w) := fun w => read_any a (elt256 ha) w
 have RB : Hid (∀ w, Rt Tryz.prog 54 #[.agg (bA b)] (.agg (wA b)) w) := fun w => read_any b (elt256 hb) w
 have HF : Hid (∀ w, Calls Tryz.prog F #[.agg (wA a), .agg (wA b)] w fun e w' => e = .returned (.agg (wA r)) ∧ Below w.heap.size w w') := hF
 clear ha hb hF
 have V0 := Vars.start w
 go_enter Tryz.func100, Tryz.ntmps100
 go_wp2_with (first
  | (refine wpList_boxV V0 3 22 _ rfl rfl rfl (bA a) rfl ?_; intro w1 g2 V3)
  | (refine wpList_boxV V3 4 22 _ rfl rfl rfl (bA b) rfl ?_; intro w4 g5 V6)
  | (refine zA V6 6 rfl rfl rfl ?_; intro w7 g8 V9)
  | (refine zD V9 2 rfl 8 _ rfl rfl rfl rfl ?_))
 refine (HA.out w7).mono ?_
 rintro e w10 ⟨rfl, q12⟩
 have V11 := V9.call q12
 clear q12 V9
 go_wp2_with (refine zD V11 1 rfl 12 _ rfl rfl rfl rfl ?_)
 refine (HB.out w10).mono ?_
 rintro e w13 ⟨rfl, q15⟩
 have V14 := V11.call q15
 clear q15 V11
 go_wp2_with fail
 refine av_open (fun w' => Vars w w' [⟨g5, 22, bA b⟩, ⟨g2, 22, bA a⟩]) (by kernel_rfl) ?_
 have V16 := V14.drew
 refine zR [0, 1, 3] 6 (by kernel_rfl) (fun _ _ _ _ _ h => h) (V16.tail) fun K hK => ?_
 refine calm_move _ rfl (by rfl) rfl ?_
 go_simp
 refine zC (.agg (bA a)) rfl (by rfl) (fun w' hw' => zB hw' 1 rfl _ rfl rfl) ?_
 go_simp
 refine zC (.agg (bA b)) rfl (by rfl) (fun w' hw' => zB hw' 0 rfl _ rfl rfl) ?_
 go_simp
 refine calm_nil (hK.out _ ?_)
 clear hK K
 refine zO 2 5 (by kernel_rfl) rfl (by rfl) fun K hK => ?_
 go_simp
 refine (RA.out w13.drew).mono ?_
 rintro e w17 ⟨rfl, q19⟩
 have V18 := V16.call q19
 refine hK _ _ (V18.tail) ?_
 clear hK K q19
 refine zO 4 4 (by kernel_rfl) rfl (by rfl) fun K hK => ?_
 go_simp
 refine (RB.out w17).mono ?_
 rintro e w20 ⟨rfl, q22⟩
 have V21 := V18.call q22
 refine hK _ _ (V21.tail) ?_
 clear hK K q22
 refine zO 5 3 (by kernel_rfl) rfl (by rfl) fun K hK => ?_
 go_simp
 refine (HF.out w20).mono ?_
 rintro e w23 ⟨rfl, q25⟩
 have V24 := V21.call q25
 refine hK _ _ (V24.tail) ?_
 clear hK K q25
 refine zO 6 2 (by kernel_rfl) rfl (by rfl) fun K hK => ?_
 go_simp
 refine (told_any r w23).mono ?_
 rintro e w26 ⟨rfl, q28⟩
 have V27 := V24.call q28
 refine hK _ _ (V27.tail) ?_
 clear hK K q28
 refine zO 7 1 (by kernel_rfl) rfl (by rfl) fun K hK => ?_
 refine zS V27 0 rfl _ _ rfl rfl r rfl rfl (fun w29 V30 => ?_)
 refine hK _ _ (V30.tail) ?_
 clear hK K
 refine zR [8] 0 (by kernel_rfl) (fun _ _ _ _ _ h => h) (V30.tail) fun K hK => ?_
 go_simp
 refine calm_assign _ rfl (by rfl) rfl ?_
 go_simp
 refine calm_nil (hK.out _ ?_)
 clear hK K
 refine wpAnyH_done (by kernel_rfl) ?_ _
 go_wp2_with fail
 exact bodyPost_ret (resV2 rfl _ V30 0 rfl rfl Tryz.underlying22 Tryz.szB (bA_size _)) rfl ⟨rfl, V30.bel⟩
set_option maxHeartbeats 800000 in
theorem fAdd_yes (a b : Nat) (w : World) (ha : a < fP) (hb : b < fP) : Calls Tryz.prog 99 #[.agg (bA a), .agg (bA b)] w fun e w' => e = .returned (.tuple #[.agg (bA ((a + b) % fP)), .int .i64 0]) ∧ Below w.heap.size w w' := by
 have HB : Hid (∀ w, Rt Tryz.prog 100 #[.agg (bA a), .agg (bA b), .func (.func 128) #[] #[]] (.tuple #[.agg (bA ((a + b) % fP)), .int .i64 0]) w) := fun w => both_yes a b _ _ w ha hb (fun w => sum_any a b w (by omega)) (fun _ _ => rfl)
 generalize (a + b) % fP = r at *
 clear ha hb
 have V0 := Vars.start w
 go_enter Tryz.func99, Tryz.ntmps99
 go_wp2_with (first
  | (refine wpList_boxV V0 2 22 _ rfl rfl rfl (bA a) rfl ?_; intro w1 g2 V3)
  | (refine wpList_boxV V3 3 22 _ rfl rfl rfl (bA b) rfl ?_; intro w4 g5 V6)
  | (refine zA V6 4 rfl rfl rfl ?_; intro w7 g8 V9)
  | (refine zD V9 2 rfl 6 _ rfl rfl rfl rfl ?_)
  | (refine zD V9 1 rfl 7 _ rfl rfl rfl rfl ?_))
 refine (HB.out w7).mono ?_
 rintro e w10 ⟨rfl, q12⟩
 have V11 := V9.call q12
 clear q12 V9
 go_wp2_with (refine zL V11 0 rfl _ (.tmp 9) rfl rfl rfl r rfl rfl ?_; intro w13 V14)
 exact bodyPost_ret (resV2 rfl _ V14 0 rfl rfl Tryz.underlying22 Tryz.szB (bA_size _)) rfl ⟨rfl, V14.bel⟩
set_option maxHeartbeats 800000 in
theorem fSub_yes (a b : Nat) (w : World) (ha : a < fP) (hb : b < fP) : Calls Tryz.prog 59 #[.agg (bA a), .agg (bA b)] w fun e w' => e = .returned (.tuple #[.agg (bA ((a + (fP - b)) % fP)), .int .i64 0]) ∧ Below w.heap.size w w' := by
 have HB : Hid (∀ w, Rt Tryz.prog 100 #[.agg (bA a), .agg (bA b), .func (.func 101) #[] #[]] (.tuple #[.agg (bA ((a + (fP - b)) % fP)), .int .i64 0]) w) := fun w => both_yes a b _ _ w ha hb (fun w => difference_any a b w ha (Nat.le_of_lt hb)) (fun _ _ => rfl)
 generalize (a + (fP - b)) % fP = r at *
 clear ha hb
 have V0 := Vars.start w
 go_enter Tryz.func59, Tryz.ntmps59
 go_wp2_with (first
  | (refine wpList_boxV V0 2 22 _ rfl rfl rfl (bA a) rfl ?_; intro w1 g2 V3)
  | (refine wpList_boxV V3 3 22 _ rfl rfl rfl (bA b) rfl ?_; intro w4 g5 V6)
  | (refine zA V6 4 rfl rfl rfl ?_; intro w7 g8 V9)
  | (refine zD V9 2 rfl 6 _ rfl rfl rfl rfl ?_)
  | (refine zD V9 1 rfl 7 _ rfl rfl rfl rfl ?_))
 refine (HB.out w7).mono ?_
 rintro e w10 ⟨rfl, q12⟩
 have V11 := V9.call q12
 clear q12 V9
 go_wp2_with (refine zL V11 0 rfl _ (.tmp 9) rfl rfl rfl r rfl rfl ?_; intro w13 V14)
 exact bodyPost_ret (resV2 rfl _ V14 0 rfl rfl Tryz.underlying22 Tryz.szB (bA_size _)) rfl ⟨rfl, V14.bel⟩
set_option maxHeartbeats 800000 in
theorem fMul_yes (a b : Nat) (w : World) (ha : a < fP) (hb : b < fP) : Calls Tryz.prog 94 #[.agg (bA a), .agg (bA b)] w fun e w' => e = .returned (.tuple #[.agg (bA (a * b % fP)), .int .i64 0]) ∧ Below w.heap.size w w' := by
 have HB : Hid (∀ w, Rt Tryz.prog 100 #[.agg (bA a), .agg (bA b), .func (.func 96) #[] #[]] (.tuple #[.agg (bA (a * b % fP)), .int .i64 0]) w) := fun w => both_yes a b _ _ w ha hb (fun w => product_any a b w (elt256 ha) (elt256 hb)) (fun _ _ => rfl)
 generalize a * b % fP = r at *
 clear ha hb
 have V0 := Vars.start w
 go_enter Tryz.func94, Tryz.ntmps94
 go_wp2_with (first
  | (refine wpList_boxV V0 2 22 _ rfl rfl rfl (bA a) rfl ?_; intro w1 g2 V3)
  | (refine wpList_boxV V3 3 22 _ rfl rfl rfl (bA b) rfl ?_; intro w4 g5 V6)
  | (refine zA V6 4 rfl rfl rfl ?_; intro w7 g8 V9)
  | (refine zD V9 2 rfl 6 _ rfl rfl rfl rfl ?_)
  | (refine zD V9 1 rfl 7 _ rfl rfl rfl rfl ?_))
 refine (HB.out w7).mono ?_
 rintro e w10 ⟨rfl, q12⟩
 have V11 := V9.call q12
 clear q12 V9
 go_wp2_with (refine zL V11 0 rfl _ (.tmp 9) rfl rfl rfl r rfl rfl ?_; intro w13 V14)
 exact bodyPost_ret (resV2 rfl _ V14 0 rfl rfl Tryz.underlying22 Tryz.szB (bA_size _)) rfl ⟨rfl, V14.bel⟩
set_option maxHeartbeats 1600000 in
theorem fInv_yes (a : Nat) (w : World) (ha : a < fP) (h0 : a ≠ 0) : Calls Tryz.prog 65 #[.agg (bA a)] w fun e w' => e = .returned (.tuple #[.agg (bA (a ^ (fP - 2) % fP)), .int .i64 0]) ∧ Below w.heap.size w w' := by
 have HA : Hid (∀ w, Rt Tryz.prog 25 #[.agg (bA a)] (.bool true) w) := fun w => is_yes ha w
 have RA : Hid (∀ w, Rt Tryz.prog 54 #[.agg (bA a)] (.agg (wA a)) w) := fun w => read_any a (elt256 ha) w
 have HE : Hid (decide (a = 0) = false) := decide_eq_false h0
 have HL : Hid (a < 2 ^ 256) := elt256 ha
 have HP : Hid (∀ (w : World) (g : Nat), w.heap[g]? = some (.cells (wA a) 82 (0, 0)) → Rt Tryz.prog 108 #[.agg (wA (fP - 2)), .func (.func 132) #[] #[.pointer (some ⟨g, 0, none⟩)]] (.agg (wA (a ^ (fP - 2) % fP))) w) :=
  fun w g hg => power_any (fP - 2) a g w (Nat.lt_of_le_of_lt (Nat.sub_le _ _) fP_lt256) (elt256 ha) hg
 have HU : Hid (∀ w, Rt Tryz.prog 93 #[.int .i64 255, .int .u64 21] (.agg (wA (fP - 2))) w) := under_p2
 generalize a ^ (fP - 2) % fP = r at *
 generalize fP - 2 = n2 at *
 clear ha h0
 have V0 := Vars.start w
 go_enter Tryz.func65, Tryz.ntmps65
 go_wp2_with (first
  | (refine wpList_boxV V0 1 22 _ rfl rfl rfl (bA a) rfl ?_; intro w1 g2 V3)
  | (refine zA V3 2 rfl rfl rfl ?_; intro w4 g5 V6)
  | (refine zD V6 1 rfl 4 _ rfl rfl rfl rfl ?_))
 refine (HA.out w4).mono ?_
 rintro e w7 ⟨rfl, q9⟩
 have V8 := V6.call q9
 clear q9 V6
 go_wp2_with (first
  | (refine zD V8 1 rfl 8 _ rfl rfl rfl rfl ?_)
  | (refine wpList_buildV 9 22 _ rfl rfl rfl (bA 0) bA_num0 ?_)
  | (refine wpList_exec rfl (exec_eqlB _ _ rfl false _ _ HE.out rfl rfl HL.out (Nat.two_pow_pos 256)) ?_))
 refine av_open (fun w' => Vars w w' [⟨g2, 22, bA a⟩]) (by kernel_rfl) ?_
 have V10 := V8.drew
 refine zR [1] 7 (by kernel_rfl) (fun _ _ _ _ _ h => h) (V10.tail) fun K hK => ?_
 refine zC (.agg (bA a)) rfl (by rfl) (fun w' hw' => zB hw' 0 rfl _ rfl rfl) ?_
 go_simp
 refine calm_nil (hK.out _ ?_)
 clear hK K
 refine zO 0 6 (by kernel_rfl) rfl (by rfl) fun K hK => ?_
 go_simp
 refine (HU.out w7.drew).mono ?_
 rintro e w11 ⟨rfl, q13⟩
 have V12 := V10.call q13
 refine hK _ _ (V12.tail) ?_
 clear hK K q13
 refine zO 2 5 (by kernel_rfl) rfl (by rfl) fun K hK => ?_
 go_simp
 refine (RA.out w11).mono ?_
 rintro e w14 ⟨rfl, q16⟩
 have V15 := V12.call q16
 refine hK _ _ (V15.tail) ?_
 clear hK K q16
 refine zO 3 4 (by kernel_rfl) rfl (by rfl) fun K hK => ?_
 go_simp
 refine (times_any a w14).mono ?_
 rintro e w17 ⟨g20, rfl, hg, hh, q19⟩
 have V18 := V15.made q19 hg hh
 refine hK _ _ (V18.tail.tail) ?_
 clear hK K hg hh q19
 refine zO 4 3 (by kernel_rfl) rfl (by rfl) fun K hK => ?_
 go_simp
 refine (HP.out w17 g20 (V18.at 0 rfl)).mono ?_
 rintro e w21 ⟨rfl, q23⟩
 have V22 := V18.call q23
 refine hK _ _ (V22.tail.tail) ?_
 clear hK K q23
 refine zO 5 2 (by kernel_rfl) rfl (by rfl) fun K hK => ?_
 go_simp
 refine (told_any r w21).mono ?_
 rintro e w24 ⟨rfl, q26⟩
 have V25 := V22.call q26
 refine hK _ _ (V25.tail.tail) ?_
 clear hK K q26
 refine zO 6 1 (by kernel_rfl) rfl (by rfl) fun K hK => ?_
 refine zS V25 1 rfl _ _ rfl rfl r rfl rfl (fun w27 V28 => ?_)
 refine hK _ _ (V28.tail.tail) ?_
 clear hK K
 refine zR [7] 0 (by kernel_rfl) (fun _ _ _ _ _ h => h) (V28.tail.tail) fun K hK => ?_
 go_simp
 refine calm_assign _ rfl (by rfl) rfl ?_
 go_simp
 refine calm_nil (hK.out _ ?_)
 clear hK K
 refine wpAnyH_done (by kernel_rfl) ?_ _
 go_wp2_with fail
 exact bodyPost_ret (resV2 rfl _ V28 1 rfl rfl Tryz.underlying22 Tryz.szB (bA_size _)) rfl ⟨rfl, V28.bel⟩
end Go.Proofs.YthangiocheodoaaGreatDoor.N

/-
 The code of layer 16 (field): root, Root.
-/
namespace Go.Proofs.YthangiocheodoaaGreatDoor.N
open Go.RowKit
set_option linter.unusedVariables false
set_option maxRecDepth 8192

set_option maxHeartbeats 1600000 in
theorem root_any (a : Nat) (w : World) (ha : a < fP) : Calls Tryz.prog 95 #[.agg (wA a)] w fun e w' => e = .returned (.agg (wA (rtN a))) ∧ Below w.heap.size w w' := by
 have H1 : Hid (∀ w, Rt Tryz.prog 128 #[.agg (wA a), .agg (wA a)] (.agg (wA ((a + a) % fP))) w) := fun w => sum_any a a w (by omega)
 have HU : Hid (∀ w, Rt Tryz.prog 93 #[.int .i64 252, .int .u64 3] (.agg (wA ((fP - 5) / 8))) w) := under_p5
 have HP : Hid (∀ (w : World) (g : Nat), w.heap[g]? = some (.cells (wA ((a + a) % fP)) 82 (0, 0)) → Rt Tryz.prog 108 #[.agg (wA ((fP - 5) / 8)), .func (.func 132) #[] #[.pointer (some ⟨g, 0, none⟩)]] (.agg (wA (rtV a))) w) :=
  fun w g hg => power_any ((fP - 5) / 8) ((a + a) % fP) g w (Nat.lt_of_le_of_lt (Nat.div_le_self _ _) (Nat.lt_of_le_of_lt (Nat.sub_le _ _) fP_lt256)) (mod_lt256 _) hg
 have H3 : Hid (∀ w, Rt Tryz.prog 96 #[.agg (wA (rtV a)), .agg (wA (rtV a))] (.agg (wA (rtV a * rtV a % fP))) w) := fun w => product_any _ _ w (elt256 (rtV_lt a)) (elt256 (rtV_lt a))
 have H4 : Hid (∀ w, Rt Tryz.prog 96 #[.agg (wA ((a + a) % fP)), .agg (wA (rtV a * rtV a % fP))] (.agg (wA (rtI a))) w) := fun w => product_any _ _ w (mod_lt256 _) (mod_lt256 _)
 have H5 : Hid (∀ w, Rt Tryz.prog 96 #[.agg (wA a), .agg (wA (rtV a))] (.agg (wA (a * rtV a % fP))) w) := fun w => product_any _ _ w (elt256 ha) (elt256 (rtV_lt a))
 have H6 : Hid (∀ w, Rt Tryz.prog 101 #[.agg (wA (rtI a)), .agg (wA 1)] (.agg (wA ((rtI a + (fP - 1)) % fP))) w) := fun w => difference_any _ 1 w (rtI_lt a) (by decide)
 have H7 : Hid (∀ w, Rt Tryz.prog 96 #[.agg (wA (a * rtV a % fP)), .agg (wA ((rtI a + (fP - 1)) % fP))] (.agg (wA (rtN a))) w) := fun w => product_any _ _ w (mod_lt256 _) (mod_lt256 _)
 generalize rtN a = r at *
 generalize (rtI a + (fP - 1)) % fP = i1 at *
 generalize rtI a = i at *
 generalize a * rtV a % fP = av at *
 generalize rtV a * rtV a % fP = vv at *
 generalize rtV a = v at *
 generalize (a + a) % fP = d at *
 generalize (fP - 5) / 8 = n5 at *
 clear ha
 have V0 := Vars.start w
 go_enter Tryz.func95, Tryz.ntmps95
 go_wp2_with (first
  | (refine wpList_boxV V0 1 82 _ rfl rfl rfl (wA a) rfl ?_; intro w1 g2 V3)
  | (refine wpList_allocV V3 2 82 rfl rfl rfl (wA 0) zeroW ?_; intro w4 g5 V6)
  | (refine wpList_loadV V6 1 rfl 6 _ rfl rfl rfl rfl Tryz.underlying82 Tryz.szW (wA_size _) ?_)
  | (refine wpList_loadV V6 1 rfl 7 _ rfl rfl rfl rfl Tryz.underlying82 Tryz.szW (wA_size _) ?_))
 refine (H1.out w4).mono ?_
 rintro e w7 ⟨rfl, q9⟩
 have V8 := V6.call q9
 clear q9 V6
 go_wp2_with (first
  | (refine wpList_allocV V8 3 82 rfl rfl rfl (wA 0) zeroW ?_; intro w10 g11 V12)
  | (refine wpList_storeV V12 0 rfl _ (.tmp 8) rfl rfl rfl (wA d) rfl rfl Tryz.szW (wA_size _) (wA_size _) (wA_one _) ?_; intro w13 V14))
 refine av_open (fun w' => Vars w w' [⟨g11, 82, wA d⟩, ⟨g5, 82, wA 0⟩, ⟨g2, 82, wA a⟩]) (by kernel_rfl) ?_
 have V15 := V14.drew
 apply av_once2 (Vg := fun g w' => Vars w w' [⟨g, 82, wA v⟩, ⟨g11, 82, wA d⟩, ⟨g5, 82, wA 0⟩, ⟨g2, 82, wA a⟩])
 ·intro HC16
  refine zR [1] 5 (by kernel_rfl) (fun _ _ _ _ _ h => h) V15 fun K hK => ?_
  refine zC (.agg (wA d)) rfl (by rfl) (fun w' hw' => exec_loadV hw' 0 rfl _ rfl rfl Tryz.underlying82 Tryz.szW (wA_size _)) ?_
  go_simp
  refine calm_nil (hK.out _ ?_)
  clear hK K
  refine zP 0 4 4 (by kernel_rfl) rfl (by rfl) rfl (by rfl) (fun K hK => ?_) (fun K hK => ?_)
  ·go_simp
   refine (HU.out w13.drew).mono ?_
   rintro e w17 ⟨rfl, q19⟩
   have V18 := V15.call q19
   refine hK _ _ (V18) ?_
   clear hK K q19
   refine zP 2 4 3 (by kernel_rfl) rfl (by rfl) rfl (by rfl) (fun K hK => ?_) (fun K hK => ?_)
   ·go_simp
    refine (times_any d w17).mono ?_
    rintro e w20 ⟨g23, rfl, hg, hh, q22⟩
    have V21 := V18.made q22 hg hh
    refine hK _ _ (V21.tail) ?_
    clear hK K hg hh q22
    refine zP 3 4 2 (by kernel_rfl) rfl (by rfl) rfl (by rfl) (fun K hK => ?_) (fun K hK => ?_)
    ·go_simp
     refine (HP.out w20 g23 (V21.at 0 rfl)).mono ?_
     rintro e w24 ⟨rfl, q26⟩
     have V25 := V21.call q26
     refine hK _ _ (V25.tail) ?_
     clear hK K q26
     refine zO 4 1 (by kernel_rfl) rfl (by rfl) fun K hK => ?_
     refine wp_allocV V25 4 82 rfl rfl (wA 0) zeroW (fun w27 g28 V29 => ?_)
     refine hK _ _ (V29.tail.tail) ?_
     clear hK K
     refine zO 5 0 (by kernel_rfl) rfl (by rfl) fun K hK => ?_
     refine wp_storeV V29 0 rfl _ _ rfl rfl (wA v) rfl rfl Tryz.szW (wA_size _) (wA_size _) (wA_one _) (fun w30 V31 => ?_)
     refine hK _ _ (V31.tail.tail) ?_
     clear hK K
     refine wpAnyH_done (by kernel_rfl) ?_ _
     exact HC16 g28 g23 w30 (V31.del 1)
    ·refine wp_allocV V21 4 82 rfl rfl (wA 0) zeroW (fun w32 g33 V34 => ?_)
     refine hK _ _ (V34.tail.tail) ?_
     clear hK K
     refine zO 3 1 (by kernel_rfl) rfl (by rfl) fun K hK => ?_
     go_simp
     refine (HP.out w32 g23 (V34.at 1 rfl)).mono ?_
     rintro e w35 ⟨rfl, q37⟩
     have V36 := V34.call q37
     refine hK _ _ (V36.tail.tail) ?_
     clear hK K q37
     refine zO 5 0 (by kernel_rfl) rfl (by rfl) fun K hK => ?_
     refine wp_storeV V36 0 rfl _ _ rfl rfl (wA v) rfl rfl Tryz.szW (wA_size _) (wA_size _) (wA_one _) (fun w38 V39 => ?_)
     refine hK _ _ (V39.tail.tail) ?_
     clear hK K
     refine wpAnyH_done (by kernel_rfl) ?_ _
     exact HC16 g33 g23 w38 (V39.del 1)
   ·refine wp_allocV V18 4 82 rfl rfl (wA 0) zeroW (fun w40 g41 V42 => ?_)
    refine hK _ _ (V42.tail) ?_
    clear hK K
    refine zO 2 2 (by kernel_rfl) rfl (by rfl) fun K hK => ?_
    go_simp
    refine (times_any d w40).mono ?_
    rintro e w43 ⟨g46, rfl, hg, hh, q45⟩
    have V44 := V42.made q45 hg hh
    refine hK _ _ (V44.tail.tail) ?_
    clear hK K hg hh q45
    refine zO 3 1 (by kernel_rfl) rfl (by rfl) fun K hK => ?_
    go_simp
    refine (HP.out w43 g46 (V44.at 0 rfl)).mono ?_
    rintro e w47 ⟨rfl, q49⟩
    have V48 := V44.call q49
    refine hK _ _ (V48.tail.tail) ?_
    clear hK K q49
    refine zO 5 0 (by kernel_rfl) rfl (by rfl) fun K hK => ?_
    refine wp_storeV V48 1 rfl _ _ rfl rfl (wA v) rfl rfl Tryz.szW (wA_size _) (wA_size _) (wA_one _) (fun w50 V51 => ?_)
    refine hK _ _ (V51.tail.tail) ?_
    clear hK K
    refine wpAnyH_done (by kernel_rfl) ?_ _
    exact HC16 g41 g46 w50 (V51.del 0)
  ·refine wp_allocV V15 4 82 rfl rfl (wA 0) zeroW (fun w52 g53 V54 => ?_)
   refine hK _ _ (V54.tail) ?_
   clear hK K
   refine zO 0 3 (by kernel_rfl) rfl (by rfl) fun K hK => ?_
   go_simp
   refine (HU.out w52).mono ?_
   rintro e w55 ⟨rfl, q57⟩
   have V56 := V54.call q57
   refine hK _ _ (V56.tail) ?_
   clear hK K q57
   refine zO 2 2 (by kernel_rfl) rfl (by rfl) fun K hK => ?_
   go_simp
   refine (times_any d w55).mono ?_
   rintro e w58 ⟨g61, rfl, hg, hh, q60⟩
   have V59 := V56.made q60 hg hh
   refine hK _ _ (V59.tail.tail) ?_
   clear hK K hg hh q60
   refine zO 3 1 (by kernel_rfl) rfl (by rfl) fun K hK => ?_
   go_simp
   refine (HP.out w58 g61 (V59.at 0 rfl)).mono ?_
   rintro e w62 ⟨rfl, q64⟩
   have V63 := V59.call q64
   refine hK _ _ (V63.tail.tail) ?_
   clear hK K q64
   refine zO 5 0 (by kernel_rfl) rfl (by rfl) fun K hK => ?_
   refine wp_storeV V63 1 rfl _ _ rfl rfl (wA v) rfl rfl Tryz.szW (wA_size _) (wA_size _) (wA_one _) (fun w65 V66 => ?_)
   refine hK _ _ (V66.tail.tail) ?_
   clear hK K
   refine wpAnyH_done (by kernel_rfl) ?_ _
   exact HC16 g53 g61 w65 (V66.del 0)
 intro g53 g61 w65 V66
 clear V15
 go_wp2_with fail
 refine av_open (fun w' => Vars w w' [⟨g53, 82, wA v⟩, ⟨g11, 82, wA d⟩, ⟨g5, 82, wA 0⟩, ⟨g2, 82, wA a⟩]) (by kernel_rfl) ?_
 have V67 := V66.drew
 apply av_once (Vg := fun g w' => Vars w w' [⟨g, 82, wA i⟩, ⟨g53, 82, wA v⟩, ⟨g11, 82, wA d⟩, ⟨g5, 82, wA 0⟩, ⟨g2, 82, wA a⟩])
 ·intro HC68
  refine zR [0, 1, 2] 4 (by kernel_rfl) (fun _ _ _ _ _ h => h) V67 fun K hK => ?_
  refine zC (.agg (wA d)) rfl (by rfl) (fun w' hw' => exec_loadV hw' 1 rfl _ rfl rfl Tryz.underlying82 Tryz.szW (wA_size _)) ?_
  go_simp
  refine zC (.agg (wA v)) rfl (by rfl) (fun w' hw' => exec_loadV hw' 0 rfl _ rfl rfl Tryz.underlying82 Tryz.szW (wA_size _)) ?_
  go_simp
  refine zC (.agg (wA v)) rfl (by rfl) (fun w' hw' => exec_loadV hw' 0 rfl _ rfl rfl Tryz.underlying82 Tryz.szW (wA_size _)) ?_
  go_simp
  refine calm_nil (hK.out _ ?_)
  clear hK K
  refine zP 3 5 3 (by kernel_rfl) rfl (by rfl) rfl (by rfl) (fun K hK => ?_) (fun K hK => ?_)
  ·go_simp
   refine (H3.out w65.drew).mono ?_
   rintro e w69 ⟨rfl, q71⟩
   have V70 := V67.call q71
   refine hK _ _ (V70) ?_
   clear hK K q71
   refine zP 4 5 2 (by kernel_rfl) rfl (by rfl) rfl (by rfl) (fun K hK => ?_) (fun K hK => ?_)
   ·go_simp
    refine (H4.out w69).mono ?_
    rintro e w72 ⟨rfl, q74⟩
    have V73 := V70.call q74
    refine hK _ _ (V73) ?_
    clear hK K q74
    refine zO 5 1 (by kernel_rfl) rfl (by rfl) fun K hK => ?_
    refine wp_allocV V73 5 82 rfl rfl (wA 0) zeroW (fun w75 g76 V77 => ?_)
    refine hK _ _ (V77.tail) ?_
    clear hK K
    refine zO 6 0 (by kernel_rfl) rfl (by rfl) fun K hK => ?_
    refine wp_storeV V77 0 rfl _ _ rfl rfl (wA i) rfl rfl Tryz.szW (wA_size _) (wA_size _) (wA_one _) (fun w78 V79 => ?_)
    refine hK _ _ (V79.tail) ?_
    clear hK K
    refine wpAnyH_done (by kernel_rfl) ?_ _
    exact HC68 g76 w78 V79
   ·refine wp_allocV V70 5 82 rfl rfl (wA 0) zeroW (fun w80 g81 V82 => ?_)
    refine hK _ _ (V82.tail) ?_
    clear hK K
    refine zO 4 1 (by kernel_rfl) rfl (by rfl) fun K hK => ?_
    go_simp
    refine (H4.out w80).mono ?_
    rintro e w83 ⟨rfl, q85⟩
    have V84 := V82.call q85
    refine hK _ _ (V84.tail) ?_
    clear hK K q85
    refine zO 6 0 (by kernel_rfl) rfl (by rfl) fun K hK => ?_
    refine wp_storeV V84 0 rfl _ _ rfl rfl (wA i) rfl rfl Tryz.szW (wA_size _) (wA_size _) (wA_one _) (fun w86 V87 => ?_)
    refine hK _ _ (V87.tail) ?_
    clear hK K
    refine wpAnyH_done (by kernel_rfl) ?_ _
    exact HC68 g81 w86 V87
  ·refine wp_allocV V67 5 82 rfl rfl (wA 0) zeroW (fun w88 g89 V90 => ?_)
   refine hK _ _ (V90.tail) ?_
   clear hK K
   refine zO 3 2 (by kernel_rfl) rfl (by rfl) fun K hK => ?_
   go_simp
   refine (H3.out w88).mono ?_
   rintro e w91 ⟨rfl, q93⟩
   have V92 := V90.call q93
   refine hK _ _ (V92.tail) ?_
   clear hK K q93
   refine zO 4 1 (by kernel_rfl) rfl (by rfl) fun K hK => ?_
   go_simp
   refine (H4.out w91).mono ?_
   rintro e w94 ⟨rfl, q96⟩
   have V95 := V92.call q96
   refine hK _ _ (V95.tail) ?_
   clear hK K q96
   refine zO 6 0 (by kernel_rfl) rfl (by rfl) fun K hK => ?_
   refine wp_storeV V95 0 rfl _ _ rfl rfl (wA i) rfl rfl Tryz.szW (wA_size _) (wA_size _) (wA_one _) (fun w97 V98 => ?_)
   refine hK _ _ (V98.tail) ?_
   clear hK K
   refine wpAnyH_done (by kernel_rfl) ?_ _
   exact HC68 g89 w97 V98
 intro g89 w97 V98
 clear V67
 go_wp2_with fail
 refine av_open (fun w' => Vars w w' [⟨g89, 82, wA i⟩, ⟨g53, 82, wA v⟩, ⟨g11, 82, wA d⟩, ⟨g2, 82, wA a⟩]) (by kernel_rfl) ?_
 have V99 := V98.drew
 refine zR [0, 1, 3, 4] 4 (by kernel_rfl) (fun _ _ _ _ _ h => h) ((V99.del 3)) fun K hK => ?_
 refine zC (.agg (wA a)) rfl (by rfl) (fun w' hw' => exec_loadV hw' 3 rfl _ rfl rfl Tryz.underlying82 Tryz.szW (wA_size _)) ?_
 go_simp
 refine zC (.agg (wA v)) rfl (by rfl) (fun w' hw' => exec_loadV hw' 1 rfl _ rfl rfl Tryz.underlying82 Tryz.szW (wA_size _)) ?_
 go_simp
 refine zC (.agg (wA i)) rfl (by rfl) (fun w' hw' => exec_loadV hw' 0 rfl _ rfl rfl Tryz.underlying82 Tryz.szW (wA_size _)) ?_
 go_simp
 refine zC (.agg (wA 1)) rfl (by rfl) (fun w' hw' => ?_) ?_
 ·refine exec_buildV 82 _ rfl (wA 1) ?_
  exact wA_num1
 go_simp
 refine calm_nil (hK.out _ ?_)
 clear hK K
 refine zO 2 3 (by kernel_rfl) rfl (by rfl) fun K hK => ?_
 go_simp
 refine (H5.out w97.drew).mono ?_
 rintro e w100 ⟨rfl, q102⟩
 have V101 := V99.call q102
 refine hK _ _ ((V101.del 3)) ?_
 clear hK K q102
 refine zO 5 2 (by kernel_rfl) rfl (by rfl) fun K hK => ?_
 go_simp
 refine (H6.out w100).mono ?_
 rintro e w103 ⟨rfl, q105⟩
 have V104 := V101.call q105
 refine hK _ _ ((V104.del 3)) ?_
 clear hK K q105
 refine zO 6 1 (by kernel_rfl) rfl (by rfl) fun K hK => ?_
 go_simp
 refine (H7.out w103).mono ?_
 rintro e w106 ⟨rfl, q108⟩
 have V107 := V104.call q108
 refine hK _ _ ((V107.del 3)) ?_
 clear hK K q108
 refine zO 7 0 (by kernel_rfl) rfl (by rfl) fun K hK => ?_
 refine wp_storeV V107 3 rfl _ _ rfl rfl (wA r) rfl rfl Tryz.szW (wA_size _) (wA_size _) (wA_one _) (fun w109 V110 => ?_)
 refine hK _ _ ((V110.del 3)) ?_
 clear hK K
 refine wpAnyH_done (by kernel_rfl) ?_ _
 go_wp2_with fail
 exact bodyPost_ret (resV1 rfl _ V110 3 rfl rfl Tryz.underlying82 Tryz.szW (wA_size _)) rfl ⟨rfl, V110.bel⟩
set_option maxHeartbeats 1600000 in
theorem fRoot_none (a : Nat) (w : World) (ha : a < fP) (h : rtN a * rtN a % fP ≠ a) : Calls Tryz.prog 57 #[.agg (bA a)] w fun e w' => e = .returned (.tuple #[.agg (bA 0), .bool false, .int .i64 0]) ∧ Below w.heap.size w w' := by
 have HA : Hid (∀ w, Rt Tryz.prog 25 #[.agg (bA a)] (.bool true) w) := fun w => is_yes ha w
 have RA : Hid (∀ w, Rt Tryz.prog 54 #[.agg (bA a)] (.agg (wA a)) w) := fun w => read_any a (elt256 ha) w
 have HR : Hid (∀ w, Rt Tryz.prog 95 #[.agg (wA a)] (.agg (wA (rtN a))) w) := fun w => root_any a w ha
 have HQ : Hid (∀ w, Rt Tryz.prog 96 #[.agg (wA (rtN a)), .agg (wA (rtN a))] (.agg (wA (rtN a * rtN a % fP))) w) := fun w => product_any _ _ w (elt256 (rtN_lt a)) (elt256 (rtN_lt a))
 have HL : Hid (a < 2 ^ 256 ∧ rtN a * rtN a % fP < 2 ^ 256) := ⟨elt256 ha, mod_lt256 _⟩
 have hr9 := rtN_lt a
 have HE : Hid (decide (rtN a * rtN a % fP = a) = !true) := decide_eq_false h
 generalize rtN a * rtN a % fP = q at *
 generalize rtN a = r at *
 clear ha h hr9
 have V0 := Vars.start w
 go_enter Tryz.func57, Tryz.ntmps57
 go_wp2_with (first
  | (refine wpList_boxV V0 1 22 _ rfl rfl rfl (bA a) rfl ?_; intro w1 g2 V3)
  | (refine zA V3 2 rfl rfl rfl ?_; intro w4 g5 V6)
  | (refine zD V6 1 rfl 7 _ rfl rfl rfl rfl ?_))
 refine (HA.out w4).mono ?_
 rintro e w7 ⟨rfl, q9⟩
 have V8 := V6.call q9
 clear q9 V6
 go_wp2_with (refine zD V8 1 rfl 11 _ rfl rfl rfl rfl ?_)
 refine (RA.out w7).mono ?_
 rintro e w10 ⟨rfl, q12⟩
 have V11 := V8.call q12
 clear q12 V8
 go_wp2_with (first
  | (refine wpList_allocV V11 5 82 rfl rfl rfl (wA 0) zeroW ?_; intro w13 g14 V15)
  | (refine wpList_storeV V15 0 rfl _ (.tmp 12) rfl rfl rfl (wA a) rfl rfl Tryz.szW (wA_size _) (wA_size _) (wA_one _) ?_; intro w16 V17)
  | (refine wpList_loadV V17 0 rfl 13 _ rfl rfl rfl rfl Tryz.underlying82 Tryz.szW (wA_size _) ?_))
 refine (HR.out w16).mono ?_
 rintro e w18 ⟨rfl, q20⟩
 have V19 := V17.call q20
 clear q20 V17
 go_wp2_with (first
  | (refine wpList_allocV V19 6 82 rfl rfl rfl (wA 0) zeroW ?_; intro w21 g22 V23)
  | (refine wpList_storeV V23 0 rfl _ (.tmp 14) rfl rfl rfl (wA r) rfl rfl Tryz.szW (wA_size _) (wA_size _) (wA_one _) ?_; intro w24 V25))
 refine av_open (fun w' => Vars w w' [⟨g22, 82, wA r⟩, ⟨g14, 82, wA a⟩, ⟨g5, 22, bA 0⟩, ⟨g2, 22, bA a⟩]) (by kernel_rfl) ?_
 have V26 := V25.drew
 refine zR [0, 1, 3] 2 (by kernel_rfl) (fun _ _ _ _ _ h => h) V26 fun K hK => ?_
 refine zC (.agg (wA r)) rfl (by rfl) (fun w' hw' => exec_loadV hw' 0 rfl _ rfl rfl Tryz.underlying82 Tryz.szW (wA_size _)) ?_
 go_simp
 refine zC (.agg (wA r)) rfl (by rfl) (fun w' hw' => exec_loadV hw' 0 rfl _ rfl rfl Tryz.underlying82 Tryz.szW (wA_size _)) ?_
 go_simp
 refine zC (.agg (wA a)) rfl (by rfl) (fun w' hw' => exec_loadV hw' 1 rfl _ rfl rfl Tryz.underlying82 Tryz.szW (wA_size _)) ?_
 go_simp
 refine calm_nil (hK.out _ ?_)
 clear hK K
 refine zO 2 1 (by kernel_rfl) rfl (by rfl) fun K hK => ?_
 go_simp
 refine (HQ.out w24.drew).mono ?_
 rintro e w27 ⟨rfl, q29⟩
 have V28 := V26.call q29
 refine hK _ _ (V28) ?_
 clear hK K q29
 refine zR [4] 0 (by kernel_rfl) (fun _ _ _ _ _ h => h) V28 fun K hK => ?_
 go_simp
 refine zC (.bool true) rfl (by rfl) (fun w' hw' => exec_neqW _ _ rfl true _ _ HE.out rfl rfl HL.out.2 HL.out.1) ?_
 go_simp
 refine calm_nil (hK.out _ ?_)
 clear hK K
 refine wpAnyH_done (by kernel_rfl) ?_ _
 go_wp2_with (first
  | (refine wpList_buildV 20 22 _ rfl rfl rfl (bA 0) bA_num0 ?_)
  | (refine zL V28 2 rfl _ (.tmp 20) rfl rfl rfl 0 rfl rfl ?_; intro w30 V31))
 exact bodyPost_ret (resV3 rfl _ V31 2 rfl rfl Tryz.underlying22 Tryz.szB (bA_size _)) rfl ⟨rfl, V31.bel⟩
theorem word0 {r : Nat} : r / 18446744073709551616 ^ 0 % 18446744073709551616 % 2 = r % 2 := by rw [Nat.pow_zero, Nat.div_one, Nat.mod_mod_of_dvd _ (by decide)]
set_option maxHeartbeats 1600000 in
theorem fRoot_gen (a q r nr x0 ev : Nat) (w : World) (HA : Hid (∀ w, Rt Tryz.prog 25 #[.agg (bA a)] (.bool true) w))
  (RA : Hid (∀ w, Calls Tryz.prog 54 #[.agg (bA a)] w fun e w' => e = .returned (.agg (wA a)) ∧ Below w.heap.size w w'))
  (HR : Hid (∀ w, Rt Tryz.prog 95 #[.agg (wA a)] (.agg (wA r)) w))
  (HQ : Hid (∀ w, Rt Tryz.prog 96 #[.agg (wA r), .agg (wA r)] (.agg (wA q)) w))
  (HL : Hid (a < 2 ^ 256 ∧ q < 2 ^ 256)) (HE : Hid (decide (q = a) = !false))
  (HG : Hid (∀ w, Rt Tryz.prog 97 #[.agg (wA r)] (.agg (wA nr)) w))
  (HW : Hid (∀ (w' : World) (g : Nat), w'.heap[g]? = some (.cells (wA r) 82 (0, 0)) → w'.cell? ⟨g, 0, none⟩ = some (.int .u64 (x0 : Int)))) (hw9 : x0 < 18446744073709551616) (HV : Hid (ev = if x0 % 2 = 1 then nr else r)) :
  Calls Tryz.prog 57 #[.agg (bA a)] w fun e w' => e = .returned (.tuple #[.agg (bA ev), .bool true, .int .i64 0]) ∧ Below w.heap.size w w' := by
 have ea : bits .and .u64 (x0 : Int) 1 = ((x0 % 2 : Nat) : Int) := by
  have h := bits_and_u64_nat x0 1 (by omega) (by decide)
  rw [show x0 &&& 1 = x0 % 2 from Nat.and_two_pow_sub_one_eq_mod _ 1] at h
  exact h
 have hx2 : x0 % 2 < 2 := Nat.mod_lt _ (by decide)
 generalize x0 % 2 = lb at *
 by_cases hb : lb = 1
 ·subst hb
  obtain rfl : ev = nr := HV.out
  have V0 := Vars.start w
  go_enter Tryz.func57, Tryz.ntmps57
  go_wp2_with (first
   | (refine wpList_boxV V0 1 22 _ rfl rfl rfl (bA a) rfl ?_; intro w1 g2 V3)
   | (refine zA V3 2 rfl rfl rfl ?_; intro w4 g5 V6)
   | (refine zD V6 1 rfl 7 _ rfl rfl rfl rfl ?_))
  refine (HA.out w4).mono ?_
  rintro e w7 ⟨rfl, q9⟩
  have V8 := V6.call q9
  clear q9 V6
  go_wp2_with (refine zD V8 1 rfl 11 _ rfl rfl rfl rfl ?_)
  refine (RA.out w7).mono ?_
  rintro e w10 ⟨rfl, q12⟩
  have V11 := V8.call q12
  clear q12 V8
  go_wp2_with (first
   | (refine wpList_allocV V11 5 82 rfl rfl rfl (wA 0) zeroW ?_; intro w13 g14 V15)
   | (refine wpList_storeV V15 0 rfl _ (.tmp 12) rfl rfl rfl (wA a) rfl rfl Tryz.szW (wA_size _) (wA_size _) (wA_one _) ?_; intro w16 V17)
   | (refine wpList_loadV V17 0 rfl 13 _ rfl rfl rfl rfl Tryz.underlying82 Tryz.szW (wA_size _) ?_))
  refine (HR.out w16).mono ?_
  rintro e w18 ⟨rfl, q20⟩
  have V19 := V17.call q20
  clear q20 V17
  go_wp2_with (first
   | (refine wpList_allocV V19 6 82 rfl rfl rfl (wA 0) zeroW ?_; intro w21 g22 V23)
   | (refine wpList_storeV V23 0 rfl _ (.tmp 14) rfl rfl rfl (wA r) rfl rfl Tryz.szW (wA_size _) (wA_size _) (wA_one _) ?_; intro w24 V25))
  refine av_open (fun w' => Vars w w' [⟨g22, 82, wA r⟩, ⟨g14, 82, wA a⟩, ⟨g5, 22, bA 0⟩, ⟨g2, 22, bA a⟩]) (by kernel_rfl) ?_
  have V26 := V25.drew
  refine zR [0, 1, 3] 2 (by kernel_rfl) (fun _ _ _ _ _ h => h) V26 fun K hK => ?_
  refine zC (.agg (wA r)) rfl (by rfl) (fun w' hw' => exec_loadV hw' 0 rfl _ rfl rfl Tryz.underlying82 Tryz.szW (wA_size _)) ?_
  go_simp
  refine zC (.agg (wA r)) rfl (by rfl) (fun w' hw' => exec_loadV hw' 0 rfl _ rfl rfl Tryz.underlying82 Tryz.szW (wA_size _)) ?_
  go_simp
  refine zC (.agg (wA a)) rfl (by rfl) (fun w' hw' => exec_loadV hw' 1 rfl _ rfl rfl Tryz.underlying82 Tryz.szW (wA_size _)) ?_
  go_simp
  refine calm_nil (hK.out _ ?_)
  clear hK K
  refine zO 2 1 (by kernel_rfl) rfl (by rfl) fun K hK => ?_
  go_simp
  refine (HQ.out w24.drew).mono ?_
  rintro e w27 ⟨rfl, q29⟩
  have V28 := V26.call q29
  refine hK _ _ (V28) ?_
  clear hK K q29
  refine zR [4] 0 (by kernel_rfl) (fun _ _ _ _ _ h => h) V28 fun K hK => ?_
  go_simp
  refine zC (.bool false) rfl (by rfl) (fun w' hw' => exec_neqW _ _ rfl false _ _ HE.out rfl rfl HL.out.2 HL.out.1) ?_
  go_simp
  refine calm_nil (hK.out _ ?_)
  clear hK K
  refine wpAnyH_done (by kernel_rfl) ?_ _
  have hc0 := HW.out _ g22 (V28.at 0 rfl)
  go_wp2_with (refine wpList_loadV V28 0 rfl 25 _ rfl rfl rfl rfl Tryz.underlying82 Tryz.szW (wA_size _) ?_)
  refine (HG.out w27).mono ?_
  rintro e w30 ⟨rfl, q32⟩
  have V31 := V28.call q32
  clear q32 V28
  go_wp2_with (first
   | (refine wpList_storeV V31 0 rfl _ (.tmp 26) rfl rfl rfl (wA ev) rfl rfl Tryz.szW (wA_size _) (wA_size _) (wA_one _) ?_; intro w33 V34)
   | (refine wpList_loadV V34 0 rfl 27 _ rfl rfl rfl rfl Tryz.underlying82 Tryz.szW (wA_size _) ?_))
  refine (told_any ev w33).mono ?_
  rintro e w35 ⟨rfl, q37⟩
  have V36 := V34.call q37
  clear q37 V34
  go_wp2_with (refine zL V36 2 rfl _ (.tmp 28) rfl rfl rfl ev rfl rfl ?_; intro w38 V39)
  exact bodyPost_ret (resV3 rfl _ V39 2 rfl rfl Tryz.underlying22 Tryz.szB (bA_size _)) rfl ⟨rfl, V39.bel⟩
 ·obtain rfl : lb = 0 := by omega
  obtain rfl : ev = r := HV.out
  have V0 := Vars.start w
  go_enter Tryz.func57, Tryz.ntmps57
  go_wp2_with (first
   | (refine wpList_boxV V0 1 22 _ rfl rfl rfl (bA a) rfl ?_; intro w1 g2 V3)
   | (refine zA V3 2 rfl rfl rfl ?_; intro w4 g5 V6)
   | (refine zD V6 1 rfl 7 _ rfl rfl rfl rfl ?_))
  refine (HA.out w4).mono ?_
  rintro e w7 ⟨rfl, q9⟩
  have V8 := V6.call q9
  clear q9 V6
  go_wp2_with (refine zD V8 1 rfl 11 _ rfl rfl rfl rfl ?_)
  refine (RA.out w7).mono ?_
  rintro e w10 ⟨rfl, q12⟩
  have V11 := V8.call q12
  clear q12 V8
  go_wp2_with (first
   | (refine wpList_allocV V11 5 82 rfl rfl rfl (wA 0) zeroW ?_; intro w13 g14 V15)
   | (refine wpList_storeV V15 0 rfl _ (.tmp 12) rfl rfl rfl (wA a) rfl rfl Tryz.szW (wA_size _) (wA_size _) (wA_one _) ?_; intro w16 V17)
   | (refine wpList_loadV V17 0 rfl 13 _ rfl rfl rfl rfl Tryz.underlying82 Tryz.szW (wA_size _) ?_))
  refine (HR.out w16).mono ?_
  rintro e w18 ⟨rfl, q20⟩
  have V19 := V17.call q20
  clear q20 V17
  go_wp2_with (first
   | (refine wpList_allocV V19 6 82 rfl rfl rfl (wA 0) zeroW ?_; intro w21 g22 V23)
   | (refine wpList_storeV V23 0 rfl _ (.tmp 14) rfl rfl rfl (wA ev) rfl rfl Tryz.szW (wA_size _) (wA_size _) (wA_one _) ?_; intro w24 V25))
  refine av_open (fun w' => Vars w w' [⟨g22, 82, wA ev⟩, ⟨g14, 82, wA a⟩, ⟨g5, 22, bA 0⟩, ⟨g2, 22, bA a⟩]) (by kernel_rfl) ?_
  have V26 := V25.drew
  refine zR [0, 1, 3] 2 (by kernel_rfl) (fun _ _ _ _ _ h => h) V26 fun K hK => ?_
  refine zC (.agg (wA ev)) rfl (by rfl) (fun w' hw' => exec_loadV hw' 0 rfl _ rfl rfl Tryz.underlying82 Tryz.szW (wA_size _)) ?_
  go_simp
  refine zC (.agg (wA ev)) rfl (by rfl) (fun w' hw' => exec_loadV hw' 0 rfl _ rfl rfl Tryz.underlying82 Tryz.szW (wA_size _)) ?_
  go_simp
  refine zC (.agg (wA a)) rfl (by rfl) (fun w' hw' => exec_loadV hw' 1 rfl _ rfl rfl Tryz.underlying82 Tryz.szW (wA_size _)) ?_
  go_simp
  refine calm_nil (hK.out _ ?_)
  clear hK K
  refine zO 2 1 (by kernel_rfl) rfl (by rfl) fun K hK => ?_
  go_simp
  refine (HQ.out w24.drew).mono ?_
  rintro e w27 ⟨rfl, q29⟩
  have V28 := V26.call q29
  refine hK _ _ (V28) ?_
  clear hK K q29
  refine zR [4] 0 (by kernel_rfl) (fun _ _ _ _ _ h => h) V28 fun K hK => ?_
  go_simp
  refine zC (.bool false) rfl (by rfl) (fun w' hw' => exec_neqW _ _ rfl false _ _ HE.out rfl rfl HL.out.2 HL.out.1) ?_
  go_simp
  refine calm_nil (hK.out _ ?_)
  clear hK K
  refine wpAnyH_done (by kernel_rfl) ?_ _
  have hc0 := HW.out _ g22 (V28.at 0 rfl)
  go_wp2_with (refine wpList_loadV V28 0 rfl 27 _ rfl rfl rfl rfl Tryz.underlying82 Tryz.szW (wA_size _) ?_)
  refine (told_any ev w27).mono ?_
  rintro e w30 ⟨rfl, q32⟩
  have V31 := V28.call q32
  clear q32 V28
  go_wp2_with (refine zL V31 2 rfl _ (.tmp 28) rfl rfl rfl ev rfl rfl ?_; intro w33 V34)
  exact bodyPost_ret (resV3 rfl _ V34 2 rfl rfl Tryz.underlying22 Tryz.szB (bA_size _)) rfl ⟨rfl, V34.bel⟩
theorem fRoot_yes (a : Nat) (w : World) (ha : a < fP) (h : rtN a * rtN a % fP = a) : Calls Tryz.prog 57 #[.agg (bA a)] w fun e w' => e = .returned (.tuple #[.agg (bA (evN (rtN a))), .bool true, .int .i64 0]) ∧ Below w.heap.size w w' := by
 have hR := fun w => root_any a w ha
 have hr9 := rtN_lt a
 generalize rtN a = r at *
 exact fRoot_gen a (r * r % fP) r (fP - r) (r / 18446744073709551616 ^ 0 % 18446744073709551616) (evN r) w (fun w => is_yes ha w) (fun w => read_any a (elt256 ha) w) hR (fun w => product_any _ _ w (elt256 hr9) (elt256 hr9)) ⟨elt256 ha, mod_lt256 _⟩ (decide_eq_true h) (fun w => negative_any _ w (Nat.le_of_lt hr9))
  (fun w' g hw' => by rw [cell_of_row w' _ _ _ _ _ hw', wA_get _ 0 (by decide)]) (Nat.mod_lt _ (by decide)) (by rw [word0]; exact evN_def r)
end Go.Proofs.YthangiocheodoaaGreatDoor.N

/-
 Layer 16, in plain words: what root makes of a square is a root of it.
-/
namespace Go.Proofs.YthangiocheodoaaGreatDoor.N
set_option linter.unusedVariables false
set_option maxRecDepth 8192

theorem nat_congr {x y : Nat} (p : Nat) (h : x % p = y % p) : ∃ k : Int, (x : Int) = (y : Int) + (p : Int) * k := by
 refine ⟨(x / p : Nat) - (y / p : Nat), ?_⟩
 have h1 := Nat.div_add_mod x p
 have h2 := Nat.div_add_mod y p
 have h3 : (x : Int) = (p : Int) * ((x / p : Nat) : Int) + ((x % p : Nat) : Int) := by rw [← Int.natCast_mul, ← Int.natCast_add, h1]
 have h4 : (y : Int) = (p : Int) * ((y / p : Nat) : Int) + ((y % p : Nat) : Int) := by rw [← Int.natCast_mul, ← Int.natCast_add, h2]
 rw [Int.mul_sub, h]at *
 omega
theorem half_two : 2 ^ ((fP - 1) / 2) % fP = fP - 1 := by
 generalize ht : 2 ^ ((fP - 1) / 2) % fP = t
 have htl : t < fP := by rw [← ht]; exact mod_fP _
 have h1 : t * t % fP = 1 * 1 % fP := by
  rw [← ht, ← Nat.mul_mod, ← Nat.pow_add, show (fP - 1) / 2 + (fP - 1) / 2 = fP - 1 from by decide, genP.full]
  decide
 rcases sq_like htl fP_one h1 with h2 | h2
 ·exact absurd (ht.trans h2) (genP.first _ (by decide) (by decide))
 ·omega
/-- The power (p - 1) / 2 of what is no square. -/
theorem noneuler {a : Nat} (h : a % fP ≠ 0) (hr : ¬ HasRoot a) : a ^ ((fP - 1) / 2) % fP = fP - 1 := by
 obtain ⟨k, hk, hka⟩ := two_pow a h
 have hodd : k % 2 = 1 := by
  rcases Nat.mod_two_eq_zero_or_one k with h1 | h1
  ·exact absurd (root_of_even hka h1) hr
  ·exact h1
 rw [← pow_modP, ← hka, pow_modP, ← Nat.pow_mul, Nat.mul_comm, Nat.pow_mul, ← pow_modP, half_two]
 obtain ⟨j, rfl⟩ : ∃ j, k = 2 * j + 1 := ⟨k / 2, by omega⟩
 have h1 : (fP - 1) ^ 2 % fP = 1 := by rw [Nat.pow_two]; decide
 rw [Nat.pow_succ, Nat.mul_mod, pow_mod_one j h1 fP_one, Nat.one_mul, Nat.mod_mod, Nat.mod_eq_of_lt (by decide)]
theorem root_square {a v i N : Nat} (ha : a < fP) (hi : i % fP = (2 * a * v * v) % fP) (h2 : i * i % fP = fP - 1) (hN : N % fP = (a * v * (i + (fP - 1))) % fP) : N * N % fP = a := by
 obtain ⟨k, hk⟩ := nat_congr fP hi
 obtain ⟨m, hm⟩ := nat_congr fP (x := i * i + 1) (y := 0) (by rw [Nat.add_mod, h2, Nat.zero_mod]; decide)
 obtain ⟨n, hn⟩ := nat_congr fP hN
 have hone : ((fP - 1 : Nat) : Int) = (fP : Int) - 1 := by have := fP_pos; omega
 simp only [Int.natCast_mul, Int.natCast_add, hone, Int.cast_ofNat_Int] at hk hm hn
 have key : ∀ (p a v i N k m n : Int), i = 2 * a * v * v + p * k → i * i + 1 = 0 + p * m → N = a * v * (i + (p - 1)) + p * n → N * N = a + p * (m * a * a * v * v - a * m + a * i * k + 2 * (a * v * (i - 1)) * (a * v + n) + p * (a * v + n) * (a * v + n)) := by
  intro p a v i N k m n h1 h2 h3
  subst h3
  have h4 : i * i = p * m - 1 := by omega
  grind
 have hk2 := key _ _ _ _ _ _ _ _ hk hm hn
 have h5 : ((N * N : Nat) : Int) % (fP : Int) = (a : Int) := by
  rw [Int.natCast_mul, hk2, Int.add_mul_emod_self_left]
  exact Int.emod_eq_of_lt (by omega) (by omega)
 omega
theorem rtI_pow (a : Nat) : rtI a = (2 * a) ^ ((fP - 1) / 4) % fP := by
 have e : rtV a * rtV a % fP = ((a + a) % fP) ^ ((fP - 5) / 8 + (fP - 5) / 8) % fP := by unfold rtV; rw [← Nat.mul_mod, ← Nat.pow_add]
 unfold rtI
 rw [e, ← pow_modP (2 * a), Nat.two_mul]
 generalize (a + a) % fP = d
 rw [show (fP - 1) / 4 = (fP - 5) / 8 + (fP - 5) / 8 + 1 from by decide]
 generalize (fP - 5) / 8 + (fP - 5) / 8 = n
 rw [Nat.mul_mod, Nat.mod_mod, ← Nat.mul_mod, ← Nat.pow_succ']
theorem rtI_sq {a : Nat} (h : (2 * a) % fP ≠ 0) (hr : ¬ HasRoot (2 * a)) : rtI a * rtI a % fP = fP - 1 := by
 rw [rtI_pow, ← Nat.mul_mod, ← Nat.pow_add, show (fP - 1) / 4 + (fP - 1) / 4 = (fP - 1) / 2 from by decide]
 exact noneuler h hr
theorem rtN_zero {a : Nat} (h : a = 0) : rtN a = 0 := by
 unfold rtN
 generalize rtV a = v
 generalize rtI a = i
 rw [h, Nat.zero_mul, Nat.zero_mod, Nat.zero_mul, Nat.zero_mod]
theorem rtN_sq {a : Nat} (ha : a < fP) (hr : HasRoot a) : rtN a * rtN a % fP = a := by
 by_cases h0 : a = 0
 ·rw [rtN_zero h0, Nat.mul_zero, Nat.zero_mod, h0]
 ·have h1 : a % fP ≠ 0 := by rw [Nat.mod_eq_of_lt ha]; exact h0
  have h2 : ¬ HasRoot (2 * a) := (root_one h1).1 hr
  have h3 : (2 * a) % fP ≠ 0 := genP.mul_ne (by decide) h1
  refine root_square ha (v := rtV a) (i := rtI a) ?_ (rtI_sq h3 h2) ?_
  ·unfold rtI
   generalize rtV a = v
   rw [Nat.mod_mod, ← Nat.mul_mod, Nat.mul_assoc (2 * a), Nat.two_mul]
  ·unfold rtN
   generalize rtV a = v
   generalize rtI a = i
   rw [Nat.mod_mod, ← Nat.mul_mod]
theorem root_iff {a : Nat} (ha : a < fP) : rtN a * rtN a % fP = a ↔ HasRoot a :=
 ⟨fun h => ⟨rtN a, by rw [h, Nat.mod_eq_of_lt ha]⟩, fun h => rtN_sq ha h⟩
theorem evN_lt {r : Nat} (h : r < fP) : evN r < fP := by
 rw [evN_def]
 split
 ·omega
 ·exact h
theorem evN_even {r : Nat} (h : r < fP) : evN r % 2 = 0 := by
 rw [evN_def]
 have := fP_odd
 split <;> omega
theorem evN_sq {r : Nat} (h : r < fP) : evN r * evN r % fP = r * r % fP := by
 rw [evN_def]
 split
 ·exact sq_neg (Nat.le_of_lt h)
 ·rfl
/-- The even root of a square. -/
theorem root_of {r : Nat} (h : r < fP) : evN (rtN (r * r % fP)) = evN r := by
 have ha : r * r % fP < fP := mod_fP _
 have hr : HasRoot (r * r % fP) := ⟨r, by rw [Nat.mod_mod]⟩
 have h1 := rtN_sq ha hr
 have hl := rtN_lt (r * r % fP)
 generalize rtN (r * r % fP) = s at *
 exact even_unique (evN_lt hl) (evN_lt h) (evN_even hl) (evN_even h) (by rw [evN_sq hl, evN_sq h, h1])
theorem root_of' {r a : Nat} (h : r < fP) (ha : r * r % fP = a) : evN (rtN a) = evN r := by rw [← ha]; exact root_of h
end Go.Proofs.YthangiocheodoaaGreatDoor.N
