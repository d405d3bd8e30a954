/-
  The code of layer 16 (field): both, Add, Sub, Mul, Inv, root, Root.
-/
import Derived.Test.YtgofapndgjfnhaaDoorFieldCode6
namespace Go.Proofs.YtgofapndgjfnhaaDoor.N
open Go.RowKit
set_option linter.unusedVariables false
set_option maxRecDepth 8192

theorem elt256 {a : Nat} (h : a < fP) : a < 2 ^ 256 := Nat.lt_trans h fP_lt256
/-- What root makes of a, and its steps. -/
def rtV (a : Nat) : Nat := ((a + a) % fP) ^ ((fP - 5) / 8) % fP
def rtI (a : Nat) : Nat := ((a + a) % fP) * (rtV a * rtV a % fP) % fP
def rtN (a : Nat) : Nat := (a * rtV a % fP) * ((rtI a + (fP - 1)) % fP) % fP
/-- The even one of r and what it lacks to p. -/
def evN (r : Nat) : Nat := if r % 2 = 1 then fP - r else r
theorem evN_def (r : Nat) : evN r = if r % 2 = 1 then fP - r else r := rfl
theorem rtV_lt (a : Nat) : rtV a < fP := mod_fP _
theorem rtI_lt (a : Nat) : rtI a < fP := mod_fP _
theorem rtN_lt (a : Nat) : rtN a < fP := mod_fP _
theorem bA_num0 : Tryd.prog.built 23 [] = some (bA 0) := by rw [bA_zero]; kernel_rfl
theorem is_yes {a : Nat} (h : a < fP) (w : World) : Calls Tryd.prog 36 #[.agg (bA a)] w fun e w' => e = .returned (.bool true) ∧ Below w.heap.size w w' := by
  have := is_any a w (elt256 h)
  rwa [decide_eq_true h] at this
theorem is_no {a : Nat} (ha : a < 2 ^ 256) (h : ¬ a < fP) (w : World) : Calls Tryd.prog 36 #[.agg (bA a)] w fun e w' => e = .returned (.bool false) ∧ Below w.heap.size w w' := by
  have := is_any a w ha
  rwa [decide_eq_false h] at this
set_option maxHeartbeats 800000 in
theorem both_no1 (a b F : Nat) (w : World) (ha : a < 2 ^ 256) (hna : ¬ a < fP) : Calls Tryd.prog 75 #[.agg (bA a), .agg (bA b), .func (.func F) #[] #[]] w fun e w' => e = .returned (.tuple #[.agg (bA 0), .int .i64 1]) ∧ Below w.heap.size w w' := by
  have HA : Hid (∀ w, Calls Tryd.prog 36 #[.agg (bA a)] w fun e w' => e = .returned (.bool false) ∧ Below w.heap.size w w') := fun w => is_no ha hna w
  clear ha hna
  have V0 := Vars.start w
  go_enter Tryd.func75, Tryd.ntmps75
  go_wp2_with (first
    | (refine wpList_boxV V0 3 23 _ rfl rfl rfl (bA a) rfl ?_; intro w1 g2 V3)
    | (refine wpList_boxV V3 4 23 _ rfl rfl rfl (bA b) rfl ?_; intro w4 g5 V6)
    | (refine wpList_allocV V6 6 23 rfl rfl rfl (bA 0) zeroB ?_; intro w7 g8 V9)
    | (refine wpList_loadV V9 2 rfl 8 _ rfl rfl rfl rfl Tryd.underlying23 Tryd.szB (bA_size _) ?_))
  refine (HA.out w7).mono ?_
  rintro e w10 ⟨rfl, q12⟩
  have V11 := V9.call q12
  clear q12 V9
  go_wp2_with (first
    | (refine wpList_buildV 16 23 _ rfl rfl rfl (bA 0) bA_num0 ?_)
    | (refine wpList_storeV V11 0 rfl _ (.tmp 16) rfl rfl rfl (bA 0) rfl rfl Tryd.szB (bA_size _) (bA_size _) (bA_one _) ?_; intro w13 V14))
  exact bodyPost_ret (resV2 rfl _ V14 0 rfl rfl Tryd.underlying23 Tryd.szB (bA_size _)) rfl ⟨rfl, V14.bel⟩
set_option maxHeartbeats 800000 in
theorem both_no2 (a b F : Nat) (w : World) (ha : a < fP) (hb : b < 2 ^ 256) (hnb : ¬ b < fP) : Calls Tryd.prog 75 #[.agg (bA a), .agg (bA b), .func (.func F) #[] #[]] w fun e w' => e = .returned (.tuple #[.agg (bA 0), .int .i64 1]) ∧ Below w.heap.size w w' := by
  have HA : Hid (∀ w, Calls Tryd.prog 36 #[.agg (bA a)] w fun e w' => e = .returned (.bool true) ∧ Below w.heap.size w w') := fun w => is_yes ha w
  have HB : Hid (∀ w, Calls Tryd.prog 36 #[.agg (bA b)] w fun e w' => e = .returned (.bool false) ∧ Below w.heap.size w w') := fun w => is_no hb hnb w
  clear ha hb hnb
  have V0 := Vars.start w
  go_enter Tryd.func75, Tryd.ntmps75
  go_wp2_with (first
    | (refine wpList_boxV V0 3 23 _ rfl rfl rfl (bA a) rfl ?_; intro w1 g2 V3)
    | (refine wpList_boxV V3 4 23 _ rfl rfl rfl (bA b) rfl ?_; intro w4 g5 V6)
    | (refine wpList_allocV V6 6 23 rfl rfl rfl (bA 0) zeroB ?_; intro w7 g8 V9)
    | (refine wpList_loadV V9 2 rfl 8 _ rfl rfl rfl rfl Tryd.underlying23 Tryd.szB (bA_size _) ?_))
  refine (HA.out w7).mono ?_
  rintro e w10 ⟨rfl, q12⟩
  have V11 := V9.call q12
  clear q12 V9
  go_wp2_with (refine wpList_loadV V11 1 rfl 12 _ rfl rfl rfl rfl Tryd.underlying23 Tryd.szB (bA_size _) ?_)
  refine (HB.out w10).mono ?_
  rintro e w13 ⟨rfl, q15⟩
  have V14 := V11.call q15
  clear q15 V11
  go_wp2_with (first
    | (refine wpList_buildV 16 23 _ rfl rfl rfl (bA 0) bA_num0 ?_)
    | (refine wpList_storeV V14 0 rfl _ (.tmp 16) rfl rfl rfl (bA 0) rfl rfl Tryd.szB (bA_size _) (bA_size _) (bA_one _) ?_; intro w16 V17))
  exact bodyPost_ret (resV2 rfl _ V17 0 rfl rfl Tryd.underlying23 Tryd.szB (bA_size _)) rfl ⟨rfl, V17.bel⟩
set_option maxHeartbeats 1600000 in
theorem both_yes (a b r : Nat) (F : FuncId) (w : World) (ha : a < fP) (hb : b < fP) (hF : ∀ w, Calls Tryd.prog F #[.agg (wA a), .agg (wA b)] w fun e w' => e = .returned (.agg (wA r)) ∧ Below w.heap.size w w') (hcall : ∀ args w, Sem.run Tryd.prog (callFunc F args) w = .ok (.enter F args) w) :
    Calls Tryd.prog 75 #[.agg (bA a), .agg (bA b), .func (.func F) #[] #[]] w fun e w' => e = .returned (.tuple #[.agg (bA r), .int .i64 0]) ∧ Below w.heap.size w w' := by
  have HA : Hid (∀ w, Calls Tryd.prog 36 #[.agg (bA a)] w fun e w' => e = .returned (.bool true) ∧ Below w.heap.size w w') := fun w => is_yes ha w
  have HB : Hid (∀ w, Calls Tryd.prog 36 #[.agg (bA b)] w fun e w' => e = .returned (.bool true) ∧ Below w.heap.size w w') := fun w => is_yes hb w
  have RA : Hid (∀ w, Calls Tryd.prog 56 #[.agg (bA a)] w fun e w' => e = .returned (.agg (wA a)) ∧ Below w.heap.size w w') := fun w => read_any a (elt256 ha) w
  have RB : Hid (∀ w, Calls Tryd.prog 56 #[.agg (bA b)] w fun e w' => e = .returned (.agg (wA b)) ∧ Below w.heap.size w w') := fun w => read_any b (elt256 hb) w
  have HF : Hid (∀ w, Calls Tryd.prog F #[.agg (wA a), .agg (wA b)] w fun e w' => e = .returned (.agg (wA r)) ∧ Below w.heap.size w w') := hF
  clear ha hb hF
  have V0 := Vars.start w
  go_enter Tryd.func75, Tryd.ntmps75
  go_wp2_with (first
    | (refine wpList_boxV V0 3 23 _ rfl rfl rfl (bA a) rfl ?_; intro w1 g2 V3)
    | (refine wpList_boxV V3 4 23 _ rfl rfl rfl (bA b) rfl ?_; intro w4 g5 V6)
    | (refine wpList_allocV V6 6 23 rfl rfl rfl (bA 0) zeroB ?_; intro w7 g8 V9)
    | (refine wpList_loadV V9 2 rfl 8 _ rfl rfl rfl rfl Tryd.underlying23 Tryd.szB (bA_size _) ?_))
  refine (HA.out w7).mono ?_
  rintro e w10 ⟨rfl, q12⟩
  have V11 := V9.call q12
  clear q12 V9
  go_wp2_with (refine wpList_loadV V11 1 rfl 12 _ rfl rfl rfl rfl Tryd.underlying23 Tryd.szB (bA_size _) ?_)
  refine (HB.out w10).mono ?_
  rintro e w13 ⟨rfl, q15⟩
  have V14 := V11.call q15
  clear q15 V11
  go_wp2_with fail
  refine av_open (fun w' => Vars w w' [⟨g5, 23, bA b⟩, ⟨g2, 23, bA a⟩]) (by kernel_rfl) ?_
  have V16 := V14.drew
  refine held_reads (rs := [0, 1, 3]) (fuel := 6) (by kernel_rfl) (fun c d v a w h => by cases d <;> exact h) (by kernel_rfl) (V16.tail) (fun K hK => ?_)
  refine calm_move _ rfl (by rfl) rfl ?_
  go_simp
  refine calm_do (.agg (bA a)) rfl (by rfl) (fun w' hw' => exec_loadV hw' 1 rfl _ rfl rfl Tryd.underlying23 Tryd.szB (bA_size _)) ?_
  go_simp
  refine calm_do (.agg (bA b)) rfl (by rfl) (fun w' hw' => exec_loadV hw' 0 rfl _ rfl rfl Tryd.underlying23 Tryd.szB (bA_size _)) ?_
  go_simp
  refine calm_nil (hK.out _ ?_)
  clear hK K
  refine av_op (i := 2) (fuel := 5) (by kernel_rfl) rfl (by rfl) (fun K hK => ?_)
  go_simp
  refine (RA.out w13.drew).mono ?_
  rintro e w17 ⟨rfl, q19⟩
  have V18 := V16.call q19
  refine hK _ _ (V18.tail) ?_
  clear hK K q19
  refine av_op (i := 4) (fuel := 4) (by kernel_rfl) rfl (by rfl) (fun K hK => ?_)
  go_simp
  refine (RB.out w17).mono ?_
  rintro e w20 ⟨rfl, q22⟩
  have V21 := V18.call q22
  refine hK _ _ (V21.tail) ?_
  clear hK K q22
  refine av_op (i := 5) (fuel := 3) (by kernel_rfl) rfl (by rfl) (fun K hK => ?_)
  go_simp
  refine (HF.out w20).mono ?_
  rintro e w23 ⟨rfl, q25⟩
  have V24 := V21.call q25
  refine hK _ _ (V24.tail) ?_
  clear hK K q25
  refine av_op (i := 6) (fuel := 2) (by kernel_rfl) rfl (by rfl) (fun K hK => ?_)
  go_simp
  refine (told_any r w23).mono ?_
  rintro e w26 ⟨rfl, q28⟩
  have V27 := V24.call q28
  refine hK _ _ (V27.tail) ?_
  clear hK K q28
  refine av_op (i := 7) (fuel := 1) (by kernel_rfl) rfl (by rfl) (fun K hK => ?_)
  refine wp_storeV V27 0 rfl _ _ rfl rfl (bA r) rfl rfl Tryd.szB (bA_size _) (bA_size _) (bA_one _) (fun w29 V30 => ?_)
  refine hK _ _ (V30.tail) ?_
  clear hK K
  refine held_reads (rs := [8]) (fuel := 0) (by kernel_rfl) (fun c d v a w h => by cases d <;> exact h) (by kernel_rfl) (V30.tail) (fun K hK => ?_)
  go_simp
  refine calm_assign _ rfl (by rfl) rfl ?_
  go_simp
  refine calm_nil (hK.out _ ?_)
  clear hK K
  refine wpAnyH_done (by kernel_rfl) ?_ _
  go_wp2_with fail
  exact bodyPost_ret (resV2 rfl _ V30 0 rfl rfl Tryd.underlying23 Tryd.szB (bA_size _)) rfl ⟨rfl, V30.bel⟩
set_option maxHeartbeats 800000 in
theorem fAdd_yes (a b : Nat) (w : World) (ha : a < fP) (hb : b < fP) : Calls Tryd.prog 60 #[.agg (bA a), .agg (bA b)] w fun e w' => e = .returned (.tuple #[.agg (bA ((a + b) % fP)), .int .i64 0]) ∧ Below w.heap.size w w' := by
  have HB : Hid (∀ w, Calls Tryd.prog 75 #[.agg (bA a), .agg (bA b), .func (.func 77) #[] #[]] w fun e w' => e = .returned (.tuple #[.agg (bA ((a + b) % fP)), .int .i64 0]) ∧ Below w.heap.size w w') := fun w => both_yes a b _ _ w ha hb (fun w => sum_any a b w (by omega)) (fun _ _ => rfl)
  generalize (a + b) % fP = r at *
  clear ha hb
  have V0 := Vars.start w
  go_enter Tryd.func60, Tryd.ntmps60
  go_wp2_with (first
    | (refine wpList_boxV V0 2 23 _ rfl rfl rfl (bA a) rfl ?_; intro w1 g2 V3)
    | (refine wpList_boxV V3 3 23 _ rfl rfl rfl (bA b) rfl ?_; intro w4 g5 V6)
    | (refine wpList_allocV V6 4 23 rfl rfl rfl (bA 0) zeroB ?_; intro w7 g8 V9)
    | (refine wpList_loadV V9 2 rfl 6 _ rfl rfl rfl rfl Tryd.underlying23 Tryd.szB (bA_size _) ?_)
    | (refine wpList_loadV V9 1 rfl 7 _ rfl rfl rfl rfl Tryd.underlying23 Tryd.szB (bA_size _) ?_))
  refine (HB.out w7).mono ?_
  rintro e w10 ⟨rfl, q12⟩
  have V11 := V9.call q12
  clear q12 V9
  go_wp2_with (refine wpList_storeV V11 0 rfl _ (.tmp 9) rfl rfl rfl (bA r) rfl rfl Tryd.szB (bA_size _) (bA_size _) (bA_one _) ?_; intro w13 V14)
  exact bodyPost_ret (resV2 rfl _ V14 0 rfl rfl Tryd.underlying23 Tryd.szB (bA_size _)) rfl ⟨rfl, V14.bel⟩
set_option maxHeartbeats 800000 in
theorem fAdd_no (a b : Nat) (w : World) (ha : a < 2 ^ 256) (hb : b < 2 ^ 256) (h : ¬ (a < fP ∧ b < fP)) : Calls Tryd.prog 60 #[.agg (bA a), .agg (bA b)] w fun e w' => e = .returned (.tuple #[.agg (bA 0), .int .i64 1]) ∧ Below w.heap.size w w' := by
  have HB : Hid (∀ w, Calls Tryd.prog 75 #[.agg (bA a), .agg (bA b), .func (.func 77) #[] #[]] w fun e w' => e = .returned (.tuple #[.agg (bA 0), .int .i64 1]) ∧ Below w.heap.size w w') := fun w => by
    by_cases h1 : a < fP
    · exact both_no2 a b _ w h1 hb (fun h2 => h ⟨h1, h2⟩)
    · exact both_no1 a b _ w ha h1
  clear ha hb h
  have V0 := Vars.start w
  go_enter Tryd.func60, Tryd.ntmps60
  go_wp2_with (first
    | (refine wpList_boxV V0 2 23 _ rfl rfl rfl (bA a) rfl ?_; intro w1 g2 V3)
    | (refine wpList_boxV V3 3 23 _ rfl rfl rfl (bA b) rfl ?_; intro w4 g5 V6)
    | (refine wpList_allocV V6 4 23 rfl rfl rfl (bA 0) zeroB ?_; intro w7 g8 V9)
    | (refine wpList_loadV V9 2 rfl 6 _ rfl rfl rfl rfl Tryd.underlying23 Tryd.szB (bA_size _) ?_)
    | (refine wpList_loadV V9 1 rfl 7 _ rfl rfl rfl rfl Tryd.underlying23 Tryd.szB (bA_size _) ?_))
  refine (HB.out w7).mono ?_
  rintro e w10 ⟨rfl, q12⟩
  have V11 := V9.call q12
  clear q12 V9
  go_wp2_with (refine wpList_storeV V11 0 rfl _ (.tmp 9) rfl rfl rfl (bA 0) rfl rfl Tryd.szB (bA_size _) (bA_size _) (bA_one _) ?_; intro w13 V14)
  exact bodyPost_ret (resV2 rfl _ V14 0 rfl rfl Tryd.underlying23 Tryd.szB (bA_size _)) rfl ⟨rfl, V14.bel⟩
set_option maxHeartbeats 800000 in
theorem fSub_yes (a b : Nat) (w : World) (ha : a < fP) (hb : b < fP) : Calls Tryd.prog 59 #[.agg (bA a), .agg (bA b)] w fun e w' => e = .returned (.tuple #[.agg (bA ((a + (fP - b)) % fP)), .int .i64 0]) ∧ Below w.heap.size w w' := by
  have HB : Hid (∀ w, Calls Tryd.prog 75 #[.agg (bA a), .agg (bA b), .func (.func 76) #[] #[]] w fun e w' => e = .returned (.tuple #[.agg (bA ((a + (fP - b)) % fP)), .int .i64 0]) ∧ Below w.heap.size w w') := fun w => both_yes a b _ _ w ha hb (fun w => difference_any a b w ha (Nat.le_of_lt hb)) (fun _ _ => rfl)
  generalize (a + (fP - b)) % fP = r at *
  clear ha hb
  have V0 := Vars.start w
  go_enter Tryd.func59, Tryd.ntmps59
  go_wp2_with (first
    | (refine wpList_boxV V0 2 23 _ rfl rfl rfl (bA a) rfl ?_; intro w1 g2 V3)
    | (refine wpList_boxV V3 3 23 _ rfl rfl rfl (bA b) rfl ?_; intro w4 g5 V6)
    | (refine wpList_allocV V6 4 23 rfl rfl rfl (bA 0) zeroB ?_; intro w7 g8 V9)
    | (refine wpList_loadV V9 2 rfl 6 _ rfl rfl rfl rfl Tryd.underlying23 Tryd.szB (bA_size _) ?_)
    | (refine wpList_loadV V9 1 rfl 7 _ rfl rfl rfl rfl Tryd.underlying23 Tryd.szB (bA_size _) ?_))
  refine (HB.out w7).mono ?_
  rintro e w10 ⟨rfl, q12⟩
  have V11 := V9.call q12
  clear q12 V9
  go_wp2_with (refine wpList_storeV V11 0 rfl _ (.tmp 9) rfl rfl rfl (bA r) rfl rfl Tryd.szB (bA_size _) (bA_size _) (bA_one _) ?_; intro w13 V14)
  exact bodyPost_ret (resV2 rfl _ V14 0 rfl rfl Tryd.underlying23 Tryd.szB (bA_size _)) rfl ⟨rfl, V14.bel⟩
set_option maxHeartbeats 800000 in
theorem fSub_no (a b : Nat) (w : World) (ha : a < 2 ^ 256) (hb : b < 2 ^ 256) (h : ¬ (a < fP ∧ b < fP)) : Calls Tryd.prog 59 #[.agg (bA a), .agg (bA b)] w fun e w' => e = .returned (.tuple #[.agg (bA 0), .int .i64 1]) ∧ Below w.heap.size w w' := by
  have HB : Hid (∀ w, Calls Tryd.prog 75 #[.agg (bA a), .agg (bA b), .func (.func 76) #[] #[]] w fun e w' => e = .returned (.tuple #[.agg (bA 0), .int .i64 1]) ∧ Below w.heap.size w w') := fun w => by
    by_cases h1 : a < fP
    · exact both_no2 a b _ w h1 hb (fun h2 => h ⟨h1, h2⟩)
    · exact both_no1 a b _ w ha h1
  clear ha hb h
  have V0 := Vars.start w
  go_enter Tryd.func59, Tryd.ntmps59
  go_wp2_with (first
    | (refine wpList_boxV V0 2 23 _ rfl rfl rfl (bA a) rfl ?_; intro w1 g2 V3)
    | (refine wpList_boxV V3 3 23 _ rfl rfl rfl (bA b) rfl ?_; intro w4 g5 V6)
    | (refine wpList_allocV V6 4 23 rfl rfl rfl (bA 0) zeroB ?_; intro w7 g8 V9)
    | (refine wpList_loadV V9 2 rfl 6 _ rfl rfl rfl rfl Tryd.underlying23 Tryd.szB (bA_size _) ?_)
    | (refine wpList_loadV V9 1 rfl 7 _ rfl rfl rfl rfl Tryd.underlying23 Tryd.szB (bA_size _) ?_))
  refine (HB.out w7).mono ?_
  rintro e w10 ⟨rfl, q12⟩
  have V11 := V9.call q12
  clear q12 V9
  go_wp2_with (refine wpList_storeV V11 0 rfl _ (.tmp 9) rfl rfl rfl (bA 0) rfl rfl Tryd.szB (bA_size _) (bA_size _) (bA_one _) ?_; intro w13 V14)
  exact bodyPost_ret (resV2 rfl _ V14 0 rfl rfl Tryd.underlying23 Tryd.szB (bA_size _)) rfl ⟨rfl, V14.bel⟩
set_option maxHeartbeats 800000 in
theorem fMul_yes (a b : Nat) (w : World) (ha : a < fP) (hb : b < fP) : Calls Tryd.prog 58 #[.agg (bA a), .agg (bA b)] w fun e w' => e = .returned (.tuple #[.agg (bA (a * b % fP)), .int .i64 0]) ∧ Below w.heap.size w w' := by
  have HB : Hid (∀ w, Calls Tryd.prog 75 #[.agg (bA a), .agg (bA b), .func (.func 72) #[] #[]] w fun e w' => e = .returned (.tuple #[.agg (bA (a * b % fP)), .int .i64 0]) ∧ Below w.heap.size w w') := fun w => both_yes a b _ _ w ha hb (fun w => product_any a b w (elt256 ha) (elt256 hb)) (fun _ _ => rfl)
  generalize a * b % fP = r at *
  clear ha hb
  have V0 := Vars.start w
  go_enter Tryd.func58, Tryd.ntmps58
  go_wp2_with (first
    | (refine wpList_boxV V0 2 23 _ rfl rfl rfl (bA a) rfl ?_; intro w1 g2 V3)
    | (refine wpList_boxV V3 3 23 _ rfl rfl rfl (bA b) rfl ?_; intro w4 g5 V6)
    | (refine wpList_allocV V6 4 23 rfl rfl rfl (bA 0) zeroB ?_; intro w7 g8 V9)
    | (refine wpList_loadV V9 2 rfl 6 _ rfl rfl rfl rfl Tryd.underlying23 Tryd.szB (bA_size _) ?_)
    | (refine wpList_loadV V9 1 rfl 7 _ rfl rfl rfl rfl Tryd.underlying23 Tryd.szB (bA_size _) ?_))
  refine (HB.out w7).mono ?_
  rintro e w10 ⟨rfl, q12⟩
  have V11 := V9.call q12
  clear q12 V9
  go_wp2_with (refine wpList_storeV V11 0 rfl _ (.tmp 9) rfl rfl rfl (bA r) rfl rfl Tryd.szB (bA_size _) (bA_size _) (bA_one _) ?_; intro w13 V14)
  exact bodyPost_ret (resV2 rfl _ V14 0 rfl rfl Tryd.underlying23 Tryd.szB (bA_size _)) rfl ⟨rfl, V14.bel⟩
set_option maxHeartbeats 800000 in
theorem fMul_no (a b : Nat) (w : World) (ha : a < 2 ^ 256) (hb : b < 2 ^ 256) (h : ¬ (a < fP ∧ b < fP)) : Calls Tryd.prog 58 #[.agg (bA a), .agg (bA b)] w fun e w' => e = .returned (.tuple #[.agg (bA 0), .int .i64 1]) ∧ Below w.heap.size w w' := by
  have HB : Hid (∀ w, Calls Tryd.prog 75 #[.agg (bA a), .agg (bA b), .func (.func 72) #[] #[]] w fun e w' => e = .returned (.tuple #[.agg (bA 0), .int .i64 1]) ∧ Below w.heap.size w w') := fun w => by
    by_cases h1 : a < fP
    · exact both_no2 a b _ w h1 hb (fun h2 => h ⟨h1, h2⟩)
    · exact both_no1 a b _ w ha h1
  clear ha hb h
  have V0 := Vars.start w
  go_enter Tryd.func58, Tryd.ntmps58
  go_wp2_with (first
    | (refine wpList_boxV V0 2 23 _ rfl rfl rfl (bA a) rfl ?_; intro w1 g2 V3)
    | (refine wpList_boxV V3 3 23 _ rfl rfl rfl (bA b) rfl ?_; intro w4 g5 V6)
    | (refine wpList_allocV V6 4 23 rfl rfl rfl (bA 0) zeroB ?_; intro w7 g8 V9)
    | (refine wpList_loadV V9 2 rfl 6 _ rfl rfl rfl rfl Tryd.underlying23 Tryd.szB (bA_size _) ?_)
    | (refine wpList_loadV V9 1 rfl 7 _ rfl rfl rfl rfl Tryd.underlying23 Tryd.szB (bA_size _) ?_))
  refine (HB.out w7).mono ?_
  rintro e w10 ⟨rfl, q12⟩
  have V11 := V9.call q12
  clear q12 V9
  go_wp2_with (refine wpList_storeV V11 0 rfl _ (.tmp 9) rfl rfl rfl (bA 0) rfl rfl Tryd.szB (bA_size _) (bA_size _) (bA_one _) ?_; intro w13 V14)
  exact bodyPost_ret (resV2 rfl _ V14 0 rfl rfl Tryd.underlying23 Tryd.szB (bA_size _)) rfl ⟨rfl, V14.bel⟩
set_option maxHeartbeats 800000 in
theorem fInv_no (a : Nat) (w : World) (ha : a < 2 ^ 256) (h : ¬ a < fP) : Calls Tryd.prog 53 #[.agg (bA a)] w fun e w' => e = .returned (.tuple #[.agg (bA 0), .int .i64 1]) ∧ Below w.heap.size w w' := by
  have HA : Hid (∀ w, Calls Tryd.prog 36 #[.agg (bA a)] w fun e w' => e = .returned (.bool false) ∧ Below w.heap.size w w') := fun w => is_no ha h w
  clear ha h
  have V0 := Vars.start w
  go_enter Tryd.func53, Tryd.ntmps53
  go_wp2_with (first
    | (refine wpList_boxV V0 1 23 _ rfl rfl rfl (bA a) rfl ?_; intro w1 g2 V3)
    | (refine wpList_allocV V3 2 23 rfl rfl rfl (bA 0) zeroB ?_; intro w4 g5 V6)
    | (refine wpList_loadV V6 1 rfl 4 _ rfl rfl rfl rfl Tryd.underlying23 Tryd.szB (bA_size _) ?_))
  refine (HA.out w4).mono ?_
  rintro e w7 ⟨rfl, q9⟩
  have V8 := V6.call q9
  clear q9 V6
  go_wp2_with (first
    | (refine wpList_buildV 7 23 _ rfl rfl rfl (bA 0) bA_num0 ?_)
    | (refine wpList_storeV V8 0 rfl _ (.tmp 7) rfl rfl rfl (bA 0) rfl rfl Tryd.szB (bA_size _) (bA_size _) (bA_one _) ?_; intro w10 V11))
  exact bodyPost_ret (resV2 rfl _ V11 0 rfl rfl Tryd.underlying23 Tryd.szB (bA_size _)) rfl ⟨rfl, V11.bel⟩
set_option maxHeartbeats 800000 in
theorem fInv_zero (w : World) : Calls Tryd.prog 53 #[.agg (bA 0)] w fun e w' => e = .returned (.tuple #[.agg (bA 0), .int .i64 20]) ∧ Below w.heap.size w w' := by
  have HA : Hid (∀ w, Calls Tryd.prog 36 #[.agg (bA 0)] w fun e w' => e = .returned (.bool true) ∧ Below w.heap.size w w') := fun w => is_yes fP_pos w
  have V0 := Vars.start w
  go_enter Tryd.func53, Tryd.ntmps53
  go_wp2_with (first
    | (refine wpList_boxV V0 1 23 _ rfl rfl rfl (bA 0) rfl ?_; intro w1 g2 V3)
    | (refine wpList_allocV V3 2 23 rfl rfl rfl (bA 0) zeroB ?_; intro w4 g5 V6)
    | (refine wpList_loadV V6 1 rfl 4 _ rfl rfl rfl rfl Tryd.underlying23 Tryd.szB (bA_size _) ?_))
  refine (HA.out w4).mono ?_
  rintro e w7 ⟨rfl, q9⟩
  have V8 := V6.call q9
  clear q9 V6
  go_wp2_with (first
    | (refine wpList_loadV V8 1 rfl 8 _ rfl rfl rfl rfl Tryd.underlying23 Tryd.szB (bA_size _) ?_)
    | (refine wpList_buildV 9 23 _ rfl rfl rfl (bA 0) bA_num0 ?_)
    | (refine wpList_exec rfl (exec_eqlB _ _ rfl true _ _ rfl rfl rfl (Nat.two_pow_pos 256) (Nat.two_pow_pos 256)) ?_)
    | (refine wpList_buildV 11 23 _ rfl rfl rfl (bA 0) bA_num0 ?_)
    | (refine wpList_storeV V8 0 rfl _ (.tmp 11) rfl rfl rfl (bA 0) rfl rfl Tryd.szB (bA_size _) (bA_size _) (bA_one _) ?_; intro w10 V11))
  exact bodyPost_ret (resV2 rfl _ V11 0 rfl rfl Tryd.underlying23 Tryd.szB (bA_size _)) rfl ⟨rfl, V11.bel⟩
set_option maxHeartbeats 1600000 in
theorem fInv_yes (a : Nat) (w : World) (ha : a < fP) (h0 : a ≠ 0) : Calls Tryd.prog 53 #[.agg (bA a)] w fun e w' => e = .returned (.tuple #[.agg (bA (a ^ (fP - 2) % fP)), .int .i64 0]) ∧ Below w.heap.size w w' := by
  have HA : Hid (∀ w, Calls Tryd.prog 36 #[.agg (bA a)] w fun e w' => e = .returned (.bool true) ∧ Below w.heap.size w w') := fun w => is_yes ha w
  have RA : Hid (∀ w, Calls Tryd.prog 56 #[.agg (bA a)] w fun e w' => e = .returned (.agg (wA a)) ∧ Below w.heap.size w w') := fun w => read_any a (elt256 ha) w
  have HE : Hid (decide (a = 0) = false) := decide_eq_false h0
  have HL : Hid (a < 2 ^ 256) := elt256 ha
  have HP : Hid (∀ (w : World) (g : Nat), w.heap[g]? = some (.cells (wA a) 70 (0, 0)) → Calls Tryd.prog 68 #[.agg (wA (fP - 2)), .func (.func 79) #[] #[.pointer (some ⟨g, 0, none⟩)]] w fun e w' => e = .returned (.agg (wA (a ^ (fP - 2) % fP))) ∧ Below w.heap.size w w') :=
    fun w g hg => power_any (fP - 2) a g w (Nat.lt_of_le_of_lt (Nat.sub_le _ _) fP_lt256) (elt256 ha) hg
  have HU : Hid (∀ w, Calls Tryd.prog 69 #[.int .i64 255, .int .u64 21] w fun e w' => e = .returned (.agg (wA (fP - 2))) ∧ Below w.heap.size w w') := under_p2
  generalize a ^ (fP - 2) % fP = r at *
  generalize fP - 2 = n2 at *
  clear ha h0
  have V0 := Vars.start w
  go_enter Tryd.func53, Tryd.ntmps53
  go_wp2_with (first
    | (refine wpList_boxV V0 1 23 _ rfl rfl rfl (bA a) rfl ?_; intro w1 g2 V3)
    | (refine wpList_allocV V3 2 23 rfl rfl rfl (bA 0) zeroB ?_; intro w4 g5 V6)
    | (refine wpList_loadV V6 1 rfl 4 _ rfl rfl rfl rfl Tryd.underlying23 Tryd.szB (bA_size _) ?_))
  refine (HA.out w4).mono ?_
  rintro e w7 ⟨rfl, q9⟩
  have V8 := V6.call q9
  clear q9 V6
  go_wp2_with (first
    | (refine wpList_loadV V8 1 rfl 8 _ rfl rfl rfl rfl Tryd.underlying23 Tryd.szB (bA_size _) ?_)
    | (refine wpList_buildV 9 23 _ rfl rfl rfl (bA 0) bA_num0 ?_)
    | (refine wpList_exec rfl (exec_eqlB _ _ rfl false _ _ HE.out rfl rfl HL.out (Nat.two_pow_pos 256)) ?_))
  refine av_open (fun w' => Vars w w' [⟨g2, 23, bA a⟩]) (by kernel_rfl) ?_
  have V10 := V8.drew
  refine held_reads (rs := [1]) (fuel := 7) (by kernel_rfl) (fun c d v a w h => by cases d <;> exact h) (by kernel_rfl) (V10.tail) (fun K hK => ?_)
  refine calm_do (.agg (bA a)) rfl (by rfl) (fun w' hw' => exec_loadV hw' 0 rfl _ rfl rfl Tryd.underlying23 Tryd.szB (bA_size _)) ?_
  go_simp
  refine calm_nil (hK.out _ ?_)
  clear hK K
  refine av_op (i := 0) (fuel := 6) (by kernel_rfl) rfl (by rfl) (fun K hK => ?_)
  go_simp
  refine (HU.out w7.drew).mono ?_
  rintro e w11 ⟨rfl, q13⟩
  have V12 := V10.call q13
  refine hK _ _ (V12.tail) ?_
  clear hK K q13
  refine av_op (i := 2) (fuel := 5) (by kernel_rfl) rfl (by rfl) (fun K hK => ?_)
  go_simp
  refine (RA.out w11).mono ?_
  rintro e w14 ⟨rfl, q16⟩
  have V15 := V12.call q16
  refine hK _ _ (V15.tail) ?_
  clear hK K q16
  refine av_op (i := 3) (fuel := 4) (by kernel_rfl) rfl (by rfl) (fun K hK => ?_)
  go_simp
  refine (times_any a w14).mono ?_
  rintro e w17 ⟨g20, rfl, hg, hh, q19⟩
  have V18 := V15.made q19 hg hh
  refine hK _ _ (V18.tail.tail) ?_
  clear hK K hg hh q19
  refine av_op (i := 4) (fuel := 3) (by kernel_rfl) rfl (by rfl) (fun K hK => ?_)
  go_simp
  refine (HP.out w17 g20 (V18.at 0 rfl)).mono ?_
  rintro e w21 ⟨rfl, q23⟩
  have V22 := V18.call q23
  refine hK _ _ (V22.tail.tail) ?_
  clear hK K q23
  refine av_op (i := 5) (fuel := 2) (by kernel_rfl) rfl (by rfl) (fun K hK => ?_)
  go_simp
  refine (told_any r w21).mono ?_
  rintro e w24 ⟨rfl, q26⟩
  have V25 := V22.call q26
  refine hK _ _ (V25.tail.tail) ?_
  clear hK K q26
  refine av_op (i := 6) (fuel := 1) (by kernel_rfl) rfl (by rfl) (fun K hK => ?_)
  refine wp_storeV V25 1 rfl _ _ rfl rfl (bA r) rfl rfl Tryd.szB (bA_size _) (bA_size _) (bA_one _) (fun w27 V28 => ?_)
  refine hK _ _ (V28.tail.tail) ?_
  clear hK K
  refine held_reads (rs := [7]) (fuel := 0) (by kernel_rfl) (fun c d v a w h => by cases d <;> exact h) (by kernel_rfl) (V28.tail.tail) (fun K hK => ?_)
  go_simp
  refine calm_assign _ rfl (by rfl) rfl ?_
  go_simp
  refine calm_nil (hK.out _ ?_)
  clear hK K
  refine wpAnyH_done (by kernel_rfl) ?_ _
  go_wp2_with fail
  exact bodyPost_ret (resV2 rfl _ V28 1 rfl rfl Tryd.underlying23 Tryd.szB (bA_size _)) rfl ⟨rfl, V28.bel⟩
end Go.Proofs.YtgofapndgjfnhaaDoor.N
