/-
  Layer 17's laws: Laws.
-/
import Derived.Test.YtacicjnhpklkfaaDoorCurveFace
namespace Go.Proofs.YtacicjnhpklkfaaDoor.N
open Go.RowKit
set_option linter.unusedVariables false
set_option maxRecDepth 8192

set_option maxHeartbeats 800000 in
theorem laws_long0 (w : World) (pa : Option Addr) (la ka : Nat) (pb : Option Addr) (lb kb : Nat) (pc : Option Addr) (lc kc : Nat) (hl : 40 < la) : Calls Tryd.prog 5 #[.slice pa la ka, .slice pb lb kb, .slice pc lc kc] w fun e w' => e = .returned (.bool true) ∧ Below w.heap.size w w' := by
  have hl9 : (40 : Int) < (la : Int) := by omega
  have V0 := Vars.start w
  go_enter Tryd.func5, Tryd.ntmps5
  go_wp2_with fail
  go_ret
  exact ⟨rfl, V0.bel⟩
set_option maxHeartbeats 800000 in
theorem laws_long1 (w : World) (pa : Option Addr) (la ka : Nat) (pb : Option Addr) (lb kb : Nat) (pc : Option Addr) (lc kc : Nat) (hl : 40 < lb) (h0 : la ≤ 40) : Calls Tryd.prog 5 #[.slice pa la ka, .slice pb lb kb, .slice pc lc kc] w fun e w' => e = .returned (.bool true) ∧ Below w.heap.size w w' := by
  have hl9 : (40 : Int) < (lb : Int) := by omega
  have hl09 : ¬ (40 : Int) < (la : Int) := by omega
  have V0 := Vars.start w
  go_enter Tryd.func5, Tryd.ntmps5
  go_wp2_with fail
  go_ret
  exact ⟨rfl, V0.bel⟩
set_option maxHeartbeats 800000 in
theorem laws_long2 (w : World) (pa : Option Addr) (la ka : Nat) (pb : Option Addr) (lb kb : Nat) (pc : Option Addr) (lc kc : Nat) (hl : 40 < lc) (h0 : la ≤ 40) (h1 : lb ≤ 40) : Calls Tryd.prog 5 #[.slice pa la ka, .slice pb lb kb, .slice pc lc kc] w fun e w' => e = .returned (.bool true) ∧ Below w.heap.size w w' := by
  have hl9 : (40 : Int) < (lc : Int) := by omega
  have hl09 : ¬ (40 : Int) < (la : Int) := by omega
  have hl19 : ¬ (40 : Int) < (lb : Int) := by omega
  have V0 := Vars.start w
  go_enter Tryd.func5, Tryd.ntmps5
  go_wp2_with fail
  go_ret
  exact ⟨rfl, V0.bel⟩
set_option maxHeartbeats 6400000 in
theorem laws_core (a : List Nat) (da : Dig a) (pa : Option Addr) (la ka : Nat) (b : List Nat) (db : Dig b) (pb : Option Addr) (lb kb : Nat) (c : List Nat) (dc : Dig c) (pc : Option Addr) (lc kc : Nat) (w : World) (hd : DAt w) (ra : Row .u8 w pa la ka (nI a)) (rb : Row .u8 w pb lb kb (nI b)) (rc : Row .u8 w pc lc kc (nI c)) (h0 : la ≤ 40) (h1 : lb ≤ 40) (h2 : lc ≤ 40) : Calls Tryd.prog 5 #[.slice pa la ka, .slice pb lb kb, .slice pc lc kc] w fun e w' => e = .returned (.bool true) ∧ Below w.heap.size w w' := by
  obtain ⟨p, hp⟩ : ∃ p, p = ptimes (vL a) pbase := ⟨_, rfl⟩
  have op : OnC p := by rw [hp]; exact ptimes_on pbase_on _
  have HPp : Hid (∀ w', DAt w' → Below w.heap.size w w' → Calls Tryd.prog 18 #[.slice pa la ka] w' fun e w'' => e = .returned (.agg (pA p.x.val p.y.val)) ∧ Below w'.heap.size w' w'') := fun w' hd q => by
    rw [hp]
    exact point17_any a da pa la ka w' hd (ra.below q (Nat.le_refl _)) (by omega)
  obtain ⟨q, hq⟩ : ∃ p, p = ptimes (vL b) pbase := ⟨_, rfl⟩
  have oq : OnC q := by rw [hq]; exact ptimes_on pbase_on _
  have HPq : Hid (∀ w', DAt w' → Below w.heap.size w w' → Calls Tryd.prog 18 #[.slice pb lb kb] w' fun e w'' => e = .returned (.agg (pA q.x.val q.y.val)) ∧ Below w'.heap.size w' w'') := fun w' hd q => by
    rw [hq]
    exact point17_any b db pb lb kb w' hd (rb.below q (Nat.le_refl _)) (by omega)
  obtain ⟨r, hr⟩ : ∃ p, p = ptimes (vL c) pbase := ⟨_, rfl⟩
  have orr : OnC r := by rw [hr]; exact ptimes_on pbase_on _
  have HPr : Hid (∀ w', DAt w' → Below w.heap.size w w' → Calls Tryd.prog 18 #[.slice pc lc kc] w' fun e w'' => e = .returned (.agg (pA r.x.val r.y.val)) ∧ Below w'.heap.size w' w'') := fun w' hd q => by
    rw [hr]
    exact point17_any c dc pc lc kc w' hd (rc.below q (Nat.le_refl _)) (by omega)
  have HN : Hid (∀ w, DAt w → Calls Tryd.prog 11 #[.agg (pA p.x.val p.y.val)] w fun e w' => e = .returned (.tuple #[.agg (pA (pneg p).x.val (pneg p).y.val), .int .i64 0]) ∧ Below w.heap.size w w') := fun w hd => cNeg_yes op w hd
  have A1 : Hid (∀ w, DAt w → Calls Tryd.prog 21 #[.agg (pA p.x.val p.y.val), .agg (pA q.x.val q.y.val)] w fun e w' => e = .returned (.agg (pA (psum p q).x.val (psum p q).y.val)) ∧ Below w.heap.size w w') := fun w hd => ladd17_any op oq w hd
  have A2 : Hid (∀ w, DAt w → Calls Tryd.prog 21 #[.agg (pA q.x.val q.y.val), .agg (pA p.x.val p.y.val)] w fun e w' => e = .returned (.agg (pA (psum p q).x.val (psum p q).y.val)) ∧ Below w.heap.size w w') := fun w hd => by rw [psum_comm op oq]; exact ladd17_any oq op w hd
  have A3 : Hid (∀ w, DAt w → Calls Tryd.prog 21 #[.agg (pA (psum p q).x.val (psum p q).y.val), .agg (pA r.x.val r.y.val)] w fun e w' => e = .returned (.agg (pA (psum (psum p q) r).x.val (psum (psum p q) r).y.val)) ∧ Below w.heap.size w w') := fun w hd => ladd17_any (psum_on op oq) orr w hd
  have A4 : Hid (∀ w, DAt w → Calls Tryd.prog 21 #[.agg (pA q.x.val q.y.val), .agg (pA r.x.val r.y.val)] w fun e w' => e = .returned (.agg (pA (psum q r).x.val (psum q r).y.val)) ∧ Below w.heap.size w w') := fun w hd => ladd17_any oq orr w hd
  have A5 : Hid (∀ w, DAt w → Calls Tryd.prog 21 #[.agg (pA p.x.val p.y.val), .agg (pA (psum q r).x.val (psum q r).y.val)] w fun e w' => e = .returned (.agg (pA (psum (psum p q) r).x.val (psum (psum p q) r).y.val)) ∧ Below w.heap.size w w') := fun w hd => by rw [psum_assoc op oq orr]; exact ladd17_any op (psum_on oq orr) w hd
  have A6 : Hid (∀ w, DAt w → Calls Tryd.prog 21 #[.agg (pA p.x.val p.y.val), .agg (pA 0 1)] w fun e w' => e = .returned (.agg (pA p.x.val p.y.val)) ∧ Below w.heap.size w w') := fun w hd => by have h := ladd17_any op pzero_on w hd; rw [psum_zero op] at h; exact h
  have A7 : Hid (∀ w, DAt w → Calls Tryd.prog 21 #[.agg (pA p.x.val p.y.val), .agg (pA (pneg p).x.val (pneg p).y.val)] w fun e w' => e = .returned (.agg (pA 0 1)) ∧ Below w.heap.size w w') := fun w hd => by have h := ladd17_any op (pneg_on op) w hd; rw [psum_neg op] at h; exact h
  have L1 : Hid ((psum p q).x.val < 2 ^ 256 ∧ (psum p q).y.val < 2 ^ 256) := pt256 _
  have L2 : Hid ((psum (psum p q) r).x.val < 2 ^ 256 ∧ (psum (psum p q) r).y.val < 2 ^ 256) := pt256 _
  have L3 : Hid (p.x.val < 2 ^ 256 ∧ p.y.val < 2 ^ 256) := pt256 _
  have hl09 : ¬ (40 : Int) < (la : Int) := by omega
  have hl19 : ¬ (40 : Int) < (lb : Int) := by omega
  have hl29 : ¬ (40 : Int) < (lc : Int) := by omega
  clear hp op hq oq hr orr da db dc ra rb rc h0 h1 h2
  generalize (psum (psum p q) r).x.val = sx at *
  generalize (psum (psum p q) r).y.val = sy at *
  generalize (psum p q).x.val = mx at *
  generalize (psum p q).y.val = my at *
  generalize (psum q r).x.val = kx at *
  generalize (psum q r).y.val = ky at *
  generalize (pneg p).x.val = nx at *
  generalize (pneg p).y.val = ny at *
  generalize p.x.val = px at *
  generalize p.y.val = py at *
  generalize q.x.val = qx at *
  generalize q.y.val = qy at *
  generalize r.x.val = rx at *
  generalize r.y.val = ry at *
  have V0 := Vars.start w
  go_enter Tryd.func5, Tryd.ntmps5
  go_wp2_with fail
  refine (HPp.out w (hd.of V0) V0.bel).mono ?_
  rintro e w1 ⟨rfl, q3⟩
  have V2 := V0.call q3
  clear q3 V0
  go_wp2_with (first
    | (refine wpList_allocV V2 7 24 rfl rfl rfl (pA 0 0) zeroP ?_; intro w4 g5 V6)
    | (refine wpList_storeV V6 0 rfl _ (.tmp 26) rfl rfl rfl (pA px py) rfl rfl Tryd.szP (pA_size _ _) (pA_size _ _) (pA_one _ _) ?_; intro w7 V8))
  refine (HPq.out w7 (hd.of V8) V8.bel).mono ?_
  rintro e w9 ⟨rfl, q11⟩
  have V10 := V8.call q11
  clear q11 V8
  go_wp2_with (first
    | (refine wpList_allocV V10 8 24 rfl rfl rfl (pA 0 0) zeroP ?_; intro w12 g13 V14)
    | (refine wpList_storeV V14 0 rfl _ (.tmp 28) rfl rfl rfl (pA qx qy) rfl rfl Tryd.szP (pA_size _ _) (pA_size _ _) (pA_one _ _) ?_; intro w15 V16))
  refine (HPr.out w15 (hd.of V16) V16.bel).mono ?_
  rintro e w17 ⟨rfl, q19⟩
  have V18 := V16.call q19
  clear q19 V16
  go_wp2_with (first
    | (refine wpList_allocV V18 9 24 rfl rfl rfl (pA 0 0) zeroP ?_; intro w20 g21 V22)
    | (refine wpList_storeV V22 0 rfl _ (.tmp 30) rfl rfl rfl (pA rx ry) rfl rfl Tryd.szP (pA_size _ _) (pA_size _ _) (pA_one _ _) ?_; intro w23 V24)
    | (refine wpList_exec rfl (exec_loadS V24 2 rfl _ rfl rfl Tryd.underlying24 Tryd.szP (pA_size _ _)) ?_))
  refine (HN.out w23 (hd.of V24)).mono ?_
  rintro e w25 ⟨rfl, q27⟩
  have V26 := V24.call q27
  clear q27 V24
  go_wp2_with (first
    | (refine wpList_allocV V26 10 24 rfl rfl rfl (pA 0 0) zeroP ?_; intro w28 g29 V30)
    | (refine wpList_storeV V30 0 rfl _ (.tmp 34) rfl rfl rfl (pA nx ny) rfl rfl Tryd.szP (pA_size _ _) (pA_size _ _) (pA_one _ _) ?_; intro w31 V32))
  refine av_open (fun w' => Vars w w' [⟨g29, 24, pA nx ny⟩, ⟨g21, 24, pA rx ry⟩, ⟨g13, 24, pA qx qy⟩, ⟨g5, 24, pA px py⟩]) (by kernel_rfl) ?_
  have V33 := V32.drew
  refine av_op (i := 0) (fuel := 41) (by kernel_rfl) rfl (by rfl) (fun K hK => ?_)
  go_simp
  refine (awake17_any w31.drew (hd.of V33)).mono ?_
  rintro e w34 ⟨rfl, q36⟩
  have V35 := V33.call q36
  refine hK _ _ (V35) ?_
  clear hK K q36
  refine held_reads (rs := [1, 2, 3, 4, 5, 6, 7, 9, 10]) (fuel := 32) (by kernel_rfl) (fun c d v a w h => by cases d <;> exact h) (by kernel_rfl) (V35) (fun K hK => ?_)
  go_simp
  refine calm_move _ rfl (by rfl) rfl ?_
  go_simp
  refine calm_move _ rfl (by rfl) rfl ?_
  go_simp
  refine calm_do (.bool true) rfl (by rfl) (fun w' hw' => ?_) ?_
  · go_simp
  go_simp
  refine calm_do (.bool true) rfl (by rfl) (fun w' hw' => ?_) ?_
  · go_simp
  go_simp
  refine calm_move _ rfl (by rfl) rfl ?_
  go_simp
  refine calm_do (.agg (pA px py)) rfl (by rfl) (fun w' hw' => exec_loadS hw' 3 rfl _ rfl rfl Tryd.underlying24 Tryd.szP (pA_size _ _)) ?_
  go_simp
  refine calm_do (.agg (pA qx qy)) rfl (by rfl) (fun w' hw' => exec_loadS hw' 2 rfl _ rfl rfl Tryd.underlying24 Tryd.szP (pA_size _ _)) ?_
  go_simp
  refine calm_do (.agg (pA qx qy)) rfl (by rfl) (fun w' hw' => exec_loadS hw' 2 rfl _ rfl rfl Tryd.underlying24 Tryd.szP (pA_size _ _)) ?_
  go_simp
  refine calm_do (.agg (pA px py)) rfl (by rfl) (fun w' hw' => exec_loadS hw' 3 rfl _ rfl rfl Tryd.underlying24 Tryd.szP (pA_size _ _)) ?_
  go_simp
  refine calm_nil (hK.out _ ?_)
  clear hK K
  refine av_op (i := 8) (fuel := 31) (by kernel_rfl) rfl (by rfl) (fun K hK => ?_)
  go_simp
  refine (A1.out w34 (hd.of V35)).mono ?_
  rintro e w37 ⟨rfl, q39⟩
  have V38 := V35.call q39
  refine hK _ _ (V38) ?_
  clear hK K q39
  refine av_op (i := 11) (fuel := 30) (by kernel_rfl) rfl (by rfl) (fun K hK => ?_)
  go_simp
  refine (A2.out w37 (hd.of V38)).mono ?_
  rintro e w40 ⟨rfl, q42⟩
  have V41 := V38.call q42
  refine hK _ _ (V41) ?_
  clear hK K q42
  refine held_reads (rs := [12, 13, 14, 15, 16, 18, 20, 21, 22]) (fuel := 21) (by kernel_rfl) (fun c d v a w h => by cases d <;> exact h) (by kernel_rfl) (V41) (fun K hK => ?_)
  go_simp
  refine calm_do (.bool true) rfl (by rfl) (fun w' hw' => exec_eqlP _ _ rfl true _ _ _ _ (ptrue _ _) rfl rfl L1.out L1.out) ?_
  go_simp
  refine calm_do (.bool true) rfl (by rfl) (fun w' hw' => ?_) ?_
  · go_simp
  go_simp
  refine calm_move _ rfl (by rfl) rfl ?_
  go_simp
  refine calm_do (.agg (pA px py)) rfl (by rfl) (fun w' hw' => exec_loadS hw' 3 rfl _ rfl rfl Tryd.underlying24 Tryd.szP (pA_size _ _)) ?_
  go_simp
  refine calm_do (.agg (pA qx qy)) rfl (by rfl) (fun w' hw' => exec_loadS hw' 2 rfl _ rfl rfl Tryd.underlying24 Tryd.szP (pA_size _ _)) ?_
  go_simp
  refine calm_do (.agg (pA rx ry)) rfl (by rfl) (fun w' hw' => exec_loadS hw' 1 rfl _ rfl rfl Tryd.underlying24 Tryd.szP (pA_size _ _)) ?_
  go_simp
  refine calm_do (.agg (pA px py)) rfl (by rfl) (fun w' hw' => exec_loadS hw' 3 rfl _ rfl rfl Tryd.underlying24 Tryd.szP (pA_size _ _)) ?_
  go_simp
  refine calm_do (.agg (pA qx qy)) rfl (by rfl) (fun w' hw' => exec_loadS hw' 2 rfl _ rfl rfl Tryd.underlying24 Tryd.szP (pA_size _ _)) ?_
  go_simp
  refine calm_do (.agg (pA rx ry)) rfl (by rfl) (fun w' hw' => exec_loadS hw' 1 rfl _ rfl rfl Tryd.underlying24 Tryd.szP (pA_size _ _)) ?_
  go_simp
  refine calm_nil (hK.out _ ?_)
  clear hK K
  refine av_op (i := 17) (fuel := 20) (by kernel_rfl) rfl (by rfl) (fun K hK => ?_)
  go_simp
  refine (A1.out w40 (hd.of V41)).mono ?_
  rintro e w43 ⟨rfl, q45⟩
  have V44 := V41.call q45
  refine hK _ _ (V44) ?_
  clear hK K q45
  refine av_op (i := 19) (fuel := 19) (by kernel_rfl) rfl (by rfl) (fun K hK => ?_)
  go_simp
  refine (A3.out w43 (hd.of V44)).mono ?_
  rintro e w46 ⟨rfl, q48⟩
  have V47 := V44.call q48
  refine hK _ _ (V47) ?_
  clear hK K q48
  refine av_op (i := 23) (fuel := 18) (by kernel_rfl) rfl (by rfl) (fun K hK => ?_)
  go_simp
  refine (A4.out w46 (hd.of V47)).mono ?_
  rintro e w49 ⟨rfl, q51⟩
  have V50 := V47.call q51
  refine hK _ _ (V50) ?_
  clear hK K q51
  refine av_op (i := 24) (fuel := 17) (by kernel_rfl) rfl (by rfl) (fun K hK => ?_)
  go_simp
  refine (A5.out w49 (hd.of V50)).mono ?_
  rintro e w52 ⟨rfl, q54⟩
  have V53 := V50.call q54
  refine hK _ _ (V53) ?_
  clear hK K q54
  refine held_reads (rs := [25, 26, 27, 28, 31]) (fuel := 12) (by kernel_rfl) (fun c d v a w h => by cases d <;> exact h) (by kernel_rfl) (V53) (fun K hK => ?_)
  go_simp
  refine calm_do (.bool true) rfl (by rfl) (fun w' hw' => exec_eqlP _ _ rfl true _ _ _ _ (ptrue _ _) rfl rfl L2.out L2.out) ?_
  go_simp
  refine calm_do (.bool true) rfl (by rfl) (fun w' hw' => ?_) ?_
  · go_simp
  go_simp
  refine calm_move _ rfl (by rfl) rfl ?_
  go_simp
  refine calm_do (.agg (pA px py)) rfl (by rfl) (fun w' hw' => exec_loadS hw' 3 rfl _ rfl rfl Tryd.underlying24 Tryd.szP (pA_size _ _)) ?_
  go_simp
  refine calm_do (.agg (pA px py)) rfl (by rfl) (fun w' hw' => exec_loadS hw' 3 rfl _ rfl rfl Tryd.underlying24 Tryd.szP (pA_size _ _)) ?_
  go_simp
  refine calm_nil (hK.out _ ?_)
  clear hK K
  refine av_op (i := 29) (fuel := 11) (by kernel_rfl) rfl (by rfl) (fun K hK => ?_)
  go_simp
  refine (czero_any w52).mono ?_
  rintro e w55 ⟨rfl, q57⟩
  have V56 := V53.call q57
  refine hK _ _ (V56) ?_
  clear hK K q57
  refine av_op (i := 30) (fuel := 10) (by kernel_rfl) rfl (by rfl) (fun K hK => ?_)
  go_simp
  refine (A6.out w55 (hd.of V56)).mono ?_
  rintro e w58 ⟨rfl, q60⟩
  have V59 := V56.call q60
  refine hK _ _ (V59) ?_
  clear hK K q60
  refine held_reads (rs := [32, 33, 34, 35, 36]) (fuel := 5) (by kernel_rfl) (fun c d v a w h => by cases d <;> exact h) (by kernel_rfl) (V59) (fun K hK => ?_)
  go_simp
  refine calm_do (.bool true) rfl (by rfl) (fun w' hw' => exec_eqlP _ _ rfl true _ _ _ _ (ptrue _ _) rfl rfl L3.out L3.out) ?_
  go_simp
  refine calm_do (.bool true) rfl (by rfl) (fun w' hw' => ?_) ?_
  · go_simp
  go_simp
  refine calm_move _ rfl (by rfl) rfl ?_
  go_simp
  refine calm_do (.agg (pA px py)) rfl (by rfl) (fun w' hw' => exec_loadS hw' 3 rfl _ rfl rfl Tryd.underlying24 Tryd.szP (pA_size _ _)) ?_
  go_simp
  refine calm_do (.agg (pA nx ny)) rfl (by rfl) (fun w' hw' => exec_loadS hw' 0 rfl _ rfl rfl Tryd.underlying24 Tryd.szP (pA_size _ _)) ?_
  go_simp
  refine calm_nil (hK.out _ ?_)
  clear hK K
  refine av_op (i := 37) (fuel := 4) (by kernel_rfl) rfl (by rfl) (fun K hK => ?_)
  go_simp
  refine (A7.out w58 (hd.of V59)).mono ?_
  rintro e w61 ⟨rfl, q63⟩
  have V62 := V59.call q63
  refine hK _ _ (V62) ?_
  clear hK K q63
  refine av_op (i := 38) (fuel := 3) (by kernel_rfl) rfl (by rfl) (fun K hK => ?_)
  go_simp
  refine (czero_any w61).mono ?_
  rintro e w64 ⟨rfl, q66⟩
  have V65 := V62.call q66
  refine hK _ _ (V65) ?_
  clear hK K q66
  refine held_reads (rs := [39, 40, 41]) (fuel := 0) (by kernel_rfl) (fun c d v a w h => by cases d <;> exact h) (by kernel_rfl) (V65) (fun K hK => ?_)
  go_simp
  refine calm_do (.bool true) rfl (by rfl) (fun w' hw' => exec_eqlP _ _ rfl true _ _ _ _ (ptrue _ _) rfl rfl pz256 pz256) ?_
  go_simp
  refine calm_do (.bool true) rfl (by rfl) (fun w' hw' => ?_) ?_
  · go_simp
  go_simp
  refine calm_assign _ rfl (by rfl) rfl ?_
  go_simp
  refine calm_nil (hK.out _ ?_)
  clear hK K
  refine wpAnyH_done (by kernel_rfl) ?_ _
  go_wp2_with fail
  go_ret
  exact ⟨rfl, V65.bel⟩
theorem walk_CurveLaws (a : List Nat) (da : Dig a) (pa : Option Addr) (la ka : Nat) (b : List Nat) (db : Dig b) (pb : Option Addr) (lb kb : Nat) (c : List Nat) (dc : Dig c) (pc : Option Addr) (lc kc : Nat) (w : World) (hd : DAt w) (ra : Row .u8 w pa la ka (nI a)) (rb : Row .u8 w pb lb kb (nI b)) (rc : Row .u8 w pc lc kc (nI c)) : Calls Tryd.prog 5 #[.slice pa la ka, .slice pb lb kb, .slice pc lc kc] w fun e w' => e = .returned (.bool true) ∧ Below w.heap.size w w' := by
  by_cases h0 : la ≤ 40
  case neg => exact laws_long0 w pa la ka pb lb kb pc lc kc (by omega)
  by_cases h1 : lb ≤ 40
  case neg => exact laws_long1 w pa la ka pb lb kb pc lc kc (by omega) h0
  by_cases h2 : lc ≤ 40
  case neg => exact laws_long2 w pa la ka pb lb kb pc lc kc (by omega) h0 h1
  exact laws_core a da pa la ka b db pb lb kb c dc pc lc kc w hd ra rb rc h0 h1 h2
end Go.Proofs.YtacicjnhpklkfaaDoor.N
