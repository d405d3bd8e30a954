/-
  Layer 21's laws: the walk of KeysLay.
-/
import Derived.Test.YtjcfooiibgidhaaKeyFace
import Derived.Test.YtjcfooiibgidhaaKeyRef3
import Derived.Test.YtjcfooiibgidhaaKeyEq
namespace Go.Proofs.Ytjcfooiibgidhaa.N
open Go.RowKit
set_option linter.unusedVariables false
set_option maxRecDepth 8192

theorem lay_long {a : Option Addr} {n c : Nat} {x : Int} {w : World} (hn : n ≤ 9223372036854775807) (hl : 100 < n) : Calls Try.prog 3 #[.slice a n c, .int .i64 x] w fun e w' => e = .returned (.bool true) ∧ Below w.heap.size w w' := by
  have hl' : (100 : Int) < (n : Int) := by omega
  go_enter Try.func3, Try.ntmps3
  go_wp2_with fail
  go_ret
  exact ⟨rfl, Below.refl _ _⟩
set_option maxHeartbeats 3200000 in
theorem lay_no {a : Option Addr} {n c : Nat} {l : List Ky} {x : Int} {w : World} (hr : KRow w a n c l) (ho : ∀ s ∈ l, s.Ok) (hl : n ≤ 100) (hm : mayK l = false) : Calls Try.prog 3 #[.slice a n c, .int .i64 x] w fun e w' => e = .returned (.bool true) ∧ Below w.heap.size w w' := by
  have hl' : ¬ (100 : Int) < (n : Int) := by omega
  have HLL : Hid (l.length = n) := hr.hlen
  go_enter Try.func3, Try.ntmps3
  go_wp2_with fail
  refine (own21_any hr ho (by omega)).mono ?_
  rintro e w1 ⟨v1, rfl, own1, q1⟩
  obtain ⟨a1, c1, rfl, r1⟩ := kRow_owns HLL.out ho own1
  clear own1
  go_wp2_with fail
  refine (kBytes_no r1 ho hm).mono ?_
  rintro e w2 ⟨rfl, q2⟩
  replace r1 := r1.below q2 (Nat.le_refl _)
  go_wp2_with fail
  refine (find_no (x := x) r1 ho hm).mono ?_
  rintro e w3 ⟨rfl, q3⟩
  replace r1 := r1.below q3 (Nat.le_refl _)
  have V3 := Vars.start w3
  go_wp2_with (first
    | (refine wpList_allocV V3 8 28 rfl rfl rfl (dA zero32) zeroDg ?_; intro w4 g4 V4)
    | (refine wpList_storeV V4 0 rfl _ (.tmp 28) rfl rfl rfl (dA zero32) rfl rfl Try.szDg (dA_size ky0_ok.len) (dA_size ky0_ok.len) (dA_one _) ?_; intro w5 V5))
  replace r1 := r1.below V5.bel (Nat.le_refl _)
  refine (revoke_no (x := x) r1 ho hm).mono ?_
  rintro e w6 ⟨rfl, q6⟩
  have V6 := V5.call q6
  replace r1 := r1.below q6 (Nat.le_refl _)
  have Q := btrans (btrans (btrans q1 q2) q3) V6.bel
  have r0 := hr.below Q (Nat.le_refl _)
  clear V3 V4 V5 q1 q2 q3 q6
  go_wp2_with fail
  refine (refSame21_any r1 r0 ho).mono ?_
  rintro e w7 ⟨rfl, q7⟩
  have V7 := V6.call q7
  have Q7 := btrans Q q7
  have hma := refMay21_any (hr.below Q7 (Nat.le_refl _))
  rw [hm] at hma
  clear r1 r0 V6 q7 Q
  go_wp2_with fail
  refine hma.mono ?_
  rintro e w' ⟨rfl, rfl⟩
  clear hma
  go_wp2_with fail
  refine (awake21_any w7).mono ?_
  rintro e w8 ⟨rfl, q8⟩
  have V8 := V7.call q8
  have HQ : Hid (Below w.heap.size w w8) := btrans Q7 q8
  clear V7 Q7 q8
  go_wp2_with (first
    | (refine wpList_loadV V8 0 rfl 67 _ (by rfl) rfl rfl rfl Try.underlying28 Try.szDg (dA_size ky0_ok.len) ?_)
    | (refine wpList_buildV 68 28 [] (by rfl) rfl rfl (dA zero32) built_dg ?_)
    | (refine wpList_exec (by rfl) (exec_eqlD _ zero_ok.1 zero_ok.2 _ _ rfl rfl rfl) ?_))
  go_ret
  exact ⟨rfl, HQ.out⟩
set_option maxHeartbeats 3200000 in
theorem lay_yes {a : Option Addr} {n c : Nat} {l : List Ky} {x : Int} {w : World} (hr : KRow w a n c l) (ho : ∀ s ∈ l, s.Ok) (hl : n ≤ 100) (hm : mayK l = true) : Calls Try.prog 3 #[.slice a n c, .int .i64 x] w fun e w' => e = .returned (.bool true) ∧ Below w.heap.size w w' := by
  have hl' : ¬ (100 : Int) < (n : Int) := by omega
  have mc := hr.hcap
  have mm := hr.hmax
  unfold maxLen at mm
  have HLL : Hid (l.length = n) := hr.hlen
  have HM : Hid (mayK l = true) := hm
  have HFO := fnd_ok ho x
  have HRB := isB_ring ho
  go_enter Try.func3, Try.ntmps3
  go_wp2_with fail
  refine (own21_any hr ho (by omega)).mono ?_
  rintro e w1 ⟨v1, rfl, own1, q1⟩
  obtain ⟨a1, c1, rfl, r1⟩ := kRow_owns HLL.out ho own1
  clear own1
  go_wp2_with fail
  refine (kBytes_yes r1 ho hm).mono ?_
  rintro e w2 ⟨u2, rfl, own2, q2⟩
  obtain ⟨a2, c2, rfl, rb⟩ := row_of_owns own2
  replace r1 := r1.below q2 (Nat.le_refl _)
  clear own2
  go_wp2_with fail
  refine (find_yes (x := x) r1 ho hm).mono ?_
  rintro e w3 ⟨rfl, q3⟩
  replace r1 := r1.below q3 (Nat.le_refl _)
  have V3 := Vars.start w3
  have HFD : Hid (dA (fndD l x) = dA (fndD l x)) := rfl
  generalize hfd : fndD l x = fd at *
  generalize hfc : fndC l x = fc at *
  have HFE : Hid (fndD l x = fd ∧ fndC l x = fc) := ⟨hfd, hfc⟩
  clear hfd hfc HFD
  go_wp2_with (first
    | (refine wpList_allocV V3 8 28 rfl rfl rfl (dA zero32) zeroDg ?_; intro w4 g4 V4)
    | (refine wpList_storeV V4 0 rfl _ (.tmp 28) rfl rfl rfl (dA fd) rfl rfl Try.szDg (dA_size ky0_ok.len) (dA_size HFO.1) (dA_one _) ?_; intro w5 V5))
  replace V5 : Vars w3 w5 [⟨g4, 28, dA fd⟩] := V5
  replace r1 := r1.below V5.bel (Nat.le_refl _)
  refine (revoke_yes (x := x) r1 ho hm).mono ?_
  rintro e w6 ⟨q6, hrv⟩
  have V6 := V5.call q6
  replace r1 := r1.below q6 (Nat.le_refl _)
  have Q := btrans (btrans (btrans q1 q2) q3) V6.bel
  replace rb := rb.below (btrans q3 V6.bel) (Nat.le_refl _)
  have r0 := hr.below Q (Nat.le_refl _)
  clear V3 V4 V5 q1 q2 q3 hm
  rcases hrv with ⟨i, v6, hi, rfl, own6⟩ | ⟨hn, rfl⟩
  · obtain ⟨a6, c6, rfl, r6⟩ := kRow_owns (by rw [revK_len]; exact HLL.out) (revK_ok ho i) own6
    clear own6 q6
    go_wp2_with fail
    refine (refSame21_any r1 r0 ho).mono ?_
    rintro e w7 ⟨rfl, q7⟩
    have V7 := V6.call q7
    have Q7 := btrans Q q7
    have hma := refMay21_any (hr.below Q7 (Nat.le_refl _))
    rw [HM.out] at hma
    replace rb := rb.below q7 (Nat.le_refl _)
    replace r6 := r6.below q7 (Nat.le_refl _)
    clear r1 r0 V6 q7 Q
    go_wp2_with fail
    refine hma.mono ?_
    rintro e w' ⟨rfl, rfl⟩
    clear hma
    go_wp2_with fail
    have hby := refBytes21_any (hr.below Q7.drew (Nat.le_refl _)) ho HM.out
    replace rb := rb.below (Since.drew w7) (Nat.le_refl _)
    replace r6 := r6.below (Since.drew w7) (Nat.le_refl _)
    replace V7 := V7.drew
    replace Q7 := Q7.drew
    have kcs : ∀ w', Since w7.drew w' → Sem.run Try.prog (Go.convert 24 9 (.slice a2 (8 + 37 * n) c2)) w' = .ok (.string (strOfNums (rBytes l))) w' := fun w' q => conv_row (P := Try.prog) Try.underlying24 Try.underlying5 Try.underlying9 (rb.below q (Nat.le_refl _))
    refine av_open (Since w7.drew) (by kernel_rfl) ?_
    refine held_reads (rs := [0, 1, 2, 3, 4, 5]) (fuel := 4) (by kernel_rfl) (fun c d v a w h => by cases d <;> exact h) (by kernel_rfl) (Since.refl _) (fun K hK => ?_)
    iterate 6 (first | (refine calm_move _ rfl (by rfl) rfl ?_; go_simp) | (apply calm_do _ rfl (by rfl) (fun w' hw' => by go_simp; rfl); go_simp))
    refine calm_nil (hK.out _ ?_)
    clear hK K
    refine held_call (i := 6) (fuel := 3) (by kernel_rfl) rfl (by rfl) (fun K hK => ?_)
    go_simp
    refine hby.mono ?_
    rintro e w8 ⟨u8, rfl, own8, q8⟩
    obtain ⟨a8, c8, rfl, r8⟩ := row_of_owns own8
    have V8 := V7.call q8
    have Q8 := btrans Q7 q8
    replace r6 := r6.below q8 (Nat.le_refl _)
    refine hK _ _ q8 ?_
    have kc8 : ∀ w', Since w8 w' → Sem.run Try.prog (Go.convert 24 9 (.slice a8 (8 + 37 * n) c8)) w' = .ok (.string (strOfNums (rBytes l))) w' := fun w' q => conv_row (P := Try.prog) Try.underlying24 Try.underlying5 Try.underlying9 (r8.below q (Nat.le_refl _))
    clear hK K hby rb own8 V7 Q7 kcs q8 r8
    refine held_reads (rs := [7, 8, 9]) (fuel := 0) (by kernel_rfl) (fun c d v a w h => by cases d <;> exact h) (by kernel_rfl) (Since.refl _) (fun K hK => ?_)
    go_simp
    iterate 3 (first | (refine calm_move _ rfl (by rfl) rfl ?_; go_simp) | (refine calm_skip rfl (by rfl) ?_; go_simp) | (apply calm_do _ rfl (by rfl) (fun w' hw' => by go_simp; rfl); go_simp))
    refine calm_nil (hK.out _ ?_)
    clear hK K kc8
    refine wpAnyH_done (by kernel_rfl) ?_ _
    go_wp2_with fail
    refine (refPlace21_any (x := x) (hr.below Q8 (Nat.le_refl _))).mono ?_
    rintro e w' ⟨rfl, rfl⟩
    have hpl : plI l x = (i : Int) := by unfold plI; rw [hi]
    rw [hpl]
    have hi2 := placeK_some hi
    have hin : i < n := by rw [← HLL.out]; exact hi2.1
    have hin' : (i : Int) < (n : Int) := by omega
    have hi0 : ¬ (i : Int) < 0 := by omega
    obtain ⟨b, off, rfl, hbs, hcell⟩ := hr.hcell (by omega)
    have hx := hcell i hin
    have hk := kyI_ok ho i
    have HX : Hid (∀ W, Below w.heap.size w W → W.rangeAt b (off + i * 34) (kC (kyI l i))) := fun W q => range_block hx (q.block b hbs)
    have HOK : Hid (∀ s ∈ revK l i, s.Ok) := revK_ok ho i
    have HIL : Hid (i < l.length) := hi2.1
    have hFX : Hid (((kyI l i).rev = true → fd = zero32 ∧ fc = 190) ∧ ((kyI l i).rev = false → fd = (kyI l i).dig ∧ fc = 0)) := ⟨fun h => by rw [← HFE.out.1, ← HFE.out.2]; exact fnd_rev hi h, fun h => by rw [← HFE.out.1, ← HFE.out.2]; exact fnd_some hi h⟩
    have HEND : Hid (∀ W, Below w.heap.size w W → KRow W a6 n c6 (revK l i) → True) := fun _ _ _ => trivial
    clear hcell hx hpl hi2 HEND
    generalize hky : kyI l i = k at *
    have HKY : Hid (kyI l i = k) := hky
    clear hky HFE
    go_wp2_with fail
    have Q9 := Q8.drew
    have V9 := V8.drew
    replace r6 := r6.below (Since.drew w8) (Nat.le_refl _)
    have hfl := HFO.1
    have hfb := HFO.2
    have hdl := hk.len
    have hdb := hk.byt
    have c33 : ∀ w', Since w8.drew w' → w'.cell? ⟨b, off + i * 34 + 33, none⟩ = some (.bool k.rev) := fun w' q => kr_rev hk (HX.out w' (btrans Q9 q))
    have hd1 : ∀ w', Since w8.drew w' → w'.rangeAt b (off + i * 34 + 1) (dC k.dig) := fun w' q => kr_dig hk (HX.out w' (btrans Q9 q))
    refine av_open (Since w8.drew) (by kernel_rfl) ?_
    cases hrev : k.rev
    · obtain ⟨rfl, rfl⟩ := hFX.out.2 hrev
      rw [hrev] at c33
      refine held_reads (rs := [0, 1, 2, 3, 4, 5, 6, 7, 8, 9, 10, 11, 12, 13, 14, 15, 16, 17, 18, 19, 20, 21, 22, 23, 24, 25, 26, 27, 28, 29]) (fuel := 0) (by kernel_rfl) (fun c d v a w h => by cases d <;> exact h) (by kernel_rfl) (Since.refl _) (fun K hK => ?_)
      iterate 30 (first
        | (refine calm_move _ rfl (by rfl) rfl ?_; go_simp)
        | (refine calm_skip rfl (by rfl) ?_; go_simp)
        | (refine calm_do (.agg (dA k.dig)) rfl (by rfl) (fun w' hw' => exec_loadD hdl _ rfl g4 0 rfl (range_all ((V9.call hw').at 0 rfl))) ?_; go_simp)
        | (refine calm_do (.agg (dA k.dig)) rfl (by rfl) (fun w' hw' => exec_loadD hdl _ rfl b (off + i * 34 + 1) rfl (hd1 w' hw')) ?_; go_simp)
        | (refine calm_do (.bool false) rfl (by rfl) (fun w' hw' => exec_neqD _ hdl hdb _ _ rfl rfl rfl) ?_; go_simp)
        | (apply calm_do _ rfl (by rfl) (fun w' hw' => by (have h33 := c33 w' hw'); go_simp; rfl); go_simp))
      refine calm_nil (hK.out _ ?_)
      clear hK K c33 hd1 V8
      refine wpAnyH_done (by kernel_rfl) ?_ _
      go_wp2_with fail
      refine (own21_any (hr.below Q9 (Nat.le_refl _)) ho (by omega)).mono ?_
      rintro e w10 ⟨v10, rfl, own10, q10⟩
      have Q10 := btrans Q9 q10
      have V10 := V9.call q10
      have q8d : Below w8.drew.heap.size w8.drew w10 := q10
      rcases id own10.2 with ⟨_, h0⟩ | ⟨g, cap, cur, rfl, hg, hh, hnc, hcm, _, _⟩
      · omega
      have d33 := own10.cells (g := g) rfl (i * 34 + 33) _ (kCs_at ho i HIL.out 33 _ (kC_33 (by rw [HKY.out]; exact hk)))
      rw [plain_add, Nat.zero_add] at d33
      have f33 := arr_unfrozen hh (i * 34 + 33)
      have o11 := (own10.stored (i * 34 + 33) (.bool true)).1
      rw [kCs_rev ho HIL.out] at o11
      have q11 : Below w8.drew.heap.size w10 (w10.setCell ⟨g, i * 34 + 33, none⟩ (.bool true)) := (Below.refl _ _).setCell (by show w8.drew.heap.size ≤ g; omega) _
      have Q11 : Below w.heap.size w (w10.setCell ⟨g, i * 34 + 33, none⟩ (.bool true)) := Q10.trans (q11.mono Q9.size)
      have HR6 : Hid (KRow (w10.setCell ⟨g, i * 34 + 33, none⟩ (.bool true)) a6 n c6 (revK l i)) := r6.below (q8d.trans q11) (Nat.le_refl _)
      have HO11 : Hid (World.ownsRow (w10.setCell ⟨g, i * 34 + 33, none⟩ (.bool true)) w8.drew.heap.size 39 34 (.slice (some ⟨g, 0, none⟩) n cap) n (kCs (revK l i))) := o11
      unfold maxLen at hcm
      clear own10 o11 hh q11 V10 V9 Q9 Q10 q10 hg
      go_wp2_with fail
      generalize w10.setCell ⟨g, i * 34 + 33, none⟩ (.bool true) = w11 at *
      refine (awake21_any w11).mono ?_
      rintro e w12 ⟨rfl, q12⟩
      have HQ : Hid (Below w.heap.size w w12) := btrans Q11 q12
      obtain ⟨aw, cw, hvw, rw12⟩ := kRow_owns (by rw [revK_len]; exact HLL.out) HOK.out HO11.out
      cases hvw
      have hsm := refSame21_any (HR6.out.below q12 (Nat.le_refl _)) (rw12.below q12 (Nat.le_refl _)) HOK.out
      clear d33 f33 Q11 rw12
      go_wp2_with fail
      refine hsm.mono ?_
      rintro e w13 ⟨rfl, q13⟩
      have HQ3 : Hid (Below w.heap.size w w13) := btrans HQ.out q13
      clear hsm
      go_wp2_with fail
      go_ret
      exact ⟨rfl, HQ3.out⟩
    · obtain ⟨rfl, rfl⟩ := hFX.out.1 hrev
      rw [hrev] at c33
      refine held_reads (rs := [0, 1, 2, 3, 4, 5, 6, 7, 8, 9, 10, 11, 12, 13, 14, 15, 16, 17, 18, 19, 20, 21, 22, 23, 24, 25, 26, 27, 28, 29]) (fuel := 0) (by kernel_rfl) (fun c d v a w h => by cases d <;> exact h) (by kernel_rfl) (Since.refl _) (fun K hK => ?_)
      iterate 30 (first
        | (refine calm_move _ rfl (by rfl) rfl ?_; go_simp)
        | (refine calm_skip rfl (by rfl) ?_; go_simp)
        | (refine calm_do (.agg (dA zero32)) rfl (by rfl) (fun w' hw' => exec_loadD hfl _ rfl g4 0 rfl (range_all ((V9.call hw').at 0 rfl))) ?_; go_simp)
        | (refine calm_do (.agg (dA zero32)) rfl (by rfl) (fun w' hw' => exec_buildV 28 [] rfl _ built_dg) ?_; go_simp)
        | (refine calm_do (.bool false) rfl (by rfl) (fun w' hw' => exec_neqD _ hfl hfb _ _ rfl rfl rfl) ?_; go_simp)
        | (apply calm_do _ rfl (by rfl) (fun w' hw' => by (have h33 := c33 w' hw'); go_simp; rfl); go_simp))
      refine calm_nil (hK.out _ ?_)
      clear hK K c33 hd1 V8
      refine wpAnyH_done (by kernel_rfl) ?_ _
      go_wp2_with fail
      refine (own21_any (hr.below Q9 (Nat.le_refl _)) ho (by omega)).mono ?_
      rintro e w10 ⟨v10, rfl, own10, q10⟩
      have Q10 := btrans Q9 q10
      have V10 := V9.call q10
      have q8d : Below w8.drew.heap.size w8.drew w10 := q10
      rcases id own10.2 with ⟨_, h0⟩ | ⟨g, cap, cur, rfl, hg, hh, hnc, hcm, _, _⟩
      · omega
      have d33 := own10.cells (g := g) rfl (i * 34 + 33) _ (kCs_at ho i HIL.out 33 _ (kC_33 (by rw [HKY.out]; exact hk)))
      rw [plain_add, Nat.zero_add] at d33
      have f33 := arr_unfrozen hh (i * 34 + 33)
      have o11 := (own10.stored (i * 34 + 33) (.bool true)).1
      rw [kCs_rev ho HIL.out] at o11
      have q11 : Below w8.drew.heap.size w10 (w10.setCell ⟨g, i * 34 + 33, none⟩ (.bool true)) := (Below.refl _ _).setCell (by show w8.drew.heap.size ≤ g; omega) _
      have Q11 : Below w.heap.size w (w10.setCell ⟨g, i * 34 + 33, none⟩ (.bool true)) := Q10.trans (q11.mono Q9.size)
      have HR6 : Hid (KRow (w10.setCell ⟨g, i * 34 + 33, none⟩ (.bool true)) a6 n c6 (revK l i)) := r6.below (q8d.trans q11) (Nat.le_refl _)
      have HO11 : Hid (World.ownsRow (w10.setCell ⟨g, i * 34 + 33, none⟩ (.bool true)) w8.drew.heap.size 39 34 (.slice (some ⟨g, 0, none⟩) n cap) n (kCs (revK l i))) := o11
      unfold maxLen at hcm
      clear own10 o11 hh q11 V10 V9 Q9 Q10 q10 hg
      go_wp2_with fail
      generalize w10.setCell ⟨g, i * 34 + 33, none⟩ (.bool true) = w11 at *
      refine (awake21_any w11).mono ?_
      rintro e w12 ⟨rfl, q12⟩
      have HQ : Hid (Below w.heap.size w w12) := btrans Q11 q12
      obtain ⟨aw, cw, hvw, rw12⟩ := kRow_owns (by rw [revK_len]; exact HLL.out) HOK.out HO11.out
      cases hvw
      have hsm := refSame21_any (HR6.out.below q12 (Nat.le_refl _)) (rw12.below q12 (Nat.le_refl _)) HOK.out
      clear d33 f33 Q11 rw12
      go_wp2_with fail
      refine hsm.mono ?_
      rintro e w13 ⟨rfl, q13⟩
      have HQ3 : Hid (Below w.heap.size w w13) := btrans HQ.out q13
      clear hsm
      go_wp2_with fail
      go_ret
      exact ⟨rfl, HQ3.out⟩
  · have hpl : plI l x = -1 := by unfold plI; rw [hn]
    have h1 := fnd_none hn
    rw [HFE.out.1, HFE.out.2] at h1
    obtain ⟨rfl, rfl⟩ := h1
    clear q6
    go_wp2_with fail
    refine (refSame21_any r1 r0 ho).mono ?_
    rintro e w7 ⟨rfl, q7⟩
    have V7 := V6.call q7
    have Q7 := btrans Q q7
    have hma := refMay21_any (hr.below Q7 (Nat.le_refl _))
    rw [HM.out] at hma
    replace rb := rb.below q7 (Nat.le_refl _)
    clear r1 r0 V6 q7 Q
    go_wp2_with fail
    refine hma.mono ?_
    rintro e w' ⟨rfl, rfl⟩
    clear hma
    go_wp2_with fail
    have hby := refBytes21_any (hr.below Q7.drew (Nat.le_refl _)) ho HM.out
    replace rb := rb.below (Since.drew w7) (Nat.le_refl _)
    replace V7 := V7.drew
    replace Q7 := Q7.drew
    have kcs : ∀ w', Since w7.drew w' → Sem.run Try.prog (Go.convert 24 9 (.slice a2 (8 + 37 * n) c2)) w' = .ok (.string (strOfNums (rBytes l))) w' := fun w' q => conv_row (P := Try.prog) Try.underlying24 Try.underlying5 Try.underlying9 (rb.below q (Nat.le_refl _))
    refine av_open (Since w7.drew) (by kernel_rfl) ?_
    refine held_reads (rs := [0, 1, 2, 3, 4, 5]) (fuel := 4) (by kernel_rfl) (fun c d v a w h => by cases d <;> exact h) (by kernel_rfl) (Since.refl _) (fun K hK => ?_)
    iterate 6 (first | (refine calm_move _ rfl (by rfl) rfl ?_; go_simp) | (apply calm_do _ rfl (by rfl) (fun w' hw' => by go_simp; rfl); go_simp))
    refine calm_nil (hK.out _ ?_)
    clear hK K
    refine held_call (i := 6) (fuel := 3) (by kernel_rfl) rfl (by rfl) (fun K hK => ?_)
    go_simp
    refine hby.mono ?_
    rintro e w8 ⟨u8, rfl, own8, q8⟩
    obtain ⟨a8, c8, rfl, r8⟩ := row_of_owns own8
    have V8 := V7.call q8
    have Q8 := btrans Q7 q8
    refine hK _ _ q8 ?_
    have kc8 : ∀ w', Since w8 w' → Sem.run Try.prog (Go.convert 24 9 (.slice a8 (8 + 37 * n) c8)) w' = .ok (.string (strOfNums (rBytes l))) w' := fun w' q => conv_row (P := Try.prog) Try.underlying24 Try.underlying5 Try.underlying9 (r8.below q (Nat.le_refl _))
    clear hK K hby rb own8 V7 Q7 kcs q8 r8
    refine held_reads (rs := [7, 8, 9]) (fuel := 0) (by kernel_rfl) (fun c d v a w h => by cases d <;> exact h) (by kernel_rfl) (Since.refl _) (fun K hK => ?_)
    go_simp
    iterate 3 (first | (refine calm_move _ rfl (by rfl) rfl ?_; go_simp) | (refine calm_skip rfl (by rfl) ?_; go_simp) | (apply calm_do _ rfl (by rfl) (fun w' hw' => by go_simp; rfl); go_simp))
    refine calm_nil (hK.out _ ?_)
    clear hK K kc8
    refine wpAnyH_done (by kernel_rfl) ?_ _
    go_wp2_with fail
    refine (refPlace21_any (x := x) (hr.below Q8 (Nat.le_refl _))).mono ?_
    rintro e w' ⟨rfl, rfl⟩
    rw [hpl]
    go_wp2_with fail
    refine (awake21_any w8).mono ?_
    rintro e w9 ⟨rfl, q9⟩
    have V9 := V8.call q9
    have HQ : Hid (Below w.heap.size w w9) := btrans Q8 q9
    clear V8 Q8 q9
    go_wp2_with (first
      | (refine wpList_loadV V9 0 rfl 96 _ (by rfl) rfl rfl rfl Try.underlying28 Try.szDg (dA_size ky0_ok.len) ?_)
      | (refine wpList_buildV 97 28 [] (by rfl) rfl rfl (dA zero32) built_dg ?_)
      | (refine wpList_exec (by rfl) (exec_eqlD _ zero_ok.1 zero_ok.2 _ _ rfl rfl rfl) ?_))
    go_ret
    exact ⟨rfl, HQ.out⟩
theorem walk_keysLay {a : Option Addr} {n c : Nat} {l : List Ky} {x : Int} {w : World} (hr : KRow w a n c l) (ho : ∀ s ∈ l, s.Ok) : Calls Try.prog 3 #[.slice a n c, .int .i64 x] w fun e w' => e = .returned (.bool true) ∧ Below w.heap.size w w' := by
  rcases Nat.lt_or_ge 100 n with h | h
  · exact lay_long (by have := hr.hcap; have := hr.hmax; unfold maxLen at this; omega) h
  · cases hm : mayK l
    · exact lay_no hr ho h hm
    · exact lay_yes hr ho h hm
end Go.Proofs.Ytjcfooiibgidhaa.N
