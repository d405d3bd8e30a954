/-
  Layer 9's laws: tiny, awake (the document's examples). (Written by tools/gen/head_awake.py.)
-/
import Derived.Test.YtefpmidjedfjmaaHeadRef4
namespace Go.Proofs.Ytefpmidjedfjmaa
open Go.RowKit
set_option linter.unusedVariables false
set_option maxRecDepth 8192

theorem tiny9 : GMay 1 3 (1 : Nat) (16 : Nat) 1 16 32 := ⟨by decide, by decide, by decide, rfl, by decide, by decide, by decide, by decide⟩
/-- What awake lays down. -/
def E16 : List Int := [99, 97, 115, 101, 1, 0, 0, 0, 2, 0, 0, 0, 3, 1, 0, 0]
theorem E16_page : pageOf 16 1 2 259 = E16 := by decide
theorem str_E16 : strOfNums E16 = ⟨#[99, 97, 115, 101, 1, 0, 0, 0, 2, 0, 0, 0, 3, 1, 0, 0]⟩ := by rfl
theorem noughts_none : readH 32 16 (List.replicate 16 0) = false := by decide
theorem isB_nought (n : Nat) : IsB (List.replicate n 0) := fun x hx => by rw [(List.mem_replicate.1 hx).2]; decide
theorem tiny9_any (w : World) : Calls Try.prog 24 #[] w fun e w' => e = .returned (.agg #[.int .i64 1, .int .i64 3, .int .i64 1, .int .i64 16, .int .i64 1]) ∧ Below w.heap.size w w' := by
  go_enter Try.func24, Try.ntmps24
  go_wp2
  refine bodyPost_ret (v := .agg #[.int .i64 1, .int .i64 3, .int .i64 1, .int .i64 16, .int .i64 1]) (by simp [results, Try.results24, go_sem]) rfl ?_
  exact ⟨rfl, below_one _ _⟩
/-- 'make([]byte, n)'. -/
theorem makeZ9 (n : Nat) (c : Int) (hc : c = (n : Int)) (hn : n ≤ 1000) (w : World) : ∃ w', Sem.run Try.prog (Instr.makeSlice 30 (.int .i64 c) (.int .i64 c)) w = .ok (.slice (some ⟨w.heap.size, 0, none⟩) n n) w' ∧
    w'.ownsRow w.heap.size 5 1 (.slice (some ⟨w.heap.size, 0, none⟩) n n) n ((List.replicate n (0 : Int)).map (Value.int .u8)) ∧ Below w.heap.size w w' := by
  subst hc
  obtain ⟨i0, hi0, hz0, hz1, hz2⟩ := info_parts Try.info5
  obtain ⟨w', hrun, r1, r2⟩ := run_make_full (P := Try.prog) w w.heap.size 30 5 i0 (.int .u8 0) 1 Try.underlying30 hi0 hz0 hz1 .i64 .i64 n (by rw [hz2]; omega) (by unfold maxLen; omega) (Nat.le_refl _)
  rw [made_ints] at r1
  exact ⟨w', hrun, r1, (Below.refl _ _).grown r2 (Nat.le_refl _) (by simp)⟩
set_option maxHeartbeats 6400000 in
set_option maxRecDepth 100000 in
theorem awake9_any (w : World) : Calls Try.prog 12 #[] w fun e w' => e = .returned (.bool true) ∧ Below w.heap.size w w' := by
  have hcap : ∀ w, Calls Try.prog 8 #[.agg #[.int .i64 1, .int .i64 3, .int .i64 1, .int .i64 16, .int .i64 1]] w fun e w' => e = .returned (.tuple #[.int .i64 32, .int .i64 0]) ∧ Below w.heap.size w w' := fun w => hCap_yes tiny9 w
  have hpag : ∀ w, Calls Try.prog 9 #[.agg #[.int .i64 1, .int .i64 3, .int .i64 1, .int .i64 16, .int .i64 1], .int .i64 17] w fun e w' => e = .returned (.tuple #[.int .i64 2, .int .i64 0]) ∧ Below w.heap.size w w' := fun w => hPages_yes tiny9 17 w (by decide)
  have hbyt : ∀ w, Calls Try.prog 10 #[.agg #[.int .i64 1, .int .i64 3, .int .i64 1, .int .i64 16, .int .i64 1], .agg #[.int .i64 1, .int .i64 2, .int .i64 259]] w fun e w' => ∃ g, w.heap.size ≤ g ∧ e = .returned (.tuple #[.slice (some ⟨g, 0, none⟩) 16 16, .int .i64 0]) ∧ w'.ownsRow w.heap.size 5 1 (.slice (some ⟨g, 0, none⟩) 16 16) 16 (E16.map (Value.int .u8)) ∧ Below w.heap.size w w' := fun w => by rw [← E16_page]; exact hBytes_yes tiny9 1 2 259 w (by decide)
  have hpar : ∀ w gz, Row .u8 w (some ⟨gz, 0, none⟩) 16 16 (List.replicate 16 0) → Calls Try.prog 17 #[.agg #[.int .i64 1, .int .i64 3, .int .i64 1, .int .i64 16, .int .i64 1], .slice (some ⟨gz, 0, none⟩) 16 16] w fun e w' => e = .returned (.tuple #[.agg #[.int .i64 0, .int .i64 0, .int .i64 0], .int .i64 4]) ∧ Below w.heap.size w w' := fun w gz r => by
    refine (hParse_any tiny9 _ _ _ w r (isB_nought 16)).mono ?_
    rintro e w' ⟨(⟨rfl, _⟩ | ⟨_, h⟩), q⟩
    · exact ⟨rfl, q⟩
    · exact absurd (noughts_none.symm.trans h) (by decide)
  go_enter Try.func12, Try.ntmps12
  go_wp2_with fail
  refine (tiny9_any _).mono ?_
  rintro e w1 ⟨rfl, q1⟩
  go_wp2_with fail
  refine (hcap _).mono ?_
  rintro e w2 ⟨rfl, qq⟩
  replace q1 := btrans q1 qq
  clear qq
  go_wp2_with fail
  refine (tiny9_any _).mono ?_
  rintro e w3 ⟨rfl, qq⟩
  replace q1 := btrans q1 qq
  clear qq
  go_wp2_with fail
  refine (hpag _).mono ?_
  rintro e w4 ⟨rfl, qq⟩
  replace q1 := btrans q1 qq
  clear qq
  go_wp2_with fail
  refine (tiny9_any _).mono ?_
  rintro e w5 ⟨rfl, qq⟩
  replace q1 := btrans q1 qq
  clear qq
  go_wp2_with fail
  refine (hbyt _).mono ?_
  rintro e w6 ⟨g6, _, rfl, own6, qq⟩
  obtain ⟨a6, c6, he, r6⟩ := row_of_owns own6
  cases he
  replace q1 := btrans q1 qq
  clear qq own6 hcap hpag hbyt
  go_upto_region 4 with fail
  go_cut [8] from 25 to 30 (fun x8 wx => x8 = .int .i64 4 ∧ Below w6.heap.size w6 wx)
  case first =>
    have s0 : Since w6 w6.drew := Since.drew _
    refine hop_open (Since w6) (by kernel_rfl) ?_
    refine hop3 (i := 0) (j := 1) (l := 6) (fuel := 8) (by kernel_rfl) rfl (by rfl) rfl (by rfl) rfl (by rfl) (fun K hK => ?_) (fun K hK => ?_) (fun K hK => ?_)
    · go_simp
      refine (tiny9_any _).mono ?_
      rintro e w7 ⟨rfl, q7⟩
      have s7 : Since w6 w7 := Since.trans s0 q7
      refine hK _ _ s7 ?_
      clear hK K
      refine hop2 (i := 1) (j := 6) (fuel := 7) (by kernel_rfl) rfl (by rfl) rfl (by rfl) (fun K hK => ?_) (fun K hK => ?_)
      · obtain ⟨w8, hrun, ownz, q8⟩ := makeZ9 16 16 rfl (by decide) (w7)
        have s8 : Since w6 w8 := Since.trans s7 q8
        go_simp
        refine hK _ _ s8 ?_
        clear hK K hrun
        obtain ⟨az, cz, hez, rz⟩ := row_of_owns ownz
        cases hez
        clear ownz
        refine hop2 (i := 2) (j := 6) (fuel := 6) (by kernel_rfl) rfl (by rfl) rfl (by rfl) (fun K hK => ?_) (fun K hK => ?_)
        · go_simp
          refine (hpar _ _ rz).mono ?_
          rintro e w9 ⟨rfl, q9⟩
          have s9 : Since w6 w9 := Since.trans s8 q9
          refine hK _ _ s9 ?_
          clear hK K
          clear rz
          refine held_reads (rs := [3, 4, 5]) (fuel := 3) (by kernel_rfl) (fun c d v a w h => by cases d <;> exact h) (by kernel_rfl) s9 (fun K hK => ?_)
          go_simp
          refine calm_move _ rfl (by rfl) rfl ?_
          go_simp
          refine calm_do (.agg #[.int .i64 0, .int .i64 0, .int .i64 0]) rfl (by rfl) (fun w' hw' => ?_) ?_
          · go_simp
          go_simp
          refine calm_do (.int .i64 4) rfl (by rfl) (fun w' hw' => ?_) ?_
          · go_simp
          go_simp
          refine calm_nil (hK.out _ ?_)
          clear hK K
          refine hop1 (i := 6) (fuel := 2) (by kernel_rfl) rfl (by rfl) (fun K hK => ?_)
          have q10 : Since w9 (w9.alloc (.cells #[.int .i64 0, .int .i64 0, .int .i64 0] 25)) := below_one _ _
          have s10 : Since w6 (w9.alloc (.cells #[.int .i64 0, .int .i64 0, .int .i64 0] 25)) := Since.trans s9 q10
          have hb : (w9.alloc (.cells #[.int .i64 0, .int .i64 0, .int .i64 0] 25)).heap[w9.heap.size]? = some (.cells #[.int .i64 0, .int .i64 0, .int .i64 0] 25 (0, 0)) := block_new w9 _ _
          have hlB : w6.heap.size ≤ w9.heap.size := s9.size
          go_simp
          refine hK _ _ s10 ?_
          clear hK K
          refine hop1 (i := 7) (fuel := 1) (by kernel_rfl) rfl (by rfl) (fun K hK => ?_)
          go_simp
          refine hK _ _ s10 ?_
          clear hK K
          refine held_reads (rs := [8]) (fuel := 0) (by kernel_rfl) (fun c d v a w h => by cases d <;> exact h) (by kernel_rfl) s10 (fun K hK => ?_)
          go_simp
          refine calm_assign _ rfl (by rfl) rfl ?_
          go_simp
          refine calm_nil (hK.out _ ?_)
          clear hK K
          refine wpAnyH_done (by kernel_rfl) ?_ _
          go_wp2
          go_meet
          exact ⟨rfl, s10⟩
        · have q12 : Since w8 (w8.alloc (.cells #[.int .i64 0, .int .i64 0, .int .i64 0] 25)) := below_one _ _
          have s12 : Since w6 (w8.alloc (.cells #[.int .i64 0, .int .i64 0, .int .i64 0] 25)) := Since.trans s8 q12
          have hb : (w8.alloc (.cells #[.int .i64 0, .int .i64 0, .int .i64 0] 25)).heap[w8.heap.size]? = some (.cells #[.int .i64 0, .int .i64 0, .int .i64 0] 25 (0, 0)) := block_new w8 _ _
          replace rz := rz.below q12 (Nat.le_refl _)
          have hlB : w6.heap.size ≤ w8.heap.size := s8.size
          go_simp
          refine hK _ _ s12 ?_
          clear hK K
          generalize hgen : w8.alloc (.cells #[.int .i64 0, .int .i64 0, .int .i64 0] 25) = w12 at *
          clear hgen
          generalize w8.heap.size = gA at *
          refine hop1 (i := 2) (fuel := 5) (by kernel_rfl) rfl (by rfl) (fun K hK => ?_)
          go_simp
          refine (hpar _ _ rz).mono ?_
          rintro e w13 ⟨rfl, q13⟩
          have s13 : Since w6 w13 := Since.trans s12 q13
          refine hK _ _ s13 ?_
          clear hK K
          replace hb := block_below hb q13 (lt_of_block hb)
          clear rz
          refine held_reads (rs := [3, 4, 5]) (fuel := 2) (by kernel_rfl) (fun c d v a w h => by cases d <;> exact h) (by kernel_rfl) s13 (fun K hK => ?_)
          go_simp
          refine calm_move _ rfl (by rfl) rfl ?_
          go_simp
          refine calm_do (.agg #[.int .i64 0, .int .i64 0, .int .i64 0]) rfl (by rfl) (fun w' hw' => ?_) ?_
          · go_simp
          go_simp
          refine calm_do (.int .i64 4) rfl (by rfl) (fun w' hw' => ?_) ?_
          · go_simp
          go_simp
          refine calm_nil (hK.out _ ?_)
          clear hK K
          refine hop1 (i := 7) (fuel := 1) (by kernel_rfl) rfl (by rfl) (fun K hK => ?_)
          have k0 : w13.cell? ⟨gA, 0, none⟩ = some (.int .i64 0) := by simp [World.cell?, hb]
          have k1 : w13.cell? ⟨gA, 1, none⟩ = some (.int .i64 0) := by simp [World.cell?, hb]
          have k2 : w13.cell? ⟨gA, 2, none⟩ = some (.int .i64 0) := by simp [World.cell?, hb]
          have kf : ∀ i, w13.frozen? ⟨gA, i, none⟩ = false := fun i => by simp [World.frozen?, hb]
          have sE : Since w6 (((w13.setCell ⟨gA, 0, none⟩ (.int .i64 0)).setCell ⟨gA, 1, none⟩ (.int .i64 0)).setCell ⟨gA, 2, none⟩ (.int .i64 0)) := below_set3 s13 hlB _ _ _
          clear hb
          go_simp
          refine hK _ _ sE ?_
          clear hK K
          refine held_reads (rs := [8]) (fuel := 0) (by kernel_rfl) (fun c d v a w h => by cases d <;> exact h) (by kernel_rfl) sE (fun K hK => ?_)
          go_simp
          refine calm_assign _ rfl (by rfl) rfl ?_
          go_simp
          refine calm_nil (hK.out _ ?_)
          clear hK K
          refine wpAnyH_done (by kernel_rfl) ?_ _
          go_wp2
          go_meet
          exact ⟨rfl, sE⟩
      · have q15 : Since w7 (w7.alloc (.cells #[.int .i64 0, .int .i64 0, .int .i64 0] 25)) := below_one _ _
        have s15 : Since w6 (w7.alloc (.cells #[.int .i64 0, .int .i64 0, .int .i64 0] 25)) := Since.trans s7 q15
        have hb : (w7.alloc (.cells #[.int .i64 0, .int .i64 0, .int .i64 0] 25)).heap[w7.heap.size]? = some (.cells #[.int .i64 0, .int .i64 0, .int .i64 0] 25 (0, 0)) := block_new w7 _ _
        have hlB : w6.heap.size ≤ w7.heap.size := s7.size
        go_simp
        refine hK _ _ s15 ?_
        clear hK K
        generalize hgen : w7.alloc (.cells #[.int .i64 0, .int .i64 0, .int .i64 0] 25) = w15 at *
        clear hgen
        generalize w7.heap.size = gA at *
        refine hop1 (i := 1) (fuel := 6) (by kernel_rfl) rfl (by rfl) (fun K hK => ?_)
        obtain ⟨w16, hrun, ownz, q16⟩ := makeZ9 16 16 rfl (by decide) (w15)
        have s16 : Since w6 w16 := Since.trans s15 q16
        go_simp
        refine hK _ _ s16 ?_
        clear hK K hrun
        replace hb := block_below hb q16 (lt_of_block hb)
        obtain ⟨az, cz, hez, rz⟩ := row_of_owns ownz
        cases hez
        clear ownz
        refine hop1 (i := 2) (fuel := 5) (by kernel_rfl) rfl (by rfl) (fun K hK => ?_)
        go_simp
        refine (hpar _ _ rz).mono ?_
        rintro e w17 ⟨rfl, q17⟩
        have s17 : Since w6 w17 := Since.trans s16 q17
        refine hK _ _ s17 ?_
        clear hK K
        replace hb := block_below hb q17 (lt_of_block hb)
        clear rz
        refine held_reads (rs := [3, 4, 5]) (fuel := 2) (by kernel_rfl) (fun c d v a w h => by cases d <;> exact h) (by kernel_rfl) s17 (fun K hK => ?_)
        go_simp
        refine calm_move _ rfl (by rfl) rfl ?_
        go_simp
        refine calm_do (.agg #[.int .i64 0, .int .i64 0, .int .i64 0]) rfl (by rfl) (fun w' hw' => ?_) ?_
        · go_simp
        go_simp
        refine calm_do (.int .i64 4) rfl (by rfl) (fun w' hw' => ?_) ?_
        · go_simp
        go_simp
        refine calm_nil (hK.out _ ?_)
        clear hK K
        refine hop1 (i := 7) (fuel := 1) (by kernel_rfl) rfl (by rfl) (fun K hK => ?_)
        have k0 : w17.cell? ⟨gA, 0, none⟩ = some (.int .i64 0) := by simp [World.cell?, hb]
        have k1 : w17.cell? ⟨gA, 1, none⟩ = some (.int .i64 0) := by simp [World.cell?, hb]
        have k2 : w17.cell? ⟨gA, 2, none⟩ = some (.int .i64 0) := by simp [World.cell?, hb]
        have kf : ∀ i, w17.frozen? ⟨gA, i, none⟩ = false := fun i => by simp [World.frozen?, hb]
        have sE : Since w6 (((w17.setCell ⟨gA, 0, none⟩ (.int .i64 0)).setCell ⟨gA, 1, none⟩ (.int .i64 0)).setCell ⟨gA, 2, none⟩ (.int .i64 0)) := below_set3 s17 hlB _ _ _
        clear hb
        go_simp
        refine hK _ _ sE ?_
        clear hK K
        refine held_reads (rs := [8]) (fuel := 0) (by kernel_rfl) (fun c d v a w h => by cases d <;> exact h) (by kernel_rfl) sE (fun K hK => ?_)
        go_simp
        refine calm_assign _ rfl (by rfl) rfl ?_
        go_simp
        refine calm_nil (hK.out _ ?_)
        clear hK K
        refine wpAnyH_done (by kernel_rfl) ?_ _
        go_wp2
        go_meet
        exact ⟨rfl, sE⟩
    · obtain ⟨w19, hrun, ownz, q19⟩ := makeZ9 16 16 rfl (by decide) (w6.drew)
      have s19 : Since w6 w19 := Since.trans s0 q19
      go_simp
      refine hK _ _ s19 ?_
      clear hK K hrun
      obtain ⟨az, cz, hez, rz⟩ := row_of_owns ownz
      cases hez
      clear ownz
      refine hop2 (i := 0) (j := 6) (fuel := 7) (by kernel_rfl) rfl (by rfl) rfl (by rfl) (fun K hK => ?_) (fun K hK => ?_)
      · go_simp
        refine (tiny9_any _).mono ?_
        rintro e w20 ⟨rfl, q20⟩
        have s20 : Since w6 w20 := Since.trans s19 q20
        refine hK _ _ s20 ?_
        clear hK K
        replace rz := rz.below q20 (Nat.le_refl _)
        refine hop2 (i := 2) (j := 6) (fuel := 6) (by kernel_rfl) rfl (by rfl) rfl (by rfl) (fun K hK => ?_) (fun K hK => ?_)
        · go_simp
          refine (hpar _ _ rz).mono ?_
          rintro e w21 ⟨rfl, q21⟩
          have s21 : Since w6 w21 := Since.trans s20 q21
          refine hK _ _ s21 ?_
          clear hK K
          clear rz
          refine held_reads (rs := [3, 4, 5]) (fuel := 3) (by kernel_rfl) (fun c d v a w h => by cases d <;> exact h) (by kernel_rfl) s21 (fun K hK => ?_)
          go_simp
          refine calm_move _ rfl (by rfl) rfl ?_
          go_simp
          refine calm_do (.agg #[.int .i64 0, .int .i64 0, .int .i64 0]) rfl (by rfl) (fun w' hw' => ?_) ?_
          · go_simp
          go_simp
          refine calm_do (.int .i64 4) rfl (by rfl) (fun w' hw' => ?_) ?_
          · go_simp
          go_simp
          refine calm_nil (hK.out _ ?_)
          clear hK K
          refine hop1 (i := 6) (fuel := 2) (by kernel_rfl) rfl (by rfl) (fun K hK => ?_)
          have q22 : Since w21 (w21.alloc (.cells #[.int .i64 0, .int .i64 0, .int .i64 0] 25)) := below_one _ _
          have s22 : Since w6 (w21.alloc (.cells #[.int .i64 0, .int .i64 0, .int .i64 0] 25)) := Since.trans s21 q22
          have hb : (w21.alloc (.cells #[.int .i64 0, .int .i64 0, .int .i64 0] 25)).heap[w21.heap.size]? = some (.cells #[.int .i64 0, .int .i64 0, .int .i64 0] 25 (0, 0)) := block_new w21 _ _
          have hlB : w6.heap.size ≤ w21.heap.size := s21.size
          go_simp
          refine hK _ _ s22 ?_
          clear hK K
          refine hop1 (i := 7) (fuel := 1) (by kernel_rfl) rfl (by rfl) (fun K hK => ?_)
          go_simp
          refine hK _ _ s22 ?_
          clear hK K
          refine held_reads (rs := [8]) (fuel := 0) (by kernel_rfl) (fun c d v a w h => by cases d <;> exact h) (by kernel_rfl) s22 (fun K hK => ?_)
          go_simp
          refine calm_assign _ rfl (by rfl) rfl ?_
          go_simp
          refine calm_nil (hK.out _ ?_)
          clear hK K
          refine wpAnyH_done (by kernel_rfl) ?_ _
          go_wp2
          go_meet
          exact ⟨rfl, s22⟩
        · have q24 : Since w20 (w20.alloc (.cells #[.int .i64 0, .int .i64 0, .int .i64 0] 25)) := below_one _ _
          have s24 : Since w6 (w20.alloc (.cells #[.int .i64 0, .int .i64 0, .int .i64 0] 25)) := Since.trans s20 q24
          have hb : (w20.alloc (.cells #[.int .i64 0, .int .i64 0, .int .i64 0] 25)).heap[w20.heap.size]? = some (.cells #[.int .i64 0, .int .i64 0, .int .i64 0] 25 (0, 0)) := block_new w20 _ _
          replace rz := rz.below q24 (Nat.le_refl _)
          have hlB : w6.heap.size ≤ w20.heap.size := s20.size
          go_simp
          refine hK _ _ s24 ?_
          clear hK K
          generalize hgen : w20.alloc (.cells #[.int .i64 0, .int .i64 0, .int .i64 0] 25) = w24 at *
          clear hgen
          generalize w20.heap.size = gA at *
          refine hop1 (i := 2) (fuel := 5) (by kernel_rfl) rfl (by rfl) (fun K hK => ?_)
          go_simp
          refine (hpar _ _ rz).mono ?_
          rintro e w25 ⟨rfl, q25⟩
          have s25 : Since w6 w25 := Since.trans s24 q25
          refine hK _ _ s25 ?_
          clear hK K
          replace hb := block_below hb q25 (lt_of_block hb)
          clear rz
          refine held_reads (rs := [3, 4, 5]) (fuel := 2) (by kernel_rfl) (fun c d v a w h => by cases d <;> exact h) (by kernel_rfl) s25 (fun K hK => ?_)
          go_simp
          refine calm_move _ rfl (by rfl) rfl ?_
          go_simp
          refine calm_do (.agg #[.int .i64 0, .int .i64 0, .int .i64 0]) rfl (by rfl) (fun w' hw' => ?_) ?_
          · go_simp
          go_simp
          refine calm_do (.int .i64 4) rfl (by rfl) (fun w' hw' => ?_) ?_
          · go_simp
          go_simp
          refine calm_nil (hK.out _ ?_)
          clear hK K
          refine hop1 (i := 7) (fuel := 1) (by kernel_rfl) rfl (by rfl) (fun K hK => ?_)
          have k0 : w25.cell? ⟨gA, 0, none⟩ = some (.int .i64 0) := by simp [World.cell?, hb]
          have k1 : w25.cell? ⟨gA, 1, none⟩ = some (.int .i64 0) := by simp [World.cell?, hb]
          have k2 : w25.cell? ⟨gA, 2, none⟩ = some (.int .i64 0) := by simp [World.cell?, hb]
          have kf : ∀ i, w25.frozen? ⟨gA, i, none⟩ = false := fun i => by simp [World.frozen?, hb]
          have sE : Since w6 (((w25.setCell ⟨gA, 0, none⟩ (.int .i64 0)).setCell ⟨gA, 1, none⟩ (.int .i64 0)).setCell ⟨gA, 2, none⟩ (.int .i64 0)) := below_set3 s25 hlB _ _ _
          clear hb
          go_simp
          refine hK _ _ sE ?_
          clear hK K
          refine held_reads (rs := [8]) (fuel := 0) (by kernel_rfl) (fun c d v a w h => by cases d <;> exact h) (by kernel_rfl) sE (fun K hK => ?_)
          go_simp
          refine calm_assign _ rfl (by rfl) rfl ?_
          go_simp
          refine calm_nil (hK.out _ ?_)
          clear hK K
          refine wpAnyH_done (by kernel_rfl) ?_ _
          go_wp2
          go_meet
          exact ⟨rfl, sE⟩
      · have q27 : Since w19 (w19.alloc (.cells #[.int .i64 0, .int .i64 0, .int .i64 0] 25)) := below_one _ _
        have s27 : Since w6 (w19.alloc (.cells #[.int .i64 0, .int .i64 0, .int .i64 0] 25)) := Since.trans s19 q27
        have hb : (w19.alloc (.cells #[.int .i64 0, .int .i64 0, .int .i64 0] 25)).heap[w19.heap.size]? = some (.cells #[.int .i64 0, .int .i64 0, .int .i64 0] 25 (0, 0)) := block_new w19 _ _
        replace rz := rz.below q27 (Nat.le_refl _)
        have hlB : w6.heap.size ≤ w19.heap.size := s19.size
        go_simp
        refine hK _ _ s27 ?_
        clear hK K
        generalize hgen : w19.alloc (.cells #[.int .i64 0, .int .i64 0, .int .i64 0] 25) = w27 at *
        clear hgen
        generalize w19.heap.size = gA at *
        refine hop1 (i := 0) (fuel := 6) (by kernel_rfl) rfl (by rfl) (fun K hK => ?_)
        go_simp
        refine (tiny9_any _).mono ?_
        rintro e w28 ⟨rfl, q28⟩
        have s28 : Since w6 w28 := Since.trans s27 q28
        refine hK _ _ s28 ?_
        clear hK K
        replace rz := rz.below q28 (Nat.le_refl _)
        replace hb := block_below hb q28 (lt_of_block hb)
        refine hop1 (i := 2) (fuel := 5) (by kernel_rfl) rfl (by rfl) (fun K hK => ?_)
        go_simp
        refine (hpar _ _ rz).mono ?_
        rintro e w29 ⟨rfl, q29⟩
        have s29 : Since w6 w29 := Since.trans s28 q29
        refine hK _ _ s29 ?_
        clear hK K
        replace hb := block_below hb q29 (lt_of_block hb)
        clear rz
        refine held_reads (rs := [3, 4, 5]) (fuel := 2) (by kernel_rfl) (fun c d v a w h => by cases d <;> exact h) (by kernel_rfl) s29 (fun K hK => ?_)
        go_simp
        refine calm_move _ rfl (by rfl) rfl ?_
        go_simp
        refine calm_do (.agg #[.int .i64 0, .int .i64 0, .int .i64 0]) rfl (by rfl) (fun w' hw' => ?_) ?_
        · go_simp
        go_simp
        refine calm_do (.int .i64 4) rfl (by rfl) (fun w' hw' => ?_) ?_
        · go_simp
        go_simp
        refine calm_nil (hK.out _ ?_)
        clear hK K
        refine hop1 (i := 7) (fuel := 1) (by kernel_rfl) rfl (by rfl) (fun K hK => ?_)
        have k0 : w29.cell? ⟨gA, 0, none⟩ = some (.int .i64 0) := by simp [World.cell?, hb]
        have k1 : w29.cell? ⟨gA, 1, none⟩ = some (.int .i64 0) := by simp [World.cell?, hb]
        have k2 : w29.cell? ⟨gA, 2, none⟩ = some (.int .i64 0) := by simp [World.cell?, hb]
        have kf : ∀ i, w29.frozen? ⟨gA, i, none⟩ = false := fun i => by simp [World.frozen?, hb]
        have sE : Since w6 (((w29.setCell ⟨gA, 0, none⟩ (.int .i64 0)).setCell ⟨gA, 1, none⟩ (.int .i64 0)).setCell ⟨gA, 2, none⟩ (.int .i64 0)) := below_set3 s29 hlB _ _ _
        clear hb
        go_simp
        refine hK _ _ sE ?_
        clear hK K
        refine held_reads (rs := [8]) (fuel := 0) (by kernel_rfl) (fun c d v a w h => by cases d <;> exact h) (by kernel_rfl) sE (fun K hK => ?_)
        go_simp
        refine calm_assign _ rfl (by rfl) rfl ?_
        go_simp
        refine calm_nil (hK.out _ ?_)
        clear hK K
        refine wpAnyH_done (by kernel_rfl) ?_ _
        go_wp2
        go_meet
        exact ⟨rfl, sE⟩
    · have q31 : Since w6 ((w6.alloc (.cells #[.int .i64 0, .int .i64 0, .int .i64 0] 25)).drew) := (below_one w6 _).drew
      have s31 : Since w6 ((w6.alloc (.cells #[.int .i64 0, .int .i64 0, .int .i64 0] 25)).drew) := q31
      have hb : ((w6.alloc (.cells #[.int .i64 0, .int .i64 0, .int .i64 0] 25)).drew).heap[w6.heap.size]? = some (.cells #[.int .i64 0, .int .i64 0, .int .i64 0] 25 (0, 0)) := block_new w6 _ _
      have hlB : w6.heap.size ≤ w6.heap.size := Nat.le_refl _
      go_simp
      refine hK _ _ s31 ?_
      clear hK K
      generalize hgen : (w6.alloc (.cells #[.int .i64 0, .int .i64 0, .int .i64 0] 25)).drew = w31 at *
      clear hgen
      refine hop2 (i := 0) (j := 1) (fuel := 7) (by kernel_rfl) rfl (by rfl) rfl (by rfl) (fun K hK => ?_) (fun K hK => ?_)
      · go_simp
        refine (tiny9_any _).mono ?_
        rintro e w32 ⟨rfl, q32⟩
        have s32 : Since w6 w32 := Since.trans s31 q32
        refine hK _ _ s32 ?_
        clear hK K
        replace hb := block_below hb q32 (lt_of_block hb)
        refine hop1 (i := 1) (fuel := 6) (by kernel_rfl) rfl (by rfl) (fun K hK => ?_)
        obtain ⟨w33, hrun, ownz, q33⟩ := makeZ9 16 16 rfl (by decide) (w32)
        have s33 : Since w6 w33 := Since.trans s32 q33
        go_simp
        refine hK _ _ s33 ?_
        clear hK K hrun
        replace hb := block_below hb q33 (lt_of_block hb)
        obtain ⟨az, cz, hez, rz⟩ := row_of_owns ownz
        cases hez
        clear ownz
        refine hop1 (i := 2) (fuel := 5) (by kernel_rfl) rfl (by rfl) (fun K hK => ?_)
        go_simp
        refine (hpar _ _ rz).mono ?_
        rintro e w34 ⟨rfl, q34⟩
        have s34 : Since w6 w34 := Since.trans s33 q34
        refine hK _ _ s34 ?_
        clear hK K
        replace hb := block_below hb q34 (lt_of_block hb)
        clear rz
        refine held_reads (rs := [3, 4, 5]) (fuel := 2) (by kernel_rfl) (fun c d v a w h => by cases d <;> exact h) (by kernel_rfl) s34 (fun K hK => ?_)
        go_simp
        refine calm_move _ rfl (by rfl) rfl ?_
        go_simp
        refine calm_do (.agg #[.int .i64 0, .int .i64 0, .int .i64 0]) rfl (by rfl) (fun w' hw' => ?_) ?_
        · go_simp
        go_simp
        refine calm_do (.int .i64 4) rfl (by rfl) (fun w' hw' => ?_) ?_
        · go_simp
        go_simp
        refine calm_nil (hK.out _ ?_)
        clear hK K
        refine hop1 (i := 7) (fuel := 1) (by kernel_rfl) rfl (by rfl) (fun K hK => ?_)
        have k0 : w34.cell? ⟨w6.heap.size, 0, none⟩ = some (.int .i64 0) := by simp [World.cell?, hb]
        have k1 : w34.cell? ⟨w6.heap.size, 1, none⟩ = some (.int .i64 0) := by simp [World.cell?, hb]
        have k2 : w34.cell? ⟨w6.heap.size, 2, none⟩ = some (.int .i64 0) := by simp [World.cell?, hb]
        have kf : ∀ i, w34.frozen? ⟨w6.heap.size, i, none⟩ = false := fun i => by simp [World.frozen?, hb]
        have sE : Since w6 (((w34.setCell ⟨w6.heap.size, 0, none⟩ (.int .i64 0)).setCell ⟨w6.heap.size, 1, none⟩ (.int .i64 0)).setCell ⟨w6.heap.size, 2, none⟩ (.int .i64 0)) := below_set3 s34 hlB _ _ _
        clear hb
        go_simp
        refine hK _ _ sE ?_
        clear hK K
        refine held_reads (rs := [8]) (fuel := 0) (by kernel_rfl) (fun c d v a w h => by cases d <;> exact h) (by kernel_rfl) sE (fun K hK => ?_)
        go_simp
        refine calm_assign _ rfl (by rfl) rfl ?_
        go_simp
        refine calm_nil (hK.out _ ?_)
        clear hK K
        refine wpAnyH_done (by kernel_rfl) ?_ _
        go_wp2
        go_meet
        exact ⟨rfl, sE⟩
      · obtain ⟨w36, hrun, ownz, q36⟩ := makeZ9 16 16 rfl (by decide) (w31)
        have s36 : Since w6 w36 := Since.trans s31 q36
        go_simp
        refine hK _ _ s36 ?_
        clear hK K hrun
        replace hb := block_below hb q36 (lt_of_block hb)
        obtain ⟨az, cz, hez, rz⟩ := row_of_owns ownz
        cases hez
        clear ownz
        refine hop1 (i := 0) (fuel := 6) (by kernel_rfl) rfl (by rfl) (fun K hK => ?_)
        go_simp
        refine (tiny9_any _).mono ?_
        rintro e w37 ⟨rfl, q37⟩
        have s37 : Since w6 w37 := Since.trans s36 q37
        refine hK _ _ s37 ?_
        clear hK K
        replace rz := rz.below q37 (Nat.le_refl _)
        replace hb := block_below hb q37 (lt_of_block hb)
        refine hop1 (i := 2) (fuel := 5) (by kernel_rfl) rfl (by rfl) (fun K hK => ?_)
        go_simp
        refine (hpar _ _ rz).mono ?_
        rintro e w38 ⟨rfl, q38⟩
        have s38 : Since w6 w38 := Since.trans s37 q38
        refine hK _ _ s38 ?_
        clear hK K
        replace hb := block_below hb q38 (lt_of_block hb)
        clear rz
        refine held_reads (rs := [3, 4, 5]) (fuel := 2) (by kernel_rfl) (fun c d v a w h => by cases d <;> exact h) (by kernel_rfl) s38 (fun K hK => ?_)
        go_simp
        refine calm_move _ rfl (by rfl) rfl ?_
        go_simp
        refine calm_do (.agg #[.int .i64 0, .int .i64 0, .int .i64 0]) rfl (by rfl) (fun w' hw' => ?_) ?_
        · go_simp
        go_simp
        refine calm_do (.int .i64 4) rfl (by rfl) (fun w' hw' => ?_) ?_
        · go_simp
        go_simp
        refine calm_nil (hK.out _ ?_)
        clear hK K
        refine hop1 (i := 7) (fuel := 1) (by kernel_rfl) rfl (by rfl) (fun K hK => ?_)
        have k0 : w38.cell? ⟨w6.heap.size, 0, none⟩ = some (.int .i64 0) := by simp [World.cell?, hb]
        have k1 : w38.cell? ⟨w6.heap.size, 1, none⟩ = some (.int .i64 0) := by simp [World.cell?, hb]
        have k2 : w38.cell? ⟨w6.heap.size, 2, none⟩ = some (.int .i64 0) := by simp [World.cell?, hb]
        have kf : ∀ i, w38.frozen? ⟨w6.heap.size, i, none⟩ = false := fun i => by simp [World.frozen?, hb]
        have sE : Since w6 (((w38.setCell ⟨w6.heap.size, 0, none⟩ (.int .i64 0)).setCell ⟨w6.heap.size, 1, none⟩ (.int .i64 0)).setCell ⟨w6.heap.size, 2, none⟩ (.int .i64 0)) := below_set3 s38 hlB _ _ _
        clear hb
        go_simp
        refine hK _ _ sE ?_
        clear hK K
        refine held_reads (rs := [8]) (fuel := 0) (by kernel_rfl) (fun c d v a w h => by cases d <;> exact h) (by kernel_rfl) sE (fun K hK => ?_)
        go_simp
        refine calm_assign _ rfl (by rfl) rfl ?_
        go_simp
        refine calm_nil (hK.out _ ?_)
        clear hK K
        refine wpAnyH_done (by kernel_rfl) ?_ _
        go_wp2
        go_meet
        exact ⟨rfl, sE⟩
  case rest =>
    obtain ⟨rfl, qc⟩ := hcut
    replace r6 := r6.below qc (Nat.le_refl _)
    replace q1 := btrans q1 qc
    clear qc hpar
    have kc := conv_row (P := Try.prog) Try.underlying30 Try.underlying5 Try.underlying9 r6
    rw [str_E16] at kc
    clear r6
    go_wp2_with fail
    go_ret
    exact ⟨rfl, q1⟩

end Go.Proofs.Ytefpmidjedfjmaa
