/-
  awake of layer 6's laws, out of the code's contracts. (Written by tools/gen/ecc_awake.py.)
-/
import Derived.Test.YtaabgfameegomaaEccCode6
import Derived.Test.YtaabgfameegomaaEccRef
import Derived.Deep.CutRange
namespace Go.Proofs.Ytaabgfameegomaa
open Go.RowKit
set_option linter.unusedVariables false
set_option maxRecDepth 8192

theorem tinyOk : GOk 1 2 1 16 1 16 2 18 19 := ⟨by decide, by decide, by decide, by decide, by decide, by decide, by decide, by decide, by decide, by decide, by decide⟩
/-- Two operations may come up: each is taken. -/
theorem held_fork {P : Program} {ops : Array Oper} {Q : Exit → Act → World → Prop} {md : Region.Mode} {w0 : World} {i j : Nat} {oi oj : Oper} {fuel : Nat} {listed : Array Bool} {a : Act} {w : World} (hr : Region.ready md ops listed = [i, j])
    (hoi : ops[i]? = some oi) (hwi : Region.wanted oi (yielded ops a.tmps) = true) (hoj : ops[j]? = some oj) (hwj : Region.wanted oj (yielded ops a.tmps) = true)
    (hi : ∀ K' : Act → World → Prop, (∀ a w1, Since w0 w1 → wpAnyH P md ops Q (Since w1) fuel (listed.setIfInBounds i true) a w1 → K' a w1) → Oper.wp P oi a w K' Q)
    (hj : ∀ K' : Act → World → Prop, (∀ a w1, Since w0 w1 → wpAnyH P md ops Q (Since w1) fuel (listed.setIfInBounds j true) a w1 → K' a w1) → Oper.wp P oj a w K' Q) :
    wpAnyH P md ops Q (Since w0) (fuel + 1) listed a w := by
  refine wpAnyH_all hr (by simp) fun k hk => ?_
  simp only [List.mem_cons, List.not_mem_nil, or_false] at hk
  rcases hk with rfl | rfl
  · refine wpOp_step hoi fun K' hK => ?_
    rw [if_pos hwi]
    exact hi K' fun a w1 hs hh => hK a w1 ⟨hs, held_strong (fun _ h' => hs.trans h') _ _ _ _ hh⟩
  · refine wpOp_step hoj fun K' hK => ?_
    rw [if_pos hwj]
    exact hj K' fun a w1 hs hh => hK a w1 ⟨hs, held_strong (fun _ h' => hs.trans h') _ _ _ _ hh⟩

theorem fill_start (z : List Int) (k : Nat) (hk : k ≤ z.length) : splice z k (List.replicate (k - k) 255) = z := by
  refine getD_ext (length_splice (by simp; omega)) fun q hq => ?_
  rw [splice_get (by simp; omega), if_neg (by simp)]
theorem fill_step {z : List Int} {k i : Nat} (hk : k ≤ i) (hi : i < z.length) : (splice z k (List.replicate (i - k) 255)).set i 255 = splice z k (List.replicate (i + 1 - k) 255) := by
  have l1 : (splice z k (List.replicate (i - k) 255)).length = z.length := length_splice (by simp; omega)
  have l2 : (splice z k (List.replicate (i + 1 - k) 255)).length = z.length := length_splice (by simp; omega)
  refine getD_ext (by rw [List.length_set, l1, l2]) fun q hq => ?_
  rw [set_get, splice_get (by simp; omega), splice_get (by simp; omega)]
  simp only [List.length_replicate]
  by_cases e : i = q
  · subst e
    rw [if_pos ⟨rfl, by omega⟩, if_pos (by omega), List.getElem?_replicate, if_pos (by omega)]
    rfl
  · rw [if_neg (fun h => e h.1)]
    by_cases h2 : k ≤ q ∧ q < i
    · rw [if_pos (by omega), if_pos (by omega), List.getElem?_replicate, List.getElem?_replicate, if_pos (by omega), if_pos (by omega)]
    · rw [if_neg (by omega), if_neg (by omega)]
theorem fill_all (n : Nat) : splice (List.replicate n 0) 0 (List.replicate (n - 0) 255) = List.replicate n 255 := by
  refine getD_ext (by rw [length_splice (by simp)]; simp) fun q hq => ?_
  rw [length_splice (by simp), List.length_replicate] at hq
  rw [splice_get (by simp), List.length_replicate, if_pos (by omega), Nat.sub_zero, Nat.sub_zero]
theorem isB_255 (n : Nat) : IsB (List.replicate n 255) := fun x hx => by rw [List.mem_replicate] at hx; rw [hx.2]; decide
theorem enc_zero : IsEnc 1 (List.replicate 16 0) [0, 0] := ⟨rfl, isB_all _ (by decide), fun i hi => by
  rcases (show i < 16 ∨ 16 ≤ i by omega) with h | h
  · exact bitI_zeros 2 i
  · exact bitI_zeros 2 i, fun i h1 h2 => by
  rcases (show i = 1 ∨ i = 2 by omega) with rfl | rfl
  · decide +kernel
  · decide +kernel⟩
theorem pack_zero : IsPack 1 16 1 2 18 (List.replicate 16 0) (List.replicate 19 0) := by
  refine ⟨rfl, isB_noughts 19, ⟨fun j hj => ?_, fun j hj => ?_⟩, rfl⟩
  · have e : j = 0 := by omega
    subst e
    rfl
  · have e : j = 0 := by omega
    subst e
    exact enc_zero
theorem dec_flip : IsDec 1 (part ((List.replicate 19 0).set 3 4) (0 * 18) 16) (part ((List.replicate 19 0).set 3 4) (0 * 18 + 16) 2) (List.replicate 16 0) [0, 0] 1 :=
  ⟨rfl, rfl, isB_noughts 16, isB_all _ (by decide), enc_zero.above, enc_zero.cw, by decide +kernel, Nat.le_refl _⟩
theorem sec_flip {c : Sec} (h : IsSec 1 (part ((List.replicate 19 0).set 3 4) (0 * 18) 16) (part ((List.replicate 19 0).set 3 4) (0 * 18 + 16) 2) c) : c.e = 0 ∧ c.d = List.replicate 16 0 ∧ c.n = 1 := by
  rcases h with ⟨h0, k, hk⟩ | ⟨_, _, _, hno⟩
  · obtain ⟨h1, _, h3⟩ := dec_unique (by decide) hk dec_flip
    exact ⟨h0, h1, h3⟩
  · exact absurd dec_flip (hno _ _ _)
/-- 'make([]byte, n)'. -/
theorem makeZ (n : Nat) (c : Int) (hc : c = (n : Int)) (hn : n ≤ 1000) (w : World) : ∃ w', Sem.run Try.prog (Instr.makeSlice 24 (.int .i64 c) (.int .i64 c)) w = .ok (.slice (some ⟨w.heap.size, 0, none⟩) n n) w' ∧
    w'.ownsRow w.heap.size 5 1 (.slice (some ⟨w.heap.size, 0, none⟩) n n) n ((List.replicate n (0 : Int)).map (Value.int .u8)) ∧ Below w.heap.size w w' := by
  subst hc
  obtain ⟨i0, hi0, hz0, hz1, hz2⟩ := info_parts Try.info5
  obtain ⟨w', hrun, r1, r2⟩ := run_make_full (P := Try.prog) w w.heap.size 24 5 i0 (.int .u8 0) 1 Try.underlying24 hi0 hz0 hz1 .i64 .i64 n (by rw [hz2]; omega) (by unfold maxLen; omega) (Nat.le_refl _)
  rw [made_ints] at r1
  exact ⟨w', hrun, r1, (Below.refl _ _).grown r2 (Nat.le_refl _) (by simp)⟩
set_option maxHeartbeats 6400000 in
set_option maxRecDepth 100000 in
theorem awake6_any (hB : HBitsC) (hE : HEncC) (hD : HDecC) (w : World) : Calls Try.prog 15 #[] w fun e w' => e = .returned (.bool true) ∧ Below w.heap.size w w' := by
  have HFS : Hid (∀ i, i < 19 → (splice (List.replicate 19 0) 0 (List.replicate (i - 0) 255)).set i 255 = splice (List.replicate 19 0) 0 (List.replicate (i + 1 - 0) 255)) := fun i hi => fill_step (Nat.zero_le _) (by simpa using hi)
  have HF0 : Hid (splice (List.replicate 19 0) 0 (List.replicate (0 - 0) 255) = List.replicate 19 0) := fill_start _ 0 (Nat.zero_le _)
  have HFA : Hid (splice (List.replicate 19 0) 0 (List.replicate (19 - 0) 255) = List.replicate 19 255) := fill_all 19
  obtain ⟨w1, hrun, own1, q1⟩ := makeZ 19 19 rfl (by decide) w
  go_enter Try.func15, Try.ntmps15
  go_wp2_with fail
  clear hrun
  go_loopw [2] (fun y wr => ∃ i : Nat, i ≤ 19 ∧ y = .int .i64 i ∧ wr.ownsRow w.heap.size 5 1 (.slice (some ⟨w.heap.size, 0, none⟩) 19 19) 19 ((splice (List.replicate 19 0) 0 (List.replicate (i - 0) 255)).map (Value.int .u8)) ∧ Below w.heap.size w wr) (fun y _ => 19 - (intOf y).toNat)
  case atStart => exact ⟨0, by decide, rfl, by rw [HF0.out]; exact own1, q1⟩
  case round =>
    clear own1 q1 HF0
    obtain ⟨i, hi, rfl, own, q⟩ := hrel
    by_cases hlt : i < 19
    case pos =>
      have hcl := owned_cell own i hlt
      have hfz := own.frozenAt i
      have R := owned_set (q := i) (x := 255) (Nat.le_refl _) own q
      rw [HFS.out i hlt] at R
      have HR : Hid _ := R
      clear R own q
      generalize (splice (List.replicate 19 0) 0 (List.replicate (i - 0) 255))[i]?.getD 0 = zi at hcl
      go_wp2_with fail
      go_roundw
      case rel => exact ⟨i + 1, by omega, by go_num, HR.out.1, HR.out.2⟩
      case measure => simp [intOf]; omega
    have e : i = 19 := by omega
    subst e
    rw [HFA.out] at own
    have rb := isB_of_row own
    clear own HFS HFA hlt hi
    generalize hg : w.heap.size = gb at rb
    clear hg
    have hraw : ∀ w, Calls Try.prog 12 #[.agg #[.int .i64 1, .int .i64 2, .int .i64 1, .int .i64 16, .int .i64 1]] w fun e w' => e = .returned (.tuple #[.int .i64 19, .int .i64 0]) ∧ Below w.heap.size w w' := fun w => eccRaw_yes hB tinyOk w
    have hun : ∀ w gb, Row .u8 w (some ⟨gb, 0, none⟩) 19 19 (List.replicate 19 255) → Calls Try.prog 19 #[.agg #[.int .i64 1, .int .i64 2, .int .i64 1, .int .i64 16, .int .i64 1], .slice (some ⟨gb, 0, none⟩) 19 19] w fun e w' => e = .returned (.tuple #[.slice none 0 0, .int .i64 61]) ∧ Below w.heap.size w w' := fun w gb r => eccUnpack_mark hB tinyOk _ _ _ w r (isB_255 19) (by decide) 61 (by show _ = _; decide +kernel)
    have hpk : ∀ w gz, Row .u8 w (some ⟨gz, 0, none⟩) 16 16 (List.replicate 16 0) → Calls Try.prog 13 #[.agg #[.int .i64 1, .int .i64 2, .int .i64 1, .int .i64 16, .int .i64 1], .slice (some ⟨gz, 0, none⟩) 16 16] w fun e w' => ∃ gr, w.heap.size ≤ gr ∧ e = .returned (.tuple #[.slice (some ⟨gr, 0, none⟩) 19 19, .int .i64 0]) ∧ w'.ownsRow w.heap.size 5 1 (.slice (some ⟨gr, 0, none⟩) 19 19) 19 ((List.replicate 19 (0 : Int)).map (Value.int .u8)) ∧ Below w.heap.size w w' := fun w gz r => by
      refine (eccPack_yes hB hE tinyOk _ _ _ w r (isB_noughts 16)).mono ?_
      rintro e w2 ⟨z, gr, hz, hgr, rfl, own, q⟩
      obtain rfl := pack_unique (by decide) (by decide) (by decide) hz pack_zero
      exact ⟨gr, hgr, rfl, own, q⟩
    have hrd : ∀ w gr, Row .u8 w (some ⟨gr, 0, none⟩) 19 19 ((List.replicate 19 0).set 3 4) → Calls Try.prog 20 #[.agg #[.int .i64 1, .int .i64 2, .int .i64 1, .int .i64 16, .int .i64 1], .slice (some ⟨gr, 0, none⟩) 19 19] w fun e w' => ∃ ao co, e = .returned (.tuple #[.slice ao 16 co, .int .i64 1, .int .i64 0]) ∧ Row .u8 w' ao 16 co (List.replicate 16 0) ∧ Below w.heap.size w w' := fun w gr r => by
      refine (eccRead_yes hB tinyOk _ _ _ w r (isB_set (isB_noughts 19) _ _ (by decide) (by decide)) hD (by decide)).mono ?_
      rintro e w2 ⟨S, hS, h⟩
      obtain ⟨h0, h1, h2⟩ := sec_flip (hS 0 (by decide))
      rcases h with ⟨⟨j, hj, hne⟩, _⟩ | ⟨_, ao, co, rfl, r2, q⟩
      · obtain rfl : j = 0 := by omega
        exact absurd h0 hne
      · have e1 : dataTo S 1 = List.replicate 16 0 := by simp [dataTo, h1]
        have e2 : mostTo S 1 = 1 := by simp [mostTo, h2]
        rw [e1] at r2
        rw [e2]
        exact ⟨ao, co, rfl, r2, q⟩
    go_wp2_with fail
    refine (tiny_any _).mono ?_
    rintro e w2 ⟨rfl, qq⟩
    replace rb := rb.below qq (Nat.le_refl _)
    replace q := btrans q qq
    clear qq
    go_wp2_with fail
    refine (hraw _).mono ?_
    rintro e w3 ⟨rfl, qq⟩
    replace rb := rb.below qq (Nat.le_refl _)
    replace q := btrans q qq
    clear qq hraw
    go_wp2_with fail
    refine (tiny_any _).mono ?_
    rintro e w4 ⟨rfl, qq⟩
    replace rb := rb.below qq (Nat.le_refl _)
    replace q := btrans q qq
    clear qq
    go_wp2_with fail
    refine (hun _ _ rb).mono ?_
    rintro e w5 ⟨rfl, qq⟩
    replace q := btrans q qq
    clear qq hun rb
    have hq := q.size
    have hqd : w.heap.size ≤ w5.drew.heap.size := hq
    go_upto_region 8 with fail
    go_cut [7, 8] from 31 to 36 (fun x7 x8 wx => ∃ gr, w.heap.size ≤ gr ∧ x7 = .slice (some ⟨gr, 0, none⟩) 19 19 ∧ x8 = .int .i64 0 ∧ wx.ownsRow w.heap.size 5 1 (.slice (some ⟨gr, 0, none⟩) 19 19) 19 ((List.replicate 19 (0 : Int)).map (Value.int .u8)) ∧ Below w.heap.size w wx)
    case first =>
      refine held_begin (by kernel_rfl) ?_
      refine held_fork (i := 0) (j := 1) (fuel := 7) (by kernel_rfl) rfl (by rfl) rfl (by rfl) (fun K hK => ?_) (fun K hK => ?_)
      · go_simp
        refine (tiny_any _).mono ?_
        rintro e w6 ⟨rfl, qA⟩
        refine hK _ _ (Since.trans (Since.drew _) qA) ?_
        clear hK K
        obtain ⟨w7, hrun, own7, q7⟩ := makeZ 16 16 rfl (by decide) w6
        have rz := isB_of_row own7
        refine held_call (i := 1) (fuel := 6) (by kernel_rfl) rfl (by rfl) (fun K hK => ?_)
        go_simp
        refine hK _ _ q7 ?_
        clear hK K hrun
        refine held_call (i := 2) (fuel := 5) (by kernel_rfl) rfl (by rfl) (fun K hK => ?_)
        go_simp
        refine (hpk _ _ rz).mono ?_
        rintro e w8 ⟨gr, hgr, rfl, own8, q8⟩
        refine hK _ _ q8 ?_
        clear hK K
        refine held_reads (rs := [3, 4, 5, 6, 7]) (fuel := 0) (by kernel_rfl) (fun c d v a w h => by cases d <;> exact h) (by kernel_rfl) (Since.refl _) (fun K hK => ?_)
        go_simp
        refine calm_move _ rfl (by rfl) rfl ?_
        go_simp
        refine calm_do (.slice (some ⟨gr, 0, none⟩) 19 19) rfl (by rfl) (fun w' hw' => ?_) ?_
        · go_simp
        go_simp
        refine calm_do (.int .i64 0) rfl (by rfl) (fun w' hw' => ?_) ?_
        · go_simp
        go_simp
        refine calm_assign _ rfl (by rfl) rfl ?_
        go_simp
        refine calm_assign _ rfl (by rfl) rfl ?_
        go_simp
        refine calm_nil (hK.out _ ?_)
        clear hK K
        refine wpAnyH_done (by kernel_rfl) ?_ _
        go_wp2
        go_meet
        exact ⟨gr, by have := q7.size; have := qA.size; omega, rfl, rfl, owns_base own8 (by have := q7.size; have := qA.size; omega), btrans (btrans (btrans q.drew qA) q7) q8⟩
      · obtain ⟨w6, hrun, own6, qA⟩ := makeZ 16 16 rfl (by decide) w5.drew
        have rz := isB_of_row own6
        go_simp
        refine hK _ _ (Since.trans (Since.drew _) qA) ?_
        clear hK K hrun
        refine held_call (i := 0) (fuel := 6) (by kernel_rfl) rfl (by rfl) (fun K hK => ?_)
        go_simp
        refine (tiny_any _).mono ?_
        rintro e w7 ⟨rfl, q7⟩
        refine hK _ _ q7 ?_
        clear hK K
        replace rz := rz.below q7 (Nat.le_refl _)
        refine held_call (i := 2) (fuel := 5) (by kernel_rfl) rfl (by rfl) (fun K hK => ?_)
        go_simp
        refine (hpk _ _ rz).mono ?_
        rintro e w8 ⟨gr, hgr, rfl, own8, q8⟩
        refine hK _ _ q8 ?_
        clear hK K
        refine held_reads (rs := [3, 4, 5, 6, 7]) (fuel := 0) (by kernel_rfl) (fun c d v a w h => by cases d <;> exact h) (by kernel_rfl) (Since.refl _) (fun K hK => ?_)
        go_simp
        refine calm_move _ rfl (by rfl) rfl ?_
        go_simp
        refine calm_do (.slice (some ⟨gr, 0, none⟩) 19 19) rfl (by rfl) (fun w' hw' => ?_) ?_
        · go_simp
        go_simp
        refine calm_do (.int .i64 0) rfl (by rfl) (fun w' hw' => ?_) ?_
        · go_simp
        go_simp
        refine calm_assign _ rfl (by rfl) rfl ?_
        go_simp
        refine calm_assign _ rfl (by rfl) rfl ?_
        go_simp
        refine calm_nil (hK.out _ ?_)
        clear hK K
        refine wpAnyH_done (by kernel_rfl) ?_ _
        go_wp2
        go_meet
        exact ⟨gr, by have := q7.size; have := qA.size; omega, rfl, rfl, owns_base own8 (by have := q7.size; have := qA.size; omega), btrans (btrans (btrans q.drew qA) q7) q8⟩
    case rest =>
      clear q
      obtain ⟨gr, hgr, rfl, rfl, own, q1⟩ := hcut
      clear hpk
      have hcl := owned_cell own 3 (by decide)
      have hfz := own.frozenAt 3
      have R := owned_set (q := 3) (x := 4) hgr own q1
      have HR : Hid _ := R
      clear R own q1
      generalize (List.replicate 19 (0 : Int))[3]?.getD 0 = zi at hcl
      go_wp2_with fail
      clear hcl hfz
      obtain ⟨own, q1⟩ := HR.out
      clear HR
      generalize wc.setCell ⟨gr, 3, none⟩ (.int .u8 4) = wd at *
      have rz := isB_of_row own
      clear own
      refine (tiny_any _).mono ?_
      rintro e w6 ⟨rfl, qq⟩
      replace rz := rz.below qq (Nat.le_refl _)
      replace q1 := btrans q1 qq
      clear qq
      go_wp2_with fail
      refine (hrd _ _ rz).mono ?_
      rintro e w7 ⟨ao, co, rfl, rd, qq⟩
      replace q1 := btrans q1 qq
      clear qq hrd rz
      obtain ⟨Z, hZ⟩ : ∃ Z, List.replicate 16 (0 : Int) = Z := ⟨_, rfl⟩
      rw [hZ] at rd
      have HZ : Hid (List.replicate 16 (0 : Int) = Z) := hZ
      clear hZ
      go_wp2_with fail
      refine held_begin (by kernel_rfl) ?_
      refine held_reads (rs := [0, 1, 2, 3, 4, 5, 6, 7, 8, 9, 10, 11, 12, 13, 14, 15, 16]) (fuel := 13) (by kernel_rfl) (fun c d v a w h => by cases d <;> exact h) (by kernel_rfl) (Since.drew _) (fun K hK => ?_)
      refine calm_move _ rfl (by rfl) rfl ?_
      go_simp
      refine calm_do (.bool true) rfl (by rfl) (fun w' hw' => ?_) ?_
      · go_simp
      go_simp
      refine calm_move _ rfl (by rfl) rfl ?_
      go_simp
      refine calm_move _ rfl (by rfl) rfl ?_
      go_simp
      refine calm_do (.bool true) rfl (by rfl) (fun w' hw' => ?_) ?_
      · go_simp
      go_simp
      refine calm_do (.bool true) rfl (by rfl) (fun w' hw' => ?_) ?_
      · go_simp
      go_simp
      refine calm_move _ rfl (by rfl) rfl ?_
      go_simp
      refine calm_move _ rfl (by rfl) rfl ?_
      go_simp
      refine calm_do (.bool true) rfl (by rfl) (fun w' hw' => ?_) ?_
      · go_simp
      go_simp
      refine calm_do (.bool true) rfl (by rfl) (fun w' hw' => ?_) ?_
      · go_simp
      go_simp
      refine calm_move _ rfl (by rfl) rfl ?_
      go_simp
      refine calm_move _ rfl (by rfl) rfl ?_
      go_simp
      refine calm_do (.bool true) rfl (by rfl) (fun w' hw' => ?_) ?_
      · go_simp
      go_simp
      refine calm_do (.bool true) rfl (by rfl) (fun w' hw' => ?_) ?_
      · go_simp
      go_simp
      refine calm_move _ rfl (by rfl) rfl ?_
      go_simp
      refine calm_move _ rfl (by rfl) rfl ?_
      go_simp
      refine calm_do (.string (strOfNums Z)) rfl (by rfl) (fun w' hw' => ?_) ?_
      · have hcc := conv_row Try.underlying24 Try.underlying5 Try.underlying9 (rd.below hw' (Nat.le_refl _))
        go_simp
      go_simp
      refine calm_nil (hK.out _ ?_)
      clear hK K
      obtain ⟨w8, hrun, own8, qq0⟩ := makeZ 16 16 rfl (by decide) (w7.drew)
      refine held_call (i := 17) (fuel := 12) (by kernel_rfl) rfl (by rfl) (fun K hK => ?_)
      go_simp
      refine hK _ _ (Since.trans (Since.drew _) qq0) ?_
      have qq : Since _ _ := Since.trans (Since.drew _) qq0
      clear hK K qq0 hrun
      replace rd := rd.below qq (Nat.le_refl _)
      replace q1 := btrans q1 qq
      clear qq
      rw [HZ.out] at own8
      have r8 : Row .u8 w8 (some ⟨w7.heap.size, 0, none⟩) 16 16 Z := isB_of_row own8
      clear own8
      refine held_reads (rs := [18, 19, 20, 21, 22, 23, 24, 25, 26, 27, 28, 29]) (fuel := 0) (by kernel_rfl) (fun c d v a w h => by cases d <;> exact h) (by kernel_rfl) (Since.refl _) (fun K hK => ?_)
      go_simp
      refine calm_do (.string (strOfNums Z)) rfl (by rfl) (fun w' hw' => ?_) ?_
      · have hcc := conv_row Try.underlying24 Try.underlying5 Try.underlying9 (r8.below hw' (Nat.le_refl _))
        go_simp
      go_simp
      refine calm_do (.bool true) rfl (by rfl) (fun w' hw' => ?_) ?_
      · go_simp
      go_simp
      refine calm_do (.bool true) rfl (by rfl) (fun w' hw' => ?_) ?_
      · go_simp
      go_simp
      refine calm_move _ rfl (by rfl) rfl ?_
      go_simp
      refine calm_move _ rfl (by rfl) rfl ?_
      go_simp
      refine calm_do (.bool true) rfl (by rfl) (fun w' hw' => ?_) ?_
      · go_simp
      go_simp
      refine calm_do (.bool true) rfl (by rfl) (fun w' hw' => ?_) ?_
      · go_simp
      go_simp
      refine calm_move _ rfl (by rfl) rfl ?_
      go_simp
      refine calm_move _ rfl (by rfl) rfl ?_
      go_simp
      refine calm_do (.bool true) rfl (by rfl) (fun w' hw' => ?_) ?_
      · go_simp
      go_simp
      refine calm_do (.bool true) rfl (by rfl) (fun w' hw' => ?_) ?_
      · go_simp
      go_simp
      refine calm_assign _ rfl (by rfl) rfl ?_
      go_simp
      refine calm_nil (hK.out _ ?_)
      clear hK K
      refine wpAnyH_done (by kernel_rfl) ?_ _
      go_wp2
      go_ret
      exact ⟨rfl, q1⟩

end Go.Proofs.Ytaabgfameegomaa
