/-
  Layer 14's laws: the walk of Sha512Steps. (Written by tools/gen/shb_steps.py.)
-/
import Derived.Test.YthcnnglpncblaaaShbAwake
import Derived.Lib.Strings
namespace Go.Proofs.Ythcnnglpncblaaa.B
open Go.RowKit
set_option linter.unusedVariables false
set_option maxRecDepth 8192

theorem bytes_nat4 {zs : List Int} (h : ∀ n ∈ zs, 0 ≤ n ∧ n ≤ 255) : ∃ l : List Nat, zs = nI l ∧ ∀ x ∈ l, x < 256 := by
  refine ⟨zs.map Int.toNat, ?_, ?_⟩
  · unfold nI
    rw [List.map_map]
    have e : zs.map ((fun n : Nat => (n : Int)) ∘ Int.toNat) = zs.map id := by
      apply List.map_congr_left
      intro x hx
      have := h x hx
      simp
      omega
    rw [e, List.map_id]
  · intro x hx
    obtain ⟨y, hy, rfl⟩ := List.mem_map.1 hx
    have := h y hy
    omega
theorem bytes_get8 (s : S8) (i j : Nat) (hi : i < 8) (hj : j < 8) : s.bytes[8 * i + j]?.getD 0 = s.list[i]?.getD 0 / 2 ^ (56 - 8 * j) % 256 := by
  rcases (show i = 0 ∨ i = 1 ∨ i = 2 ∨ i = 3 ∨ i = 4 ∨ i = 5 ∨ i = 6 ∨ i = 7 by omega) with rfl | rfl | rfl | rfl | rfl | rfl | rfl | rfl <;> rcases (show j = 0 ∨ j = 1 ∨ j = 2 ∨ j = 3 ∨ j = 4 ∨ j = 5 ∨ j = 6 ∨ j = 7 by omega) with rfl | rfl | rfl | rfl | rfl | rfl | rfl | rfl <;> simp [S8.bytes, S8.list, be8]
theorem list8_lt4 {s : S8} (h : s.Ok) (i : Nat) : s.list[i]?.getD 0 < 18446744073709551616 := getD_lt (by decide) (by
  intro x hx
  simp only [S8.list, List.mem_cons, List.not_mem_nil, or_false] at hx
  obtain ⟨ha, hb, hc, hd, he, hf, hg, hh⟩ := h
  rcases hx with rfl | rfl | rfl | rfl | rfl | rfl | rfl | rfl <;> assumption) i
section
variable {P : Program} {ops : Array Oper} {Q : Exit → Act → World → Prop} {md : Region.Mode} {S : World → Prop}
/-- Two operations may come up. -/
theorem heldT_op2 {i j : Nat} {oi oj : Oper} {fuel : Nat} {listed : Array Bool} {a : Act} {w : World} (hr : Region.ready md ops listed = [i, j]) (hoi : ops[i]? = some oi)
    (hwi : Region.wanted oi (yielded ops a.tmps) = true) (hoj : ops[j]? = some oj) (hwj : Region.wanted oj (yielded ops a.tmps) = true)
    (hi : ∀ K' : Act → World → Prop, (∀ a w1, S w1 → wpAnyH P md ops Q S fuel (listed.setIfInBounds i true) a w1 → K' a w1) → Oper.wp P oi a w K' Q)
    (hj : ∀ K' : Act → World → Prop, (∀ a w1, S w1 → wpAnyH P md ops Q S fuel (listed.setIfInBounds j true) a w1 → K' a w1) → Oper.wp P oj a w K' Q) :
    wpAnyH P md ops Q S (fuel + 1) listed a w := by
  refine wpAnyH_all hr (by simp) fun k hk => ?_
  simp only [List.mem_cons, List.not_mem_nil, or_false] at hk
  rcases hk with rfl | rfl
  · refine wpOp_step hoi fun K' hK => ?_
    rw [if_pos hwi]
    exact hi K' fun a w1 hs hh => hK a w1 ⟨hs, hh⟩
  · refine wpOp_step hoj fun K' hK => ?_
    rw [if_pos hwj]
    exact hj K' fun a w1 hs hh => hK a w1 ⟨hs, hh⟩
end
theorem run_headA {P : Program} (t e : TypeId) (hu : P.underlying t = some (.slice e)) (he : (P.info? e).map (·.size) = some 1) (b off len cap h : Nat) (k : IntKind) (hc : h ≤ cap) (w : World) :
    (Instr.sliceAt t (.slice (some ⟨b, off, none⟩) len cap) none (some (.int k (h : Int))) none).run P w = .ok (.slice (some ⟨b, off, none⟩) h cap) w := by
  have hel : P.elem t = e := by simp [Program.elem, hu]
  obtain ⟨inf, hq, hs⟩ := Option.map_eq_some_iff.1 he
  have hu' : P.underlying t = some (.slice (P.elem t)) := by rw [hel]; exact hu
  rw [run_sliceAt_slice w t _ _ _ _ hu', run_slice_h w t _ len cap hu' k (h : Int) (by omega) (by omega)]
  rw [hel]
  simp [sizeOf, typeInfo, hq, hs, sliced, plain_add]
theorem row_head {k : IntKind} {w : World} {a : Option Addr} {len cap : Nat} {zs : List Int} (hr : Row k w a len cap zs) (h : Nat) (hh : h ≤ len) : Row k w a h cap (zs.take h) := by
  have hl := hr.hlen
  refine ⟨by simp; omega, Nat.le_trans hh hr.hcap, hr.hmax, hr.hnil, fun h0 => ?_⟩
  obtain ⟨b, off, rfl, hbs, hcell⟩ := hr.hcell (by omega)
  refine ⟨b, off, rfl, hbs, fun i hi => ?_⟩
  rw [hcell i (by omega), List.getElem?_take, if_pos hi]
set_option maxHeartbeats 6400000 in
theorem walk_steps_gen (K : List Nat) (S : S8) (hSok : S.Ok)
    (cSt : ∀ w, Calls Try.prog 11 #[] w fun e w' => e = .returned (.agg ((nI S.list).map (Value.int .u64)).toArray) ∧ Below w.heap.size w w')
    (cB : ∀ (s : S8) (z : List Nat) (a : Option Addr) (cap : Nat) (w : World), s.Ok → Row .u8 w a 128 cap (nI z) → (∀ x ∈ z, x < 256) → Calls Try.prog 13 #[.agg ((nI s.list).map (Value.int .u64)).toArray, .slice a 128 cap] w fun e w' => e = .returned (.tuple #[.agg ((nI (mixL K s z).list).map (Value.int .u64)).toArray, .int .i64 0]) ∧ Below w.heap.size w w')
    (cS : ∀ (w : World) (c : Nat) (a : Option Addr) (len cap : Nat) (z : List Nat), c < w.heap.size → PartIn w c 0 a len cap z → Calls Try.prog 15 #[.slice (some ⟨c, 0, none⟩) 1 1] w fun e w' => e = .returned (.agg ((nI (sumL K S z)).map (Value.int .u8)).toArray) ∧ Below w.heap.size w w')
    (z : List Nat) (a : Option Addr) (len cap : Nat) (w : World) (hr : Row .u8 w a len cap (nI z)) (hz : ∀ x ∈ z, x < 256) : Calls Try.prog 7 #[.slice a len cap] w fun e w' => e = .returned (.bool true) ∧ Below w.heap.size w w' := by
  by_cases hbig : 1000 < len
  · go_enter Try.func7, Try.ntmps7
    go_wp2
    go_ret
    exact ⟨rfl, Below.refl _ _⟩
  have hsm : len ≤ 1000 := by omega
  have HLz : Hid (z.length = len) := by have := hr.hlen; rw [nI_length] at this; exact this
  have hnl := noughts_lt len
  have hpw := pad_whole len
  have HBY : Hid (∀ x ∈ z ++ padL len, x < 256) := fun x hx => by
    rcases List.mem_append.1 hx with h' | h'
    · exact hz x h'
    · exact padL_lt len x h'
  obtain ⟨TB, hTB⟩ : ∃ TB, len + (noughts len + 17) = 128 * TB := ⟨(len + (noughts len + 17)) / 128, by omega⟩
  have HSU : Hid (sumL K S z = (blocksTo K S (z ++ padL len) TB).bytes) := by
    show _ = _
    unfold sumL
    rw [HLz.out, show (len + (noughts len + 17)) / 128 = TB from by omega]
  have hTBl : TB ≤ 9 := by omega
  have HRB : Hid (w.heap.size ≤ w.heap.size) := Nat.le_refl _
  obtain ⟨M, hM⟩ : ∃ M, 128 * TB = M := ⟨_, rfl⟩
  have HM : Hid (128 * TB = M) := hM
  rw [hM] at hTB
  have hMl : M ≤ 1152 := by omega
  go_enter Try.func7, Try.ntmps7
  go_wp2_with fail
  refine (pad_any z a len cap _ hr (by omega)).mono ?_
  rintro e w1 ⟨v1, rfl, own1, q1⟩
  obtain ⟨aP, cP, rfl, rP⟩ := row_of_owns own1
  clear own1
  have rh := row_head rP len (by omega)
  rw [nI_take, List.take_append_of_le_length (by rw [HLz.out]; exact Nat.le_refl _), List.take_of_length_le (by rw [HLz.out]; exact Nat.le_refl _)] at rh
  have hm1 : len + 17 ≤ M := by omega
  have hm2 : M ≤ len + 144 := by omega
  rw [hTB] at rP ⊢
  obtain ⟨bp, op, rfl, hbp, _⟩ := rP.hcell (by omega)
  have hcapp := rP.hcap
  have ePm : (M : Int) % 128 = 0 := by omega
  have rd := hr.below q1 (Nat.le_refl _)
  generalize z ++ padL len = P at *
  clear hTB hpw hnl hM
  go_wp2_with fail
  refine held_begin (by kernel_rfl) ?_
  refine held_reads (rs := [0, 1, 2, 3, 4, 5, 6, 7, 8, 9, 10, 11, 12, 13, 14, 15, 16, 17, 18, 19, 20, 21, 22, 23, 24, 25, 26, 27, 28, 29]) (fuel := 0) (by kernel_rfl) (fun c d v a w h => by cases d <;> exact h) (by kernel_rfl) (Since.drew _) (fun K hK => ?_)
  refine calm_move _ rfl (by rfl) rfl ?_
  go_simp
  refine calm_do (.int .i64 (M : Int)) rfl (by rfl) (fun w' hw' => ?_) ?_
  · go_simp
  go_simp
  refine calm_do (.int .i64 0) rfl (by rfl) (fun w' hw' => ?_) ?_
  · have ePt : (M : Int).tmod 128 = 0 := by rw [Int.tmod_eq_emod_of_nonneg (by omega)]; exact ePm
    go_simp
  go_simp
  refine calm_do (.bool false) rfl (by rfl) (fun w' hw' => ?_) ?_
  · go_simp
  go_simp
  refine calm_move _ rfl (by rfl) rfl ?_
  go_simp
  refine calm_move _ rfl (by rfl) rfl ?_
  go_simp
  refine calm_do (.int .i64 (M : Int)) rfl (by rfl) (fun w' hw' => ?_) ?_
  · go_simp
  go_simp
  refine calm_move _ rfl (by rfl) rfl ?_
  go_simp
  refine calm_do (.int .i64 (len : Int)) rfl (by rfl) (fun w' hw' => ?_) ?_
  · go_simp
  go_simp
  refine calm_do (.int .i64 ((len : Int) + 17)) rfl (by rfl) (fun w' hw' => ?_) ?_
  · skip
    go_simp
    all_goals (first | omega | (rw [IntKind.wrap_i64]; omega))
  go_simp
  refine calm_do (.bool false) rfl (by rfl) (fun w' hw' => ?_) ?_
  · skip
    go_simp
    all_goals omega
  go_simp
  refine calm_do (.bool false) rfl (by rfl) (fun w' hw' => ?_) ?_
  · go_simp
  go_simp
  refine calm_move _ rfl (by rfl) rfl ?_
  go_simp
  refine calm_move _ rfl (by rfl) rfl ?_
  go_simp
  refine calm_do (.int .i64 (M : Int)) rfl (by rfl) (fun w' hw' => ?_) ?_
  · go_simp
  go_simp
  refine calm_move _ rfl (by rfl) rfl ?_
  go_simp
  refine calm_do (.int .i64 (len : Int)) rfl (by rfl) (fun w' hw' => ?_) ?_
  · go_simp
  go_simp
  refine calm_do (.int .i64 ((len : Int) + 144)) rfl (by rfl) (fun w' hw' => ?_) ?_
  · skip
    go_simp
    all_goals (first | omega | (rw [IntKind.wrap_i64]; omega))
  go_simp
  refine calm_do (.bool false) rfl (by rfl) (fun w' hw' => ?_) ?_
  · skip
    go_simp
    all_goals omega
  go_simp
  refine calm_do (.bool false) rfl (by rfl) (fun w' hw' => ?_) ?_
  · go_simp
  go_simp
  refine calm_move _ rfl (by rfl) rfl ?_
  go_simp
  refine calm_move _ rfl (by rfl) rfl ?_
  go_simp
  refine calm_move _ rfl (by rfl) rfl ?_
  go_simp
  refine calm_do (.int .i64 (len : Int)) rfl (by rfl) (fun w' hw' => ?_) ?_
  · go_simp
  go_simp
  refine calm_do (.slice (some ⟨bp, op, none⟩) len cP) rfl (by rfl) (fun w' hw' => ?_) ?_
  · have hsl := run_headA (P := Try.prog) 29 5 Try.underlying29 Try.one5 bp op M cP len .i64 (by omega) w'
    go_simp
  go_simp
  refine calm_do (.string (strOfNums (nI z))) rfl (by rfl) (fun w' hw' => ?_) ?_
  · have hcc := conv_row Try.underlying29 Try.underlying5 Try.underlying9 (rh.below hw' (Nat.le_refl _))
    go_simp
  go_simp
  refine calm_move _ rfl (by rfl) rfl ?_
  go_simp
  refine calm_do (.string (strOfNums (nI z))) rfl (by rfl) (fun w' hw' => ?_) ?_
  · have hcc := conv_row Try.underlying29 Try.underlying5 Try.underlying9 (rd.below hw' (Nat.le_refl _))
    go_simp
  go_simp
  refine calm_do (.bool false) rfl (by rfl) (fun w' hw' => ?_) ?_
  · go_simp
  go_simp
  refine calm_do (.bool false) rfl (by rfl) (fun w' hw' => ?_) ?_
  · go_simp
  go_simp
  refine calm_nil (hK.out _ ?_)
  clear hK K
  refine wpAnyH_done (by kernel_rfl) ?_ _
  have qd := Since.drew w1
  replace rP := rP.below qd (Nat.le_refl _)
  replace q1 := q1.drew
  clear qd rd rh
  generalize w1.drew = wd at *
  go_wp2_with fail
  refine (cSt _).mono ?_
  rintro e w2 ⟨rfl, q2⟩
  replace rP := rP.below q2 (Nat.le_refl _)
  have s2 : w.heap.size ≤ w2.heap.size := by have := q1.size; have := q2.size; omega
  have Q2 : Hid (Below w.heap.size w w2) := q1.trans (q2.mono q1.size)
  have A4 := Arr.new w2 26 .u64 (nI (List.replicate 8 0)) _ rfl
  have HL8 : Hid ((nI S.list).length = 8) := by show _ = _; rw [nI_length]; rfl
  clear q1 q2 cSt
  go_wp2_with (refine wpList_storeA rfl 26 _ _ rfl w2.heap.size (nI S.list) rfl rfl A4 Try.size26 (by decide +kernel) HL8.out ?_)
  have HA4 : Hid (Arr _ w2.heap.size 26 .u64 (nI (blocksTo K S P 0).list)) := A4.whole (nI S.list)
  have HB : Hid (Below w2.heap.size w2 _) := below_setRow (below_one w2 (.cells ((nI (List.replicate 8 0)).map (Value.int .u64)).toArray 26)) (Nat.le_refl _) ((nI S.list).map (Value.int .u64)).toArray
  clear A4 HL8
  change Code.wp _ _ _ _ ((w2.alloc (.cells ((nI (List.replicate 8 0)).map (Value.int .u64)).toArray 26)).setRow w2.heap.size ((nI S.list).map (Value.int .u64)).toArray)
  generalize (w2.alloc (.cells ((nI (List.replicate 8 0)).map (Value.int .u64)).toArray 26)).setRow w2.heap.size ((nI S.list).map (Value.int .u64)).toArray = w3 at *
  go_wp2
  go_loopw [5] (fun y wr => ∃ k : Nat, k ≤ TB ∧ y = .int .i64 ((128 * k : Nat) : Int) ∧ Hid (Arr wr w2.heap.size 26 .u64 (nI (blocksTo K S P k).list)) ∧ Hid (Below w2.heap.size w2 wr)) (fun y _ => M - (intOf y).toNat)
  case atStart => exact ⟨0, Nat.zero_le _, rfl, HA4, HB⟩
  case round =>
    clear HA4 HB
    obtain ⟨k, hk, rfl, HA4, HB⟩ := hrel
    have HOKk : Hid ((blocksTo K S P k).Ok) := blocksTo_ok hSok _ _
    have HLk : Hid ((nI (blocksTo K S P k).list).length = 8) := by show _ = _; rw [nI_length]; rfl
    have hlt4 := HA4.out.lt
    have sB := HB.out.size
    by_cases hkt : k < TB
    · have HNX : Hid (mixL K (blocksTo K S P k) ((P.drop (128 * k)).take 128) = blocksTo K S P (k + 1)) := rfl
      have rPk := rP.below HB.out (Nat.le_refl _)
      have hkM : 128 * k + 128 ≤ M := by have := HM.out; omega
      obtain ⟨a7, hs7, row7⟩ := row_window rPk (128 * k) 128 (by decide) hkM
      have hcap6 := rPk.hcap
      have HWin : Hid (∀ W, (Instr.sliceAt 29 (.slice (some ⟨bp, op, none⟩) M cP) (some (.int .i64 ((128 * k : Nat) : Int))) (some (.int .i64 ((128 * k + 128 : Nat) : Int))) none).run Try.prog W = .ok (.slice a7 128 (cP - 128 * k)) W) := fun W => by
        rw [run_windowA 29 5 Try.underlying29 Try.one5 (some ⟨bp, op, none⟩) M cP (128 * k) (128 * k + 128) .i64 .i64 (by omega) (by omega) W, hs7]
      have rW := row7 wr (fun b off hb => ⟨rfl, Nat.le_refl _⟩)
      rw [nI_drop, nI_take] at rW
      have HW256 : Hid (∀ x ∈ (P.drop (128 * k)).take 128, x < 256) := fun x hx => HBY.out x (List.mem_of_mem_drop (List.mem_of_mem_take hx))
      have HLn : Hid ((nI (blocksTo K S P (k + 1)).list).length = 8) := by show _ = _; rw [nI_length]; rfl
      have cBk : ∀ w', Below wr.heap.size wr w' → Calls Try.prog 13 #[.agg ((nI (blocksTo K S P k).list).map (Value.int .u64)).toArray, .slice a7 128 (cP - 128 * k)] w' fun e w'' => e = .returned (.tuple #[.agg ((nI (blocksTo K S P (k + 1)).list).map (Value.int .u64)).toArray, .int .i64 0]) ∧ Below w'.heap.size w' w'' := fun w' hw' => by
        rw [← HNX.out]
        exact cB _ _ a7 (cP - 128 * k) w' HOKk.out (rW.below hw' (Nat.le_refl _)) HW256.out
      have HN1 : Hid (blocksTo K S P (k + 1) = blocksTo K S P (k + 1)) := rfl
      clear row7 hs7 rPk rW HNX HW256
      generalize blocksTo K S P k = sk at *
      generalize hsn : blocksTo K S P (k + 1) = sn at *
      have HSN : Hid (sn = blocksTo K S P (k + 1)) := hsn.symm
      clear hsn HN1
      obtain ⟨p0, hp0⟩ : ∃ p0, 128 * k = p0 := ⟨_, rfl⟩
      have HP0 : Hid (128 * k = p0) := hp0
      rw [hp0] at HWin hkM cBk ⊢
      obtain ⟨p1, hp1⟩ : ∃ p1, p0 + 128 = p1 := ⟨_, rfl⟩
      have HP1 : Hid (p0 + 128 = p1) := hp1
      have e1 : (p0 : Int) + 128 = (p1 : Int) := by omega
      rw [hp1] at HWin hkM
      clear hp0 hp1
      have hp2 : p0 ≤ 1152 := by have := HP1.out; omega
      have hkI : (p1 : Int) ≤ (M : Int) := by omega
      go_wp2_with fail
      have hS0 : Below wr.heap.size wr wr.drew := (Below.refl _ _).drew
      have z0 : wr.drew.heap.size = wr.heap.size := rfl
      refine heldS_open (fun w' => Below wr.heap.size wr w') (by kernel_rfl) ?_
      refine held_reads (rs := [0, 1, 2, 3, 4, 5]) (fuel := 7) (by kernel_rfl) (fun c d v a w h => by cases d <;> exact h) (by kernel_rfl) hS0 (fun K' hK' => ?_)
      refine calm_do (.agg ((nI sk.list).map (Value.int .u64)).toArray) rfl (by rfl) (fun w' hw' => ?_) ?_
      · exact exec_loadA 26 _ rfl w2.heap.size rfl (HA4.out.below hw' hlt4) Try.underlying26 Try.size26 HLk.out
      go_simp
      refine calm_move _ rfl (by rfl) rfl ?_
      go_simp
      refine calm_move _ rfl (by rfl) rfl ?_
      go_simp
      refine calm_move _ rfl (by rfl) rfl ?_
      go_simp
      refine calm_do (.int .i64 (p1 : Int)) rfl (by rfl) (fun w' hw' => ?_) ?_
      · go_simp
        all_goals (rw [IntKind.wrap_i64]; omega)
      go_simp
      refine calm_do (.slice a7 128 (cP - p0)) rfl (by rfl) (fun w' hw' => ?_) ?_
      · exact exec_sliceLH 29 (.tmp 55) (.tmp 56) (.tmp 58) rfl (.slice (some ⟨bp, op, none⟩) M cP) (.int .i64 (p0 : Int)) (.int .i64 (p1 : Int)) _ rfl rfl rfl (HWin.out w')
      go_simp
      refine calm_nil (hK'.out _ ?_)
      clear hK' K'
      refine heldT_op2 (i := 6) (j := 10) (fuel := 6) (by kernel_rfl) rfl (by rfl) rfl (by rfl) (fun K' hK' => ?_) (fun K' hK' => ?_)
      · go_simp
        refine (cBk wr.drew hS0).mono ?_
        rintro e wm ⟨rfl, qm⟩
        have SM : Below wr.heap.size wr wm := hS0.trans qm
        refine hK' _ _ SM ?_
        clear hK' K' qm
        refine held_reads (rs := [7, 8, 9]) (fuel := 3) (by kernel_rfl) (fun c d v a w h => by cases d <;> exact h) (by kernel_rfl) SM (fun K' hK' => ?_)
        go_simp
        refine calm_move _ rfl (by rfl) rfl ?_
        go_simp
        refine calm_do (.agg ((nI sn.list).map (Value.int .u64)).toArray) rfl (by rfl) (fun w' hw' => ?_) ?_
        · go_simp
        go_simp
        refine calm_do (.int .i64 0) rfl (by rfl) (fun w' hw' => ?_) ?_
        · go_simp
        go_simp
        refine calm_nil (hK'.out _ ?_)
        clear hK' K'
        refine heldS_op (i := 10) (fuel := 2) (by kernel_rfl) rfl (by rfl) (fun K' hK' => ?_)
        have h6 : wr.heap.size ≤ wm.heap.size := SM.size
        have SB : Below wr.heap.size wr (wm.alloc (.cells #[.int .u64 0, .int .u64 0, .int .u64 0, .int .u64 0, .int .u64 0, .int .u64 0, .int .u64 0, .int .u64 0] 26)) := SM.alloc h6 _
        have A6 : Arr (wm.alloc (.cells #[.int .u64 0, .int .u64 0, .int .u64 0, .int .u64 0, .int .u64 0, .int .u64 0, .int .u64 0, .int .u64 0] 26)) wm.heap.size 26 .u64 (nI (List.replicate 8 0)) := Arr.new wm 26 .u64 (nI (List.replicate 8 0)) _ rfl
        go_simp
        refine hK' _ _ SB ?_
        clear hK' K' SM
        generalize wm.alloc (.cells #[.int .u64 0, .int .u64 0, .int .u64 0, .int .u64 0, .int .u64 0, .int .u64 0, .int .u64 0, .int .u64 0] 26) = wb at *
        generalize wm.heap.size = g6 at *
        refine heldS_op (i := 11) (fuel := 1) (by kernel_rfl) rfl (by rfl) (fun K' hK' => ?_)
        refine wp_storeA 26 _ _ rfl g6 (nI sn.list) rfl rfl A6 Try.size26 (by decide +kernel) HLn.out ?_
        have A7 := A6.whole (nI sn.list)
        have SE := below_setRow SB h6 ((nI sn.list).map (Value.int .u64)).toArray
        generalize wb.setRow g6 ((nI sn.list).map (Value.int .u64)).toArray = wE at *
        refine hK' _ _ SE ?_
        clear hK' K' A6 SB
        refine held_reads (rs := [12]) (fuel := 0) (by kernel_rfl) (fun c d v a w h => by cases d <;> exact h) (by kernel_rfl) SE (fun K' hK' => ?_)
        go_simp
        refine calm_assign _ rfl (by rfl) rfl ?_
        go_simp
        refine calm_nil (hK'.out _ ?_)
        clear hK' K'
        refine wpAnyH_done (by kernel_rfl) ?_ _
        have A4E := HA4.out.below SE hlt4
        have HBE := HB.out.trans (SE.mono sB)
        clear SE HA4
        go_wp2_with (first
          | (refine wpList_loadA rfl 26 _ rfl g6 rfl A7 Try.underlying26 Try.size26 HLn.out ?_)
          | (refine wpList_storeA rfl 26 _ _ rfl w2.heap.size (nI sn.list) rfl rfl A4E Try.size26 HLk.out HLn.out ?_))
        have HA5 : Hid (Arr (wE.setRow w2.heap.size ((nI sn.list).map (Value.int .u64)).toArray) w2.heap.size 26 .u64 (nI (blocksTo K S P (k + 1)).list)) := by
          have e : nI (blocksTo K S P (k + 1)).list = nI sn.list := by rw [HSN.out]
          show Arr _ _ _ _ _
          rw [e]
          exact A4E.whole (nI sn.list)
        have HB5 : Hid (Below w2.heap.size w2 _) := below_setRow HBE (Nat.le_refl _) ((nI sn.list).map (Value.int .u64)).toArray
        clear A7 A4E HBE
        exact ⟨⟨k + 1, by omega, by have := HP0.out; have := HP1.out; go_num, HA5, HB5⟩, by have := HP0.out; have := HP1.out; simp [intOf]; omega⟩
      · have h6 : wr.heap.size ≤ wr.heap.size := Nat.le_refl _
        have SA : Below wr.heap.size wr (wr.alloc (.cells #[.int .u64 0, .int .u64 0, .int .u64 0, .int .u64 0, .int .u64 0, .int .u64 0, .int .u64 0, .int .u64 0] 26)).drew := ((Below.refl _ _).alloc h6 _).drew
        have A5 : Arr (wr.alloc (.cells #[.int .u64 0, .int .u64 0, .int .u64 0, .int .u64 0, .int .u64 0, .int .u64 0, .int .u64 0, .int .u64 0] 26)).drew wr.heap.size 26 .u64 (nI (List.replicate 8 0)) := Arr.new wr 26 .u64 (nI (List.replicate 8 0)) _ rfl
        go_simp
        refine hK' _ _ SA ?_
        clear hK' K'
        have cBa := cBk _ SA
        generalize (wr.alloc (.cells #[.int .u64 0, .int .u64 0, .int .u64 0, .int .u64 0, .int .u64 0, .int .u64 0, .int .u64 0, .int .u64 0] 26)).drew = wa at *
        refine heldS_op (i := 6) (fuel := 5) (by kernel_rfl) rfl (by rfl) (fun K' hK' => ?_)
        go_simp
        refine cBa.mono ?_
        rintro e wb ⟨rfl, qm⟩
        have SM : Below wr.heap.size wr wb := SA.trans (qm.mono SA.size)
        have A6 := A5.below qm A5.lt
        refine hK' _ _ SM ?_
        clear hK' K' qm A5 SA cBa
        refine held_reads (rs := [7, 8, 9]) (fuel := 2) (by kernel_rfl) (fun c d v a w h => by cases d <;> exact h) (by kernel_rfl) SM (fun K' hK' => ?_)
        go_simp
        refine calm_move _ rfl (by rfl) rfl ?_
        go_simp
        refine calm_do (.agg ((nI sn.list).map (Value.int .u64)).toArray) rfl (by rfl) (fun w' hw' => ?_) ?_
        · go_simp
        go_simp
        refine calm_do (.int .i64 0) rfl (by rfl) (fun w' hw' => ?_) ?_
        · go_simp
        go_simp
        refine calm_nil (hK'.out _ ?_)
        clear hK' K'
        have SB := SM
        clear SM
        refine heldS_op (i := 11) (fuel := 1) (by kernel_rfl) rfl (by rfl) (fun K' hK' => ?_)
        refine wp_storeA 26 _ _ rfl wr.heap.size (nI sn.list) rfl rfl A6 Try.size26 (by decide +kernel) HLn.out ?_
        have A7 := A6.whole (nI sn.list)
        have SE := below_setRow SB h6 ((nI sn.list).map (Value.int .u64)).toArray
        generalize wb.setRow wr.heap.size ((nI sn.list).map (Value.int .u64)).toArray = wE at *
        refine hK' _ _ SE ?_
        clear hK' K' A6 SB
        refine held_reads (rs := [12]) (fuel := 0) (by kernel_rfl) (fun c d v a w h => by cases d <;> exact h) (by kernel_rfl) SE (fun K' hK' => ?_)
        go_simp
        refine calm_assign _ rfl (by rfl) rfl ?_
        go_simp
        refine calm_nil (hK'.out _ ?_)
        clear hK' K'
        refine wpAnyH_done (by kernel_rfl) ?_ _
        have A4E := HA4.out.below SE hlt4
        have HBE := HB.out.trans (SE.mono sB)
        clear SE HA4
        go_wp2_with (first
          | (refine wpList_loadA rfl 26 _ rfl wr.heap.size rfl A7 Try.underlying26 Try.size26 HLn.out ?_)
          | (refine wpList_storeA rfl 26 _ _ rfl w2.heap.size (nI sn.list) rfl rfl A4E Try.size26 HLk.out HLn.out ?_))
        have HA5 : Hid (Arr (wE.setRow w2.heap.size ((nI sn.list).map (Value.int .u64)).toArray) w2.heap.size 26 .u64 (nI (blocksTo K S P (k + 1)).list)) := by
          have e : nI (blocksTo K S P (k + 1)).list = nI sn.list := by rw [HSN.out]
          show Arr _ _ _ _ _
          rw [e]
          exact A4E.whole (nI sn.list)
        have HB5 : Hid (Below w2.heap.size w2 _) := below_setRow HBE (Nat.le_refl _) ((nI sn.list).map (Value.int .u64)).toArray
        clear A7 A4E HBE
        exact ⟨⟨k + 1, by omega, by have := HP0.out; have := HP1.out; go_num, HA5, HB5⟩, by have := HP0.out; have := HP1.out; simp [intOf]; omega⟩
    · obtain rfl : k = TB := by omega
      have HST := HSU
      have HA5 := HA4
      have HOK5 := HOKk
      have HL5 := HLk
      obtain ⟨st, hst⟩ : ∃ st, blocksTo K S P k = st := ⟨_, rfl⟩
      rw [hst] at HST HA5 HOK5 HL5
      clear hst HSU HA4 HOKk HLk
      obtain ⟨wL, hwL⟩ : ∃ x, x = wr := ⟨_, rfl⟩
      subst hwL
      have qL : Below w.heap.size w wL := Q2.out.trans (HB.out.mono s2)
      have hrL := hr.below qL HRB.out
      rw [HM.out]
      have hMI : ¬ ((M : Int) + 128 ≤ (M : Int)) := by omega
      have qN := below_one wL (.cells #[.slice a len cap] 29)
      have cSz := cS (wL.alloc (.cells #[.slice a len cap] 29)) wL.heap.size a len cap z (by simp) ⟨by rw [World.cell?_alloc_at _ _ _ _ rfl]; rfl, hrL.below qN (Nat.le_refl _), hz, by rw [HLz.out]; omega⟩
      rw [HST.out] at cSz
      go_wp2_with fail
      refine cSz.mono ?_
      rintro e w5 ⟨rfl, q5⟩
      replace q5 : Below wL.heap.size wL w5 := qN.trans (q5.mono qN.size)
      have HLb : Hid ((nI st.bytes).length = 64) := by show _ = _; rw [nI_length]; rfl
      have HA6 := HA5.out.below q5 hlt4
      have s5 := q5.size
      have A8 := Arr.new w5 35 .u8 (nI (List.replicate 64 0)) _ rfl
      clear cSz cS cB hrL qN
      go_wp2_with (refine wpList_storeA rfl 35 _ _ rfl w5.heap.size (nI st.bytes) rfl rfl A8 Try.size35 (by decide +kernel) HLb.out ?_)
      have B8 : Hid (Arr _ w5.heap.size 35 .u8 (nI st.bytes)) := A8.whole (nI st.bytes)
      have B4 : Hid (Arr _ w2.heap.size 26 .u64 (nI st.list)) := (HA6.alloc (.cells ((nI (List.replicate 64 0)).map (Value.int .u8)).toArray 35)).whole_other ((nI st.bytes).map (Value.int .u8)).toArray (show w2.heap.size ≠ w5.heap.size by omega)
      have QB : Hid (Below w.heap.size w _) := below_setRow ((qL.trans (q5.mono qL.size)).alloc (by have := qL.size; omega) (.cells ((nI (List.replicate 64 0)).map (Value.int .u8)).toArray 35)) (show w.heap.size ≤ w5.heap.size by have := qL.size; omega) ((nI st.bytes).map (Value.int .u8)).toArray
      clear A8 HA6 HA5 q5
      change Code.wp _ _ _ _ ((w5.alloc (.cells ((nI (List.replicate 64 0)).map (Value.int .u8)).toArray 35)).setRow w5.heap.size ((nI st.bytes).map (Value.int .u8)).toArray)
      generalize (w5.alloc (.cells ((nI (List.replicate 64 0)).map (Value.int .u8)).toArray 35)).setRow w5.heap.size ((nI st.bytes).map (Value.int .u8)).toArray = w6 at *
      have HG : Hid (∀ i j, i < 8 → j < 8 → st.bytes[8 * i + j]?.getD 0 = st.list[i]?.getD 0 / 2 ^ (56 - 8 * j) % 256) := fun i j => bytes_get8 st i j
      have HX : Hid (∀ i, st.list[i]?.getD 0 < 18446744073709551616) := fun i => list8_lt4 HOK5.out i
      have hMI2 : M ≤ 1152 := hMl
      clear HST HOK5 HB HM hkt
      go_wp2
      go_loopw [9] (fun y wr => ∃ i : Nat, i ≤ 64 ∧ y = .int .i64 (i : Int) ∧ Hid (Arr wr w5.heap.size 35 .u8 (nI st.bytes)) ∧ Hid (Arr wr w2.heap.size 26 .u64 (nI st.list)) ∧ Hid (Below w.heap.size w wr)) (fun y _ => 64 - (intOf y).toNat)
      case atStart => exact ⟨0, by omega, rfl, B8, B4, QB⟩
      case round =>
        clear B8 B4 QB
        obtain ⟨i, hi, rfl, B8, B4, QB⟩ := hrel
        by_cases hlt64 : i < 64
        · have l8 := B8.out.lt
          have l4 := B4.out.lt
          obtain ⟨q, j, hq8, hj8, hqj⟩ : ∃ q j : Nat, q < 8 ∧ j < 8 ∧ i = 8 * q + j := ⟨i / 8, i % 8, by omega, Nat.mod_lt _ (by decide), by omega⟩
          have c8 : ∀ w', Below wr.heap.size wr w' → w'.cell? ⟨w5.heap.size, i, none⟩ = some (.int .u8 ((st.bytes[i]?.getD 0 : Nat) : Int)) := fun w' hw' => by
            have := (B8.out.below hw' l8).cell i (by rw [HLb.out]; exact hlt64)
            rw [nI_get] at this
            exact this
          have c4 : ∀ w', Below wr.heap.size wr w' → w'.cell? ⟨w2.heap.size, q, none⟩ = some (.int .u64 ((st.list[q]?.getD 0 : Nat) : Int)) := fun w' hw' => by
            have := (B4.out.below hw' l4).cell q (by rw [HL5.out]; exact hq8)
            rw [nI_get] at this
            exact this
          have hxl := HX.out q
          have hbv := HG.out q j hq8 hj8
          rw [← hqj] at hbv
          rw [hbv] at c8
          clear hbv
          generalize st.list[q]?.getD 0 = x at *
          have C8 : Hid (∀ w', Below wr.heap.size wr w' → w'.cell? ⟨w5.heap.size, i, none⟩ = some (.int .u8 ((x / 2 ^ (56 - 8 * j) % 256 : Nat) : Int))) := c8
          have C4 : Hid (∀ w', Below wr.heap.size wr w' → w'.cell? ⟨w2.heap.size, q, none⟩ = some (.int .u64 ((x : Nat) : Int))) := c4
          clear c8 c4
          have HQJ : Hid (i = 8 * q + j) := hqj
          have hii : (i : Int) < 64 := by omega
          have hqI : (q : Int) < 8 := by omega
          clear hqj
          rcases (show j = 0 ∨ j = 1 ∨ j = 2 ∨ j = 3 ∨ j = 4 ∨ j = 5 ∨ j = 6 ∨ j = 7 by omega) with rfl | rfl | rfl | rfl | rfl | rfl | rfl | rfl
          · go_wp2_with fail
            have hS0 : Below wr.heap.size wr wr.drew := (Below.refl _ _).drew
            refine heldS_open (fun w' => Below wr.heap.size wr w') (by kernel_rfl) ?_
            refine held_reads (rs := [0, 1, 2, 3, 4, 5, 6, 7, 8, 9, 10, 11, 12, 13, 14]) (fuel := 0) (by kernel_rfl) (fun c d v a w h => by cases d <;> exact h) (by kernel_rfl) hS0 (fun K' hK' => ?_)
            refine calm_move _ rfl (by rfl) rfl ?_
            go_simp
            refine calm_do (.pointer (some ⟨w5.heap.size, i, none⟩)) rfl (by rfl) (fun w' hw' => ?_) ?_
            · go_simp
            go_simp
            refine calm_do (.int .u8 ((x / 2 ^ (56 - 8 * 0) % 256 : Nat) : Int)) rfl (by rfl) (fun w' hw' => ?_) ?_
            · have x0 := C8.out w' hw'
              go_simp
            go_simp
            refine calm_move _ rfl (by rfl) rfl ?_
            go_simp
            refine calm_do (.int .i64 (q : Int)) rfl (by rfl) (fun w' hw' => ?_) ?_
            · go_simp
              all_goals (have := HQJ.out; first | omega | (rw [IntKind.wrap_i64]; omega) | (rw [Int.tdiv_eq_ediv_of_nonneg (by omega)]; omega))
            go_simp
            refine calm_do (.pointer (some ⟨w2.heap.size, q, none⟩)) rfl (by rfl) (fun w' hw' => ?_) ?_
            · go_simp
            go_simp
            refine calm_do (.int .u64 (x : Int)) rfl (by rfl) (fun w' hw' => ?_) ?_
            · have x0 := C4.out w' hw'
              go_simp
            go_simp
            refine calm_move _ rfl (by rfl) rfl ?_
            go_simp
            refine calm_do (.int .i64 0) rfl (by rfl) (fun w' hw' => ?_) ?_
            · go_simp
              all_goals (have := HQJ.out; rw [Int.tmod_eq_emod_of_nonneg (by omega)]; omega)
            go_simp
            refine calm_do (.int .i64 0) rfl (by rfl) (fun w' hw' => ?_) ?_
            · go_simp
              all_goals (first | (rw [IntKind.wrap_i64]; omega) | (rw [IntKind.wrap_u64]; omega) | decide)
            go_simp
            refine calm_do (.int .i64 56) rfl (by rfl) (fun w' hw' => ?_) ?_
            · go_simp
              all_goals (first | (rw [IntKind.wrap_i64]; omega) | (rw [IntKind.wrap_u64]; omega) | decide)
            go_simp
            refine calm_do (.int .u64 56) rfl (by rfl) (fun w' hw' => ?_) ?_
            · go_simp
              all_goals (first | (rw [IntKind.wrap_i64]; omega) | (rw [IntKind.wrap_u64]; omega) | decide)
            go_simp
            refine calm_do (.int .u64 ((x / 2 ^ 56 : Nat) : Int)) rfl (by rfl) (fun w' hw' => ?_) ?_
            · go_simp
            go_simp
            refine calm_do (.int .u8 ((x / 2 ^ 56 % 256 : Nat) : Int)) rfl (by rfl) (fun w' hw' => ?_) ?_
            · go_simp
              all_goals (rw [IntKind.wrap_u8])
            go_simp
            refine calm_do (.bool false) rfl (by rfl) (fun w' hw' => ?_) ?_
            · go_simp
            go_simp
            refine calm_nil (hK'.out _ ?_)
            clear hK' K'
            refine wpAnyH_done (by kernel_rfl) ?_ _
            have D8 : Hid (Arr wr.drew w5.heap.size 35 .u8 (nI st.bytes)) := B8.out
            have D4 : Hid (Arr wr.drew w2.heap.size 26 .u64 (nI st.list)) := B4.out
            have DQ : Hid (Below w.heap.size w wr.drew) := QB.out.drew
            go_wp2
            go_roundw
            case rel => exact ⟨i + 1, by omega, by go_num, D8, D4, DQ⟩
            case measure => simp [intOf]; omega
          · go_wp2_with fail
            have hS0 : Below wr.heap.size wr wr.drew := (Below.refl _ _).drew
            refine heldS_open (fun w' => Below wr.heap.size wr w') (by kernel_rfl) ?_
            refine held_reads (rs := [0, 1, 2, 3, 4, 5, 6, 7, 8, 9, 10, 11, 12, 13, 14]) (fuel := 0) (by kernel_rfl) (fun c d v a w h => by cases d <;> exact h) (by kernel_rfl) hS0 (fun K' hK' => ?_)
            refine calm_move _ rfl (by rfl) rfl ?_
            go_simp
            refine calm_do (.pointer (some ⟨w5.heap.size, i, none⟩)) rfl (by rfl) (fun w' hw' => ?_) ?_
            · go_simp
            go_simp
            refine calm_do (.int .u8 ((x / 2 ^ (56 - 8 * 1) % 256 : Nat) : Int)) rfl (by rfl) (fun w' hw' => ?_) ?_
            · have x0 := C8.out w' hw'
              go_simp
            go_simp
            refine calm_move _ rfl (by rfl) rfl ?_
            go_simp
            refine calm_do (.int .i64 (q : Int)) rfl (by rfl) (fun w' hw' => ?_) ?_
            · go_simp
              all_goals (have := HQJ.out; first | omega | (rw [IntKind.wrap_i64]; omega) | (rw [Int.tdiv_eq_ediv_of_nonneg (by omega)]; omega))
            go_simp
            refine calm_do (.pointer (some ⟨w2.heap.size, q, none⟩)) rfl (by rfl) (fun w' hw' => ?_) ?_
            · go_simp
            go_simp
            refine calm_do (.int .u64 (x : Int)) rfl (by rfl) (fun w' hw' => ?_) ?_
            · have x0 := C4.out w' hw'
              go_simp
            go_simp
            refine calm_move _ rfl (by rfl) rfl ?_
            go_simp
            refine calm_do (.int .i64 1) rfl (by rfl) (fun w' hw' => ?_) ?_
            · go_simp
              all_goals (have := HQJ.out; rw [Int.tmod_eq_emod_of_nonneg (by omega)]; omega)
            go_simp
            refine calm_do (.int .i64 8) rfl (by rfl) (fun w' hw' => ?_) ?_
            · go_simp
              all_goals (first | (rw [IntKind.wrap_i64]; omega) | (rw [IntKind.wrap_u64]; omega) | decide)
            go_simp
            refine calm_do (.int .i64 48) rfl (by rfl) (fun w' hw' => ?_) ?_
            · go_simp
              all_goals (first | (rw [IntKind.wrap_i64]; omega) | (rw [IntKind.wrap_u64]; omega) | decide)
            go_simp
            refine calm_do (.int .u64 48) rfl (by rfl) (fun w' hw' => ?_) ?_
            · go_simp
              all_goals (first | (rw [IntKind.wrap_i64]; omega) | (rw [IntKind.wrap_u64]; omega) | decide)
            go_simp
            refine calm_do (.int .u64 ((x / 2 ^ 48 : Nat) : Int)) rfl (by rfl) (fun w' hw' => ?_) ?_
            · go_simp
            go_simp
            refine calm_do (.int .u8 ((x / 2 ^ 48 % 256 : Nat) : Int)) rfl (by rfl) (fun w' hw' => ?_) ?_
            · go_simp
              all_goals (rw [IntKind.wrap_u8])
            go_simp
            refine calm_do (.bool false) rfl (by rfl) (fun w' hw' => ?_) ?_
            · go_simp
            go_simp
            refine calm_nil (hK'.out _ ?_)
            clear hK' K'
            refine wpAnyH_done (by kernel_rfl) ?_ _
            have D8 : Hid (Arr wr.drew w5.heap.size 35 .u8 (nI st.bytes)) := B8.out
            have D4 : Hid (Arr wr.drew w2.heap.size 26 .u64 (nI st.list)) := B4.out
            have DQ : Hid (Below w.heap.size w wr.drew) := QB.out.drew
            go_wp2
            go_roundw
            case rel => exact ⟨i + 1, by omega, by go_num, D8, D4, DQ⟩
            case measure => simp [intOf]; omega
          · go_wp2_with fail
            have hS0 : Below wr.heap.size wr wr.drew := (Below.refl _ _).drew
            refine heldS_open (fun w' => Below wr.heap.size wr w') (by kernel_rfl) ?_
            refine held_reads (rs := [0, 1, 2, 3, 4, 5, 6, 7, 8, 9, 10, 11, 12, 13, 14]) (fuel := 0) (by kernel_rfl) (fun c d v a w h => by cases d <;> exact h) (by kernel_rfl) hS0 (fun K' hK' => ?_)
            refine calm_move _ rfl (by rfl) rfl ?_
            go_simp
            refine calm_do (.pointer (some ⟨w5.heap.size, i, none⟩)) rfl (by rfl) (fun w' hw' => ?_) ?_
            · go_simp
            go_simp
            refine calm_do (.int .u8 ((x / 2 ^ (56 - 8 * 2) % 256 : Nat) : Int)) rfl (by rfl) (fun w' hw' => ?_) ?_
            · have x0 := C8.out w' hw'
              go_simp
            go_simp
            refine calm_move _ rfl (by rfl) rfl ?_
            go_simp
            refine calm_do (.int .i64 (q : Int)) rfl (by rfl) (fun w' hw' => ?_) ?_
            · go_simp
              all_goals (have := HQJ.out; first | omega | (rw [IntKind.wrap_i64]; omega) | (rw [Int.tdiv_eq_ediv_of_nonneg (by omega)]; omega))
            go_simp
            refine calm_do (.pointer (some ⟨w2.heap.size, q, none⟩)) rfl (by rfl) (fun w' hw' => ?_) ?_
            · go_simp
            go_simp
            refine calm_do (.int .u64 (x : Int)) rfl (by rfl) (fun w' hw' => ?_) ?_
            · have x0 := C4.out w' hw'
              go_simp
            go_simp
            refine calm_move _ rfl (by rfl) rfl ?_
            go_simp
            refine calm_do (.int .i64 2) rfl (by rfl) (fun w' hw' => ?_) ?_
            · go_simp
              all_goals (have := HQJ.out; rw [Int.tmod_eq_emod_of_nonneg (by omega)]; omega)
            go_simp
            refine calm_do (.int .i64 16) rfl (by rfl) (fun w' hw' => ?_) ?_
            · go_simp
              all_goals (first | (rw [IntKind.wrap_i64]; omega) | (rw [IntKind.wrap_u64]; omega) | decide)
            go_simp
            refine calm_do (.int .i64 40) rfl (by rfl) (fun w' hw' => ?_) ?_
            · go_simp
              all_goals (first | (rw [IntKind.wrap_i64]; omega) | (rw [IntKind.wrap_u64]; omega) | decide)
            go_simp
            refine calm_do (.int .u64 40) rfl (by rfl) (fun w' hw' => ?_) ?_
            · go_simp
              all_goals (first | (rw [IntKind.wrap_i64]; omega) | (rw [IntKind.wrap_u64]; omega) | decide)
            go_simp
            refine calm_do (.int .u64 ((x / 2 ^ 40 : Nat) : Int)) rfl (by rfl) (fun w' hw' => ?_) ?_
            · go_simp
            go_simp
            refine calm_do (.int .u8 ((x / 2 ^ 40 % 256 : Nat) : Int)) rfl (by rfl) (fun w' hw' => ?_) ?_
            · go_simp
              all_goals (rw [IntKind.wrap_u8])
            go_simp
            refine calm_do (.bool false) rfl (by rfl) (fun w' hw' => ?_) ?_
            · go_simp
            go_simp
            refine calm_nil (hK'.out _ ?_)
            clear hK' K'
            refine wpAnyH_done (by kernel_rfl) ?_ _
            have D8 : Hid (Arr wr.drew w5.heap.size 35 .u8 (nI st.bytes)) := B8.out
            have D4 : Hid (Arr wr.drew w2.heap.size 26 .u64 (nI st.list)) := B4.out
            have DQ : Hid (Below w.heap.size w wr.drew) := QB.out.drew
            go_wp2
            go_roundw
            case rel => exact ⟨i + 1, by omega, by go_num, D8, D4, DQ⟩
            case measure => simp [intOf]; omega
          · go_wp2_with fail
            have hS0 : Below wr.heap.size wr wr.drew := (Below.refl _ _).drew
            refine heldS_open (fun w' => Below wr.heap.size wr w') (by kernel_rfl) ?_
            refine held_reads (rs := [0, 1, 2, 3, 4, 5, 6, 7, 8, 9, 10, 11, 12, 13, 14]) (fuel := 0) (by kernel_rfl) (fun c d v a w h => by cases d <;> exact h) (by kernel_rfl) hS0 (fun K' hK' => ?_)
            refine calm_move _ rfl (by rfl) rfl ?_
            go_simp
            refine calm_do (.pointer (some ⟨w5.heap.size, i, none⟩)) rfl (by rfl) (fun w' hw' => ?_) ?_
            · go_simp
            go_simp
            refine calm_do (.int .u8 ((x / 2 ^ (56 - 8 * 3) % 256 : Nat) : Int)) rfl (by rfl) (fun w' hw' => ?_) ?_
            · have x0 := C8.out w' hw'
              go_simp
            go_simp
            refine calm_move _ rfl (by rfl) rfl ?_
            go_simp
            refine calm_do (.int .i64 (q : Int)) rfl (by rfl) (fun w' hw' => ?_) ?_
            · go_simp
              all_goals (have := HQJ.out; first | omega | (rw [IntKind.wrap_i64]; omega) | (rw [Int.tdiv_eq_ediv_of_nonneg (by omega)]; omega))
            go_simp
            refine calm_do (.pointer (some ⟨w2.heap.size, q, none⟩)) rfl (by rfl) (fun w' hw' => ?_) ?_
            · go_simp
            go_simp
            refine calm_do (.int .u64 (x : Int)) rfl (by rfl) (fun w' hw' => ?_) ?_
            · have x0 := C4.out w' hw'
              go_simp
            go_simp
            refine calm_move _ rfl (by rfl) rfl ?_
            go_simp
            refine calm_do (.int .i64 3) rfl (by rfl) (fun w' hw' => ?_) ?_
            · go_simp
              all_goals (have := HQJ.out; rw [Int.tmod_eq_emod_of_nonneg (by omega)]; omega)
            go_simp
            refine calm_do (.int .i64 24) rfl (by rfl) (fun w' hw' => ?_) ?_
            · go_simp
              all_goals (first | (rw [IntKind.wrap_i64]; omega) | (rw [IntKind.wrap_u64]; omega) | decide)
            go_simp
            refine calm_do (.int .i64 32) rfl (by rfl) (fun w' hw' => ?_) ?_
            · go_simp
              all_goals (first | (rw [IntKind.wrap_i64]; omega) | (rw [IntKind.wrap_u64]; omega) | decide)
            go_simp
            refine calm_do (.int .u64 32) rfl (by rfl) (fun w' hw' => ?_) ?_
            · go_simp
              all_goals (first | (rw [IntKind.wrap_i64]; omega) | (rw [IntKind.wrap_u64]; omega) | decide)
            go_simp
            refine calm_do (.int .u64 ((x / 2 ^ 32 : Nat) : Int)) rfl (by rfl) (fun w' hw' => ?_) ?_
            · go_simp
            go_simp
            refine calm_do (.int .u8 ((x / 2 ^ 32 % 256 : Nat) : Int)) rfl (by rfl) (fun w' hw' => ?_) ?_
            · go_simp
              all_goals (rw [IntKind.wrap_u8])
            go_simp
            refine calm_do (.bool false) rfl (by rfl) (fun w' hw' => ?_) ?_
            · go_simp
            go_simp
            refine calm_nil (hK'.out _ ?_)
            clear hK' K'
            refine wpAnyH_done (by kernel_rfl) ?_ _
            have D8 : Hid (Arr wr.drew w5.heap.size 35 .u8 (nI st.bytes)) := B8.out
            have D4 : Hid (Arr wr.drew w2.heap.size 26 .u64 (nI st.list)) := B4.out
            have DQ : Hid (Below w.heap.size w wr.drew) := QB.out.drew
            go_wp2
            go_roundw
            case rel => exact ⟨i + 1, by omega, by go_num, D8, D4, DQ⟩
            case measure => simp [intOf]; omega
          · go_wp2_with fail
            have hS0 : Below wr.heap.size wr wr.drew := (Below.refl _ _).drew
            refine heldS_open (fun w' => Below wr.heap.size wr w') (by kernel_rfl) ?_
            refine held_reads (rs := [0, 1, 2, 3, 4, 5, 6, 7, 8, 9, 10, 11, 12, 13, 14]) (fuel := 0) (by kernel_rfl) (fun c d v a w h => by cases d <;> exact h) (by kernel_rfl) hS0 (fun K' hK' => ?_)
            refine calm_move _ rfl (by rfl) rfl ?_
            go_simp
            refine calm_do (.pointer (some ⟨w5.heap.size, i, none⟩)) rfl (by rfl) (fun w' hw' => ?_) ?_
            · go_simp
            go_simp
            refine calm_do (.int .u8 ((x / 2 ^ (56 - 8 * 4) % 256 : Nat) : Int)) rfl (by rfl) (fun w' hw' => ?_) ?_
            · have x0 := C8.out w' hw'
              go_simp
            go_simp
            refine calm_move _ rfl (by rfl) rfl ?_
            go_simp
            refine calm_do (.int .i64 (q : Int)) rfl (by rfl) (fun w' hw' => ?_) ?_
            · go_simp
              all_goals (have := HQJ.out; first | omega | (rw [IntKind.wrap_i64]; omega) | (rw [Int.tdiv_eq_ediv_of_nonneg (by omega)]; omega))
            go_simp
            refine calm_do (.pointer (some ⟨w2.heap.size, q, none⟩)) rfl (by rfl) (fun w' hw' => ?_) ?_
            · go_simp
            go_simp
            refine calm_do (.int .u64 (x : Int)) rfl (by rfl) (fun w' hw' => ?_) ?_
            · have x0 := C4.out w' hw'
              go_simp
            go_simp
            refine calm_move _ rfl (by rfl) rfl ?_
            go_simp
            refine calm_do (.int .i64 4) rfl (by rfl) (fun w' hw' => ?_) ?_
            · go_simp
              all_goals (have := HQJ.out; rw [Int.tmod_eq_emod_of_nonneg (by omega)]; omega)
            go_simp
            refine calm_do (.int .i64 32) rfl (by rfl) (fun w' hw' => ?_) ?_
            · go_simp
              all_goals (first | (rw [IntKind.wrap_i64]; omega) | (rw [IntKind.wrap_u64]; omega) | decide)
            go_simp
            refine calm_do (.int .i64 24) rfl (by rfl) (fun w' hw' => ?_) ?_
            · go_simp
              all_goals (first | (rw [IntKind.wrap_i64]; omega) | (rw [IntKind.wrap_u64]; omega) | decide)
            go_simp
            refine calm_do (.int .u64 24) rfl (by rfl) (fun w' hw' => ?_) ?_
            · go_simp
              all_goals (first | (rw [IntKind.wrap_i64]; omega) | (rw [IntKind.wrap_u64]; omega) | decide)
            go_simp
            refine calm_do (.int .u64 ((x / 2 ^ 24 : Nat) : Int)) rfl (by rfl) (fun w' hw' => ?_) ?_
            · go_simp
            go_simp
            refine calm_do (.int .u8 ((x / 2 ^ 24 % 256 : Nat) : Int)) rfl (by rfl) (fun w' hw' => ?_) ?_
            · go_simp
              all_goals (rw [IntKind.wrap_u8])
            go_simp
            refine calm_do (.bool false) rfl (by rfl) (fun w' hw' => ?_) ?_
            · go_simp
            go_simp
            refine calm_nil (hK'.out _ ?_)
            clear hK' K'
            refine wpAnyH_done (by kernel_rfl) ?_ _
            have D8 : Hid (Arr wr.drew w5.heap.size 35 .u8 (nI st.bytes)) := B8.out
            have D4 : Hid (Arr wr.drew w2.heap.size 26 .u64 (nI st.list)) := B4.out
            have DQ : Hid (Below w.heap.size w wr.drew) := QB.out.drew
            go_wp2
            go_roundw
            case rel => exact ⟨i + 1, by omega, by go_num, D8, D4, DQ⟩
            case measure => simp [intOf]; omega
          · go_wp2_with fail
            have hS0 : Below wr.heap.size wr wr.drew := (Below.refl _ _).drew
            refine heldS_open (fun w' => Below wr.heap.size wr w') (by kernel_rfl) ?_
            refine held_reads (rs := [0, 1, 2, 3, 4, 5, 6, 7, 8, 9, 10, 11, 12, 13, 14]) (fuel := 0) (by kernel_rfl) (fun c d v a w h => by cases d <;> exact h) (by kernel_rfl) hS0 (fun K' hK' => ?_)
            refine calm_move _ rfl (by rfl) rfl ?_
            go_simp
            refine calm_do (.pointer (some ⟨w5.heap.size, i, none⟩)) rfl (by rfl) (fun w' hw' => ?_) ?_
            · go_simp
            go_simp
            refine calm_do (.int .u8 ((x / 2 ^ (56 - 8 * 5) % 256 : Nat) : Int)) rfl (by rfl) (fun w' hw' => ?_) ?_
            · have x0 := C8.out w' hw'
              go_simp
            go_simp
            refine calm_move _ rfl (by rfl) rfl ?_
            go_simp
            refine calm_do (.int .i64 (q : Int)) rfl (by rfl) (fun w' hw' => ?_) ?_
            · go_simp
              all_goals (have := HQJ.out; first | omega | (rw [IntKind.wrap_i64]; omega) | (rw [Int.tdiv_eq_ediv_of_nonneg (by omega)]; omega))
            go_simp
            refine calm_do (.pointer (some ⟨w2.heap.size, q, none⟩)) rfl (by rfl) (fun w' hw' => ?_) ?_
            · go_simp
            go_simp
            refine calm_do (.int .u64 (x : Int)) rfl (by rfl) (fun w' hw' => ?_) ?_
            · have x0 := C4.out w' hw'
              go_simp
            go_simp
            refine calm_move _ rfl (by rfl) rfl ?_
            go_simp
            refine calm_do (.int .i64 5) rfl (by rfl) (fun w' hw' => ?_) ?_
            · go_simp
              all_goals (have := HQJ.out; rw [Int.tmod_eq_emod_of_nonneg (by omega)]; omega)
            go_simp
            refine calm_do (.int .i64 40) rfl (by rfl) (fun w' hw' => ?_) ?_
            · go_simp
              all_goals (first | (rw [IntKind.wrap_i64]; omega) | (rw [IntKind.wrap_u64]; omega) | decide)
            go_simp
            refine calm_do (.int .i64 16) rfl (by rfl) (fun w' hw' => ?_) ?_
            · go_simp
              all_goals (first | (rw [IntKind.wrap_i64]; omega) | (rw [IntKind.wrap_u64]; omega) | decide)
            go_simp
            refine calm_do (.int .u64 16) rfl (by rfl) (fun w' hw' => ?_) ?_
            · go_simp
              all_goals (first | (rw [IntKind.wrap_i64]; omega) | (rw [IntKind.wrap_u64]; omega) | decide)
            go_simp
            refine calm_do (.int .u64 ((x / 2 ^ 16 : Nat) : Int)) rfl (by rfl) (fun w' hw' => ?_) ?_
            · go_simp
            go_simp
            refine calm_do (.int .u8 ((x / 2 ^ 16 % 256 : Nat) : Int)) rfl (by rfl) (fun w' hw' => ?_) ?_
            · go_simp
              all_goals (rw [IntKind.wrap_u8])
            go_simp
            refine calm_do (.bool false) rfl (by rfl) (fun w' hw' => ?_) ?_
            · go_simp
            go_simp
            refine calm_nil (hK'.out _ ?_)
            clear hK' K'
            refine wpAnyH_done (by kernel_rfl) ?_ _
            have D8 : Hid (Arr wr.drew w5.heap.size 35 .u8 (nI st.bytes)) := B8.out
            have D4 : Hid (Arr wr.drew w2.heap.size 26 .u64 (nI st.list)) := B4.out
            have DQ : Hid (Below w.heap.size w wr.drew) := QB.out.drew
            go_wp2
            go_roundw
            case rel => exact ⟨i + 1, by omega, by go_num, D8, D4, DQ⟩
            case measure => simp [intOf]; omega
          · go_wp2_with fail
            have hS0 : Below wr.heap.size wr wr.drew := (Below.refl _ _).drew
            refine heldS_open (fun w' => Below wr.heap.size wr w') (by kernel_rfl) ?_
            refine held_reads (rs := [0, 1, 2, 3, 4, 5, 6, 7, 8, 9, 10, 11, 12, 13, 14]) (fuel := 0) (by kernel_rfl) (fun c d v a w h => by cases d <;> exact h) (by kernel_rfl) hS0 (fun K' hK' => ?_)
            refine calm_move _ rfl (by rfl) rfl ?_
            go_simp
            refine calm_do (.pointer (some ⟨w5.heap.size, i, none⟩)) rfl (by rfl) (fun w' hw' => ?_) ?_
            · go_simp
            go_simp
            refine calm_do (.int .u8 ((x / 2 ^ (56 - 8 * 6) % 256 : Nat) : Int)) rfl (by rfl) (fun w' hw' => ?_) ?_
            · have x0 := C8.out w' hw'
              go_simp
            go_simp
            refine calm_move _ rfl (by rfl) rfl ?_
            go_simp
            refine calm_do (.int .i64 (q : Int)) rfl (by rfl) (fun w' hw' => ?_) ?_
            · go_simp
              all_goals (have := HQJ.out; first | omega | (rw [IntKind.wrap_i64]; omega) | (rw [Int.tdiv_eq_ediv_of_nonneg (by omega)]; omega))
            go_simp
            refine calm_do (.pointer (some ⟨w2.heap.size, q, none⟩)) rfl (by rfl) (fun w' hw' => ?_) ?_
            · go_simp
            go_simp
            refine calm_do (.int .u64 (x : Int)) rfl (by rfl) (fun w' hw' => ?_) ?_
            · have x0 := C4.out w' hw'
              go_simp
            go_simp
            refine calm_move _ rfl (by rfl) rfl ?_
            go_simp
            refine calm_do (.int .i64 6) rfl (by rfl) (fun w' hw' => ?_) ?_
            · go_simp
              all_goals (have := HQJ.out; rw [Int.tmod_eq_emod_of_nonneg (by omega)]; omega)
            go_simp
            refine calm_do (.int .i64 48) rfl (by rfl) (fun w' hw' => ?_) ?_
            · go_simp
              all_goals (first | (rw [IntKind.wrap_i64]; omega) | (rw [IntKind.wrap_u64]; omega) | decide)
            go_simp
            refine calm_do (.int .i64 8) rfl (by rfl) (fun w' hw' => ?_) ?_
            · go_simp
              all_goals (first | (rw [IntKind.wrap_i64]; omega) | (rw [IntKind.wrap_u64]; omega) | decide)
            go_simp
            refine calm_do (.int .u64 8) rfl (by rfl) (fun w' hw' => ?_) ?_
            · go_simp
              all_goals (first | (rw [IntKind.wrap_i64]; omega) | (rw [IntKind.wrap_u64]; omega) | decide)
            go_simp
            refine calm_do (.int .u64 ((x / 2 ^ 8 : Nat) : Int)) rfl (by rfl) (fun w' hw' => ?_) ?_
            · go_simp
            go_simp
            refine calm_do (.int .u8 ((x / 2 ^ 8 % 256 : Nat) : Int)) rfl (by rfl) (fun w' hw' => ?_) ?_
            · go_simp
              all_goals (rw [IntKind.wrap_u8])
            go_simp
            refine calm_do (.bool false) rfl (by rfl) (fun w' hw' => ?_) ?_
            · go_simp
            go_simp
            refine calm_nil (hK'.out _ ?_)
            clear hK' K'
            refine wpAnyH_done (by kernel_rfl) ?_ _
            have D8 : Hid (Arr wr.drew w5.heap.size 35 .u8 (nI st.bytes)) := B8.out
            have D4 : Hid (Arr wr.drew w2.heap.size 26 .u64 (nI st.list)) := B4.out
            have DQ : Hid (Below w.heap.size w wr.drew) := QB.out.drew
            go_wp2
            go_roundw
            case rel => exact ⟨i + 1, by omega, by go_num, D8, D4, DQ⟩
            case measure => simp [intOf]; omega
          · go_wp2_with fail
            have hS0 : Below wr.heap.size wr wr.drew := (Below.refl _ _).drew
            refine heldS_open (fun w' => Below wr.heap.size wr w') (by kernel_rfl) ?_
            refine held_reads (rs := [0, 1, 2, 3, 4, 5, 6, 7, 8, 9, 10, 11, 12, 13, 14]) (fuel := 0) (by kernel_rfl) (fun c d v a w h => by cases d <;> exact h) (by kernel_rfl) hS0 (fun K' hK' => ?_)
            refine calm_move _ rfl (by rfl) rfl ?_
            go_simp
            refine calm_do (.pointer (some ⟨w5.heap.size, i, none⟩)) rfl (by rfl) (fun w' hw' => ?_) ?_
            · go_simp
            go_simp
            refine calm_do (.int .u8 ((x / 2 ^ (56 - 8 * 7) % 256 : Nat) : Int)) rfl (by rfl) (fun w' hw' => ?_) ?_
            · have x0 := C8.out w' hw'
              go_simp
            go_simp
            refine calm_move _ rfl (by rfl) rfl ?_
            go_simp
            refine calm_do (.int .i64 (q : Int)) rfl (by rfl) (fun w' hw' => ?_) ?_
            · go_simp
              all_goals (have := HQJ.out; first | omega | (rw [IntKind.wrap_i64]; omega) | (rw [Int.tdiv_eq_ediv_of_nonneg (by omega)]; omega))
            go_simp
            refine calm_do (.pointer (some ⟨w2.heap.size, q, none⟩)) rfl (by rfl) (fun w' hw' => ?_) ?_
            · go_simp
            go_simp
            refine calm_do (.int .u64 (x : Int)) rfl (by rfl) (fun w' hw' => ?_) ?_
            · have x0 := C4.out w' hw'
              go_simp
            go_simp
            refine calm_move _ rfl (by rfl) rfl ?_
            go_simp
            refine calm_do (.int .i64 7) rfl (by rfl) (fun w' hw' => ?_) ?_
            · go_simp
              all_goals (have := HQJ.out; rw [Int.tmod_eq_emod_of_nonneg (by omega)]; omega)
            go_simp
            refine calm_do (.int .i64 56) rfl (by rfl) (fun w' hw' => ?_) ?_
            · go_simp
              all_goals (first | (rw [IntKind.wrap_i64]; omega) | (rw [IntKind.wrap_u64]; omega) | decide)
            go_simp
            refine calm_do (.int .i64 0) rfl (by rfl) (fun w' hw' => ?_) ?_
            · go_simp
              all_goals (first | (rw [IntKind.wrap_i64]; omega) | (rw [IntKind.wrap_u64]; omega) | decide)
            go_simp
            refine calm_do (.int .u64 0) rfl (by rfl) (fun w' hw' => ?_) ?_
            · go_simp
              all_goals (first | (rw [IntKind.wrap_i64]; omega) | (rw [IntKind.wrap_u64]; omega) | decide)
            go_simp
            refine calm_do (.int .u64 ((x / 2 ^ 0 : Nat) : Int)) rfl (by rfl) (fun w' hw' => ?_) ?_
            · go_simp
            go_simp
            refine calm_do (.int .u8 ((x / 2 ^ 0 % 256 : Nat) : Int)) rfl (by rfl) (fun w' hw' => ?_) ?_
            · go_simp
              all_goals (rw [IntKind.wrap_u8])
            go_simp
            refine calm_do (.bool false) rfl (by rfl) (fun w' hw' => ?_) ?_
            · go_simp
            go_simp
            refine calm_nil (hK'.out _ ?_)
            clear hK' K'
            refine wpAnyH_done (by kernel_rfl) ?_ _
            have D8 : Hid (Arr wr.drew w5.heap.size 35 .u8 (nI st.bytes)) := B8.out
            have D4 : Hid (Arr wr.drew w2.heap.size 26 .u64 (nI st.list)) := B4.out
            have DQ : Hid (Below w.heap.size w wr.drew) := QB.out.drew
            go_wp2
            go_roundw
            case rel => exact ⟨i + 1, by omega, by go_num, D8, D4, DQ⟩
            case measure => simp [intOf]; omega
        · obtain rfl : i = 64 := by omega
          go_wp2_with fail
          refine (awake14_any _).mono ?_
          rintro e wz ⟨rfl, qz⟩
          go_wp2
          go_ret
          exact ⟨rfl, QB.out.trans (qz.mono QB.out.size)⟩
theorem walk_Sha512Steps (z : List Nat) (a : Option Addr) (len cap : Nat) (w : World) (hr : Row .u8 w a len cap (nI z)) (hz : ∀ x ∈ z, x < 256) : Calls Try.prog 7 #[.slice a len cap] w fun e w' => e = .returned (.bool true) ∧ Below w.heap.size w w' :=
  walk_steps_gen KL S0 S0_ok (fun w => by rw [S0_list]; exact start_any w) (fun s z a cap w hs hr hz => block14_yes s z a cap w hs hr hz) sum14_one z a len cap w hr hz
end Go.Proofs.Ythcnnglpncblaaa.B
