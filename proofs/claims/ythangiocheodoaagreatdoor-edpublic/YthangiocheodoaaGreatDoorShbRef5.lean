/-
 The document's answer for layer 14 (casemateref14): Sum.
-/
import Derived.Test.YthangiocheodoaaGreatDoorShbRef4
import Derived.Test.YthangiocheodoaaGreatDoorPackSg
import Derived.Test.YthangiocheodoaaGreatDoorPackSb
namespace Go.Proofs.YthangiocheodoaaGreatDoor.B
open Go.RowKit
set_option linter.unusedVariables false
set_option maxRecDepth 8192

theorem bytes_at (s : S8) (i j : Nat) (hi : i < 8) (hj : j < 8) : s.bytes[8 * i + j]?.getD 0 = s.list[i]?.getD 0 / 2 ^ (56 - 8 * j) % 256 := by
 rcases (show i = 0 ∨ i = 1 ∨ i = 2 ∨ i = 3 ∨ i = 4 ∨ i = 5 ∨ i = 6 ∨ i = 7 by omega) with rfl | rfl | rfl | rfl | rfl | rfl | rfl | rfl <;> rcases (show j = 0 ∨ j = 1 ∨ j = 2 ∨ j = 3 ∨ j = 4 ∨ j = 5 ∨ j = 6 ∨ j = 7 by omega) with rfl | rfl | rfl | rfl | rfl | rfl | rfl | rfl <;> simp [S8.bytes, S8.list, be8]
theorem list_lt {s : S8} (h : s.Ok) (i : Nat) : s.list[i]?.getD 0 < 18446744073709551616 := getD_lt (by decide) (by
 intro x hx
 simp only [S8.list, List.mem_cons, List.not_mem_nil, or_false] at hx
 obtain ⟨ha, hb, hc, hd, he, hf, hg, hh⟩ := h
 rcases hx with rfl | rfl | rfl | rfl | rfl | rfl | rfl | rfl <;> assumption) i
theorem bytes_len (s : S8) : s.bytes.length = 64 := rfl
set_option maxHeartbeats 3200000 in
theorem refSum_gen (K : List Nat) (S : S8) (hK : K.length = 80) (hSok : S.Ok)
  (cR : ∀ w, Calls Tryz.prog 50 #[] w fun e w' => e = .returned (.agg ((nI K).map (Value.int .u64)).toArray) ∧ Below w.heap.size w w')
  (cSt : ∀ w, Calls Tryz.prog 51 #[] w fun e w' => e = .returned (.agg ((nI S.list).map (Value.int .u64)).toArray) ∧ Below w.heap.size w w')
  (cB : ∀ (s : S8) (z : List Nat) (a : Option Addr) (cap : Nat) (w : World), s.Ok → Row .u8 w a 128 cap (nI z) → (∀ x ∈ z, x < 256) → Calls Tryz.prog 52 #[.agg ((nI K).map (Value.int .u64)).toArray, .agg ((nI s.list).map (Value.int .u64)).toArray, .slice a 128 cap] w fun e w' => e = .returned (.agg ((nI (mixL K s z).list).map (Value.int .u64)).toArray) ∧ Below w.heap.size w w')
  (z : List Nat) (a : Option Addr) (len cap : Nat) (w : World) (hr : Row .u8 w a len cap (nI z)) (hz : ∀ x ∈ z, x < 256) (hsm : len ≤ 1000) :
  Calls Tryz.prog 23 #[.slice a len cap] w fun e w' => e = .returned (.agg ((nI (sumL K S z)).map (Value.int .u8)).toArray) ∧ Below w.heap.size w w' := by
 have HLz : Hid (z.length = len) := by have := hr.hlen; rw [nI_length] at this; exact this
 have HK : Hid ((nI K).length = 80) := by show _ = _; rw [nI_length]; exact hK
 have HL8 : Hid ((nI S.list).length = 8) := by show _ = _; rw [nI_length]; rfl
 have hnl := noughts_lt len
 have hpw := pad_whole len
 have HBY : Hid (∀ x ∈ z ++ padL len, x < 256) := fun x hx => by
  rcases List.mem_append.1 hx with h' | h'
  ·exact hz x h'
  ·exact padL_lt len x h'
 obtain ⟨TB, hTB⟩ : ∃ TB, len + (noughts len + 17) = 128 * TB := ⟨(len + (noughts len + 17)) / 128, by omega⟩
 have HSU : Hid (sumL K S z = (blocksTo K S (z ++ padL len) TB).bytes) := by
  show _ = _
  unfold sumL
  rw [HLz.out, show (len + (noughts len + 17)) / 128 = TB from by omega]
 have hTBl : TB ≤ 9 := by omega
 obtain ⟨M, hM⟩ : ∃ M, 128 * TB = M := ⟨_, rfl⟩
 have HM : Hid (128 * TB = M) := hM
 rw [hM] at hTB
 have hMl : M ≤ 1152 := by omega
 have A2 := Arr.new w 40 .u8 (nI (List.replicate 64 0)) _ rfl
 have q0 := below_one w (.cells ((nI (List.replicate 64 0)).map (Value.int .u8)).toArray 40)
 have s0 : (w.alloc (.cells ((nI (List.replicate 64 0)).map (Value.int .u8)).toArray 40)).heap.size = w.heap.size + 1 := by simp
 have hz1 := Tryz.zeroValue75
 have hz2 := Tryz.zeroCells75_ne
 have hz3 := Tryz.zeroCells75_size
 clear hK hz
 go_enter Tryz.func23, Tryz.ntmps23
 go_wp2_with fail
 change Calls Tryz.prog _ _ (w.alloc (.cells ((nI (List.replicate 64 0)).map (Value.int .u8)).toArray 40)) _
 replace hr := hr.below q0 (Nat.le_refl _)
 generalize w.alloc (.cells ((nI (List.replicate 64 0)).map (Value.int .u8)).toArray 40) = w0 at *
 refine (refPad14 z a len cap _ hr (by omega)).mono ?_
 rintro e w1 ⟨v1, rfl, own1, q1⟩
 obtain ⟨aP, cP, rfl, rP⟩ := row_of_owns own1
 have s1 := q1.size
 replace A2 := A2.below q1 (by omega)
 replace q0 := q0.trans (q1.mono (by omega))
 clear own1 q1 hr
 rw [hTB] at rP ⊢
 generalize z ++ padL len = P at *
 clear hTB hpw hnl hM
 go_wp2_with fail
 refine (cR _).mono ?_
 rintro e w2 ⟨rfl, q2⟩
 have s2 := q2.size
 replace rP := rP.below q2 (Nat.le_refl _)
 replace A2 := A2.below q2 (by omega)
 replace q0 := q0.trans (q2.mono (by omega))
 clear q2 cR
 have A4 := Arr.new w2 75 .u64 (nI (List.replicate 80 0)) _ zero80
 go_wp2_with (refine wpList_storeA rfl 75 _ _ rfl w2.heap.size (nI K) rfl rfl A4 Tryz.size75 (by decide +kernel) HK.out ?_)
 replace rP := rP.below (below_setRow (below_one w2 (.cells Tryz.zeroCells75 75)) (Nat.le_refl _) ((nI K).map (Value.int .u64)).toArray) (Nat.le_refl _)
 replace A4 := A4.whole (nI K)
 replace A2 := (A2.alloc (.cells Tryz.zeroCells75 75)).whole_other ((nI K).map (Value.int .u64)).toArray (show w.heap.size ≠ w2.heap.size by omega)
 replace q0 := below_setRow (q0.alloc (by omega) (.cells Tryz.zeroCells75 75)) (show w.heap.size ≤ w2.heap.size by omega) ((nI K).map (Value.int .u64)).toArray
 change Calls Tryz.prog _ _ ((w2.alloc (.cells Tryz.zeroCells75 75)).setRow w2.heap.size ((nI K).map (Value.int .u64)).toArray) _
 have s3 : w2.heap.size < ((w2.alloc (.cells Tryz.zeroCells75 75)).setRow w2.heap.size ((nI K).map (Value.int .u64)).toArray).heap.size := A4.lt
 clear hz1 hz2 hz3
 generalize (w2.alloc (.cells Tryz.zeroCells75 75)).setRow w2.heap.size ((nI K).map (Value.int .u64)).toArray = w3 at *
 have hg4 : w.heap.size < w2.heap.size := by omega
 generalize w2.heap.size = g4 at *
 clear s0 s1 s2
 refine (cSt _).mono ?_
 rintro e w4 ⟨rfl, q4⟩
 have s4 := q4.size
 replace rP := rP.below q4 (Nat.le_refl _)
 replace A2 := A2.below q4 (by omega)
 replace A4 := A4.below q4 s3
 replace q0 := q0.trans (q4.mono (by omega))
 clear q4 cSt
 have A5 := Arr.new w4 77 .u64 (nI (List.replicate 8 0)) _ rfl
 have hg5 : g4 < w4.heap.size := by omega
 go_wp2_with (refine wpList_storeA rfl 77 _ _ rfl w4.heap.size (nI S.list) rfl rfl A5 Tryz.size77 (by decide +kernel) HL8.out ?_)
 have HA5 : Hid (Arr ((w4.alloc (.cells ((nI (List.replicate 8 0)).map (Value.int .u64)).toArray 77)).setRow w4.heap.size ((nI S.list).map (Value.int .u64)).toArray) w4.heap.size 77 .u64 (nI (blocksTo K S P 0).list)) := A5.whole (nI S.list)
 have HA4 : Hid (Arr ((w4.alloc (.cells ((nI (List.replicate 8 0)).map (Value.int .u64)).toArray 77)).setRow w4.heap.size ((nI S.list).map (Value.int .u64)).toArray) g4 75 .u64 (nI K)) := (A4.alloc _).whole_other _ (by omega)
 have HA2 : Hid (Arr ((w4.alloc (.cells ((nI (List.replicate 8 0)).map (Value.int .u64)).toArray 77)).setRow w4.heap.size ((nI S.list).map (Value.int .u64)).toArray) w.heap.size 40 .u8 (nI (List.replicate 64 0))) := (A2.alloc _).whole_other _ (by omega)
 have HB : Hid (Below w.heap.size w ((w4.alloc (.cells ((nI (List.replicate 8 0)).map (Value.int .u64)).toArray 77)).setRow w4.heap.size ((nI S.list).map (Value.int .u64)).toArray)) := below_setRow (q0.alloc (by omega) _) (by omega) _
 have HB5 : Hid (Below w4.heap.size w4 ((w4.alloc (.cells ((nI (List.replicate 8 0)).map (Value.int .u64)).toArray 77)).setRow w4.heap.size ((nI S.list).map (Value.int .u64)).toArray)) := below_setRow (below_one w4 _) (Nat.le_refl _) _
 clear A5 A4 A2 q0 HL8
 change Code.wp _ _ _ _ ((w4.alloc (.cells ((nI (List.replicate 8 0)).map (Value.int .u64)).toArray 77)).setRow w4.heap.size ((nI S.list).map (Value.int .u64)).toArray)
 generalize (w4.alloc (.cells ((nI (List.replicate 8 0)).map (Value.int .u64)).toArray 77)).setRow w4.heap.size ((nI S.list).map (Value.int .u64)).toArray = w5 at *
 go_wp2
 go_loopw [6] (fun y wr => ∃ k : Nat, k ≤ TB ∧ y = .int .i64 ((128 * k : Nat) : Int) ∧ Hid (Arr wr w4.heap.size 77 .u64 (nI (blocksTo K S P k).list)) ∧ Hid (Arr wr g4 75 .u64 (nI K)) ∧ Hid (Arr wr w.heap.size 40 .u8 (nI (List.replicate 64 0))) ∧ Hid (Below w.heap.size w wr) ∧ Hid (Below w4.heap.size w4 wr)) (fun y _ => M - (intOf y).toNat)
 case atStart => exact ⟨0, Nat.zero_le _, rfl, HA5, HA4, HA2, HB, HB5⟩
 case round =>
  clear HA5 HA4 HA2 HB HB5
  obtain ⟨k, hk, rfl, HA5, HA4, HA2, HB, HB5⟩ := hrel
  have HOKk : Hid ((blocksTo K S P k).Ok) := blocksTo_ok hSok _ _
  have HLk : Hid ((nI (blocksTo K S P k).list).length = 8) := by show _ = _; rw [nI_length]; rfl
  have hlt5 := HA5.out.lt
  have sB := HB5.out.size
  by_cases hkt : k < TB
  ·have HNX : Hid (mixL K (blocksTo K S P k) ((P.drop (128 * k)).take 128) = blocksTo K S P (k + 1)) := rfl
   have rPk := rP.below HB5.out (Nat.le_refl _)
   have hkM : 128 * k + 128 ≤ M := by have := HM.out; omega
   obtain ⟨a7, hs7, row7⟩ := row_window rPk (128 * k) 128 (by decide) hkM
   have hcap6 := rPk.hcap
   have HWin : Hid (∀ W, (Instr.sliceAt 24 (.slice aP M cP) (some (.int .i64 ((128 * k : Nat) : Int))) (some (.int .i64 ((128 * k + 128 : Nat) : Int))) none).run Tryz.prog W = .ok (.slice a7 128 (cP - 128 * k)) W) := fun W => by
    rw [run_windowA 24 5 Tryz.underlying24 Tryz.one5 aP M cP (128 * k) (128 * k + 128) .i64 .i64 (by omega) (by omega) W, hs7]
   have rW := row7 wr (fun b off hb => ⟨rfl, Nat.le_refl _⟩)
   rw [nI_drop, nI_take] at rW
   have HW256 : Hid (∀ x ∈ (P.drop (128 * k)).take 128, x < 256) := fun x hx => HBY.out x (List.mem_of_mem_drop (List.mem_of_mem_take hx))
   have HLn : Hid ((nI (blocksTo K S P (k + 1)).list).length = 8) := by show _ = _; rw [nI_length]; rfl
   have cBk : ∀ w', Below wr.heap.size wr w' → Calls Tryz.prog 52 #[.agg ((nI K).map (Value.int .u64)).toArray, .agg ((nI (blocksTo K S P k).list).map (Value.int .u64)).toArray, .slice a7 128 (cP - 128 * k)] w' fun e w'' => e = .returned (.agg ((nI (blocksTo K S P (k + 1)).list).map (Value.int .u64)).toArray) ∧ Below w'.heap.size w' w'' := fun w' hw' => by
    rw [← HNX.out]
    exact cB _ _ a7 (cP - 128 * k) w' HOKk.out (rW.below hw' (Nat.le_refl _)) HW256.out
   clear row7 hs7 rPk rW HNX HW256
   generalize blocksTo K S P k = sk at *
   generalize hsn : blocksTo K S P (k + 1) = sn at *
   have HSN : Hid (sn = blocksTo K S P (k + 1)) := hsn.symm
   clear hsn
   obtain ⟨p0, hp0⟩ : ∃ p0, 128 * k = p0 := ⟨_, rfl⟩
   have HP0 : Hid (128 * k = p0) := hp0
   rw [hp0] at HWin hkM cBk ⊢
   obtain ⟨p1, hp1⟩ : ∃ p1, p0 + 128 = p1 := ⟨_, rfl⟩
   have HP1 : Hid (p0 + 128 = p1) := hp1
   have e1 : (p0 : Int) + 128 = (p1 : Int) := by omega
   rw [hp1] at HWin hkM
   clear hp0 hp1
   have hp2 : p0 ≤ 1152 := by have := HP1.out; omega
   have hp3 : (p0 : Int) < (M : Int) := by have := HP1.out; omega
   go_wp2_with fail
   have hS0 : Arr wr.drew g4 75 .u64 (nI K) ∧ wr.heap.size ≤ wr.drew.heap.size := ⟨HA4.out, Nat.le_refl _⟩
   have qd : Below wr.heap.size wr wr.drew := (Below.refl _ _).drew
   refine heldS_open (fun w' => Arr w' g4 75 .u64 (nI K) ∧ wr.heap.size ≤ w'.heap.size) (by kernel_rfl) ?_
   refine held_reads (rs := [0, 2, 3, 4, 5, 6]) (fuel := 3) (by kernel_rfl) (fun c d v a w h => by cases d <;> exact h) (by kernel_rfl) hS0 (fun K' hK' => ?_)
   refine calm_do (.agg ((nI K).map (Value.int .u64)).toArray) rfl (by rfl) (fun w' hw' => ?_) ?_
   ·exact exec_loadA 75 _ rfl g4 rfl hw'.1 Tryz.underlying75 Tryz.size75 HK.out
   go_simp
   refine calm_move _ rfl (by rfl) rfl ?_
   go_simp
   refine calm_move _ rfl (by rfl) rfl ?_
   go_simp
   refine calm_move _ rfl (by rfl) rfl ?_
   go_simp
   refine calm_do (.int .i64 (p1 : Int)) rfl (by rfl) (fun w' hw' => ?_) ?_
   ·go_simp
    all_goals (rw [IntKind.wrap_i64]; omega)
   go_simp
   refine calm_do (.slice a7 128 (cP - p0)) rfl (by rfl) (fun w' hw' => ?_) ?_
   ·exact exec_sliceLH 24 (.tmp 21) (.tmp 22) (.tmp 24) rfl (.slice aP M cP) (.int .i64 (p0 : Int)) (.int .i64 (p1 : Int)) _ rfl rfl rfl (HWin.out w')
   go_simp
   refine calm_nil (hK'.out _ ?_)
   clear hK' K'
   refine heldS_op (i := 1) (fuel := 2) (by kernel_rfl) rfl (by rfl) (fun K' hK' => ?_)
   refine wp_load_row 77 _ rfl w4.heap.size rfl 77 _ (0, 0) _ HA5.out Tryz.underlying77 rfl (by rw [Tryz.size77]; simp [HLk.out]) ?_
   go_simp
   refine hK' _ _ hS0 ?_
   clear hK' K'
   refine heldS_op (i := 7) (fuel := 1) (by kernel_rfl) rfl (by rfl) (fun K' hK' => ?_)
   go_simp
   refine (cBk wr.drew qd).mono ?_
   rintro e wm ⟨rfl, qm⟩
   replace qm : Below wr.heap.size wr wm := qd.trans qm
   have SM : Arr wm g4 75 .u64 (nI K) ∧ wr.heap.size ≤ wm.heap.size := ⟨HA4.out.below qm HA4.out.lt, qm.size⟩
   refine hK' _ _ SM ?_
   clear hK' K' qd
   have A5 := HA5.out.below qm hlt5
   refine heldS_op (i := 8) (fuel := 0) (by kernel_rfl) rfl (by rfl) (fun K' hK' => ?_)
   refine wp_storeA 77 _ _ rfl w4.heap.size (nI sn.list) rfl rfl A5 Tryz.size77 HLk.out HLn.out ?_
   have HN5 : Hid (Arr (wm.setRow w4.heap.size ((nI sn.list).map (Value.int .u64)).toArray) w4.heap.size 77 .u64 (nI (blocksTo K S P (k + 1)).list)) := by
    show Arr _ _ _ _ _
    rw [← HSN.out]
    exact A5.whole (nI sn.list)
   have A4E := SM.1.whole_other ((nI sn.list).map (Value.int .u64)).toArray (show g4 ≠ w4.heap.size by omega)
   have HN4 : Hid (Arr (wm.setRow w4.heap.size ((nI sn.list).map (Value.int .u64)).toArray) g4 75 .u64 (nI K)) := A4E
   have HN2 : Hid (Arr (wm.setRow w4.heap.size ((nI sn.list).map (Value.int .u64)).toArray) w.heap.size 40 .u8 (nI (List.replicate 64 0))) := (HA2.out.below qm HA2.out.lt).whole_other _ (by omega)
   have HNB : Hid (Below w.heap.size w (wm.setRow w4.heap.size ((nI sn.list).map (Value.int .u64)).toArray)) := below_setRow (HB.out.trans (qm.mono HB.out.size)) (by omega) _
   have HNB5 : Hid (Below w4.heap.size w4 (wm.setRow w4.heap.size ((nI sn.list).map (Value.int .u64)).toArray)) := below_setRow (HB5.out.trans (qm.mono sB)) (Nat.le_refl _) _
   refine hK' _ _ ⟨A4E, by rw [size_setRow]; exact SM.2⟩ ?_
   clear hK' K' HA5 HA4 HA2 HB HB5 A5 A4E SM qm
   generalize wm.setRow w4.heap.size ((nI sn.list).map (Value.int .u64)).toArray = wE at *
   refine wpAnyH_done (by kernel_rfl) ?_ _
   go_wp2
   go_roundw
   case rel => exact ⟨k + 1, by omega, by have := HP0.out; have := HP1.out; go_num, HN5, HN4, HN2, HNB, HNB5⟩
   case measure => have := HP0.out; have := HP1.out; simp [intOf]; omega
  ·obtain rfl : k = TB := by omega
   obtain ⟨st, hst⟩ : ∃ st, blocksTo K S P k = st := ⟨_, rfl⟩
   rw [hst] at HSU HA5 HOKk HLk
   clear hst HA4 cB rP HBY
   have hMI : ¬ ((M : Int) < (M : Int)) := by omega
   rw [HM.out]
   have HLb : Hid ((nI st.bytes).length = 64) := by show _ = _; rw [nI_length]; rfl
   have A7 := Arr.new wr 40 .u8 (nI (List.replicate 64 0)) _ rfl
   have sw := HB.out.size
   have lt2 := HA2.out.lt
   rw [← fillL_zero st.bytes 64] at A7
   have HB7 : Hid (Arr (wr.alloc (.cells ((nI (List.replicate 64 0)).map (Value.int .u8)).toArray 40)) wr.heap.size 40 .u8 (nI (fillL st.bytes 64 0))) := A7
   have HC5 : Hid (Arr (wr.alloc (.cells ((nI (List.replicate 64 0)).map (Value.int .u8)).toArray 40)) w4.heap.size 77 .u64 (nI st.list)) := HA5.out.alloc _
   have HC2 : Hid (Arr (wr.alloc (.cells ((nI (List.replicate 64 0)).map (Value.int .u8)).toArray 40)) w.heap.size 40 .u8 (nI (List.replicate 64 0))) := HA2.out.alloc _
   have HCB : Hid (Below w.heap.size w (wr.alloc (.cells ((nI (List.replicate 64 0)).map (Value.int .u8)).toArray 40))) := HB.out.alloc sw _
   clear A7 HA5 HA2 HB HB5 HM hkt
   go_wp2
   change Code.wp _ _ _ _ (wr.alloc (.cells ((nI (List.replicate 64 0)).map (Value.int .u8)).toArray 40))
   generalize wr.alloc (.cells ((nI (List.replicate 64 0)).map (Value.int .u8)).toArray 40) = w6 at *
   generalize wr.heap.size = g7 at *
   have HX : Hid (∀ i, st.list[i]?.getD 0 < 18446744073709551616) := fun i => list_lt HOKk.out i
   have HGt : Hid (∀ i j, i < 8 → j < 8 → st.bytes[8 * i + j]?.getD 0 = st.list[i]?.getD 0 / 2 ^ (56 - 8 * j) % 256) := fun i j => bytes_at st i j
   have HB64 : Hid (st.bytes.length = 64) := bytes_len st
   clear HOKk
   go_loopw [8] (fun y wr => ∃ i : Nat, i ≤ 64 ∧ y = .int .i64 (i : Int) ∧ Hid (Arr wr g7 40 .u8 (nI (fillL st.bytes 64 i))) ∧ Hid (Arr wr w4.heap.size 77 .u64 (nI st.list)) ∧ Hid (Arr wr w.heap.size 40 .u8 (nI (List.replicate 64 0))) ∧ Hid (Below w.heap.size w wr)) (fun y _ => 64 - (intOf y).toNat)
   case atStart => exact ⟨0, by omega, rfl, HB7, HC5, HC2, HCB⟩
   case round =>
    clear HB7 HC5 HC2 HCB
    obtain ⟨i, hi, rfl, HA7, HA5, HA2, HB⟩ := hrel
    by_cases h64 : i < 64
    ·obtain ⟨q, j, hq8, hj8, hqj⟩ : ∃ q j : Nat, q < 8 ∧ j < 8 ∧ i = 8 * q + j := ⟨i / 8, i % 8, by omega, Nat.mod_lt _ (by decide), by omega⟩
     have hl7 := fillL_length HB64.out hi
     have c7 := HA7.out.cell i (by rw [nI_length, hl7]; exact h64)
     have f7 := HA7.out.unfrozen i
     have c5 := HA5.out.cell q (by rw [HLk.out]; exact hq8)
     rw [nI_get] at c5
     have hbv := HGt.out q j hq8 hj8
     rw [← hqj] at hbv
     have HN : Hid (Arr (wr.setCell ⟨g7, i, none⟩ (.int .u8 ((st.list[q]?.getD 0 / 2 ^ (56 - 8 * j) % 256 : Nat) : Int))) g7 40 .u8 (nI (fillL st.bytes 64 (i + 1)))) := by
      show Arr _ _ _ _ _
      have h := HA7.out.set (by rw [nI_length, hl7]; decide) i ((st.bytes[i]?.getD 0 : Nat) : Int)
      rw [nI_set, fillL_next HB64.out h64, hbv] at h
      exact h
     have hx := HX.out q
     clear hbv hl7
     generalize st.list[q]?.getD 0 = x at *
     generalize (nI (fillL st.bytes 64 i))[i]?.getD 0 = x7 at *
     have hqt : (i : Int).tdiv 8 = (q : Int) := by rw [Int.tdiv_eq_ediv_of_nonneg (by omega)]; omega
     have hjt : (i : Int).tmod 8 = (j : Int) := by rw [Int.tmod_eq_emod_of_nonneg (by omega)]; omega
     have hqe : (i : Int) / 8 = (q : Int) := by omega
     have hje : (i : Int) % 8 = (j : Int) := by omega
     obtain ⟨j8, hj80⟩ : ∃ y, 8 * j = y := ⟨_, rfl⟩
     rw [hj80] at HN
     have e8 : (8 : Int) * (j : Int) = (j8 : Int) := by omega
     have hj8l : j8 ≤ 56 := by omega
     obtain ⟨sh, hsh⟩ : ∃ y, 56 - j8 = y := ⟨_, rfl⟩
     rw [hsh] at HN
     have esh : (56 : Int) - (j8 : Int) = (sh : Int) := by omega
     have hshl : sh ≤ 56 := by omega
     have wsh : IntKind.u64.wrap (sh : Int) = (sh : Int) := by rw [IntKind.wrap_u64]; omega
     have htn : ((sh : Int)).toNat = sh := by omega
     obtain ⟨y, hy⟩ : ∃ y, x / 2 ^ sh = y := ⟨_, rfl⟩
     have ed : (x : Int) / 2 ^ sh = (y : Int) := by rw [← hy]; simp
     have hyl : y ≤ x := by rw [← hy]; exact Nat.div_le_self _ _
     rw [hy] at HN
     clear hy hsh hj80 hqj
     have hi64 : (i : Int) < 64 := by omega
     have hq8i : (q : Int) < 8 := by omega
     go_wp2
     go_roundw
     case rel => exact ⟨i + 1, by omega, by go_num, (by rw [show ((y : Int) % 256) = ((y % 256 : Nat) : Int) from by omega]; exact HN), HA5.out.other _ _ (by show w4.heap.size ≠ g7; omega), HA2.out.other _ _ (by show w.heap.size ≠ g7; omega), HB.out.setCell (by show w.heap.size ≤ g7; omega) _⟩
     case measure => simp [intOf]; omega
    ·obtain rfl : i = 64 := by omega
     have A7 := HA7.out
     rw [fillL_full HB64.out] at A7
     rw [show ((64 : Nat) : Int) = 64 from rfl]
     go_wp2_with (first
      | (refine wpList_loadA rfl 40 _ rfl g7 rfl A7 Tryz.underlying40 Tryz.size40 HLb.out ?_)
      | (refine wpList_storeA rfl 40 _ _ rfl w.heap.size (nI st.bytes) rfl rfl HA2.out Tryz.size40 (by decide +kernel) HLb.out ?_))
     exact bodyPost_ret (resA rfl _ _ w.heap.size rfl (HA2.out.whole _) Tryz.underlying40 Tryz.size40 HLb.out) rfl ⟨by rw [HSU.out], below_setRow HB.out (Nat.le_refl _) _⟩
theorem refSum14 (z : List Nat) (a : Option Addr) (len cap : Nat) (w : World) (hr : Row .u8 w a len cap (nI z)) (hz : ∀ x ∈ z, x < 256) (hsm : len ≤ 1000) :
  Calls Tryz.prog 23 #[.slice a len cap] w fun e w' => e = .returned (.agg ((nI (sumL KL S0 z)).map (Value.int .u8)).toArray) ∧ Below w.heap.size w w' :=
 refSum_gen KL S0 KL_length S0_ok refRounds14 (fun w => by rw [S0_list]; exact refStart14 w) (fun s z a cap w hs hr hz => refBlock14 s KL z a cap w hs KL_length KL_lt hr hz) z a len cap w hr hz hsm
end Go.Proofs.YthangiocheodoaaGreatDoor.B
