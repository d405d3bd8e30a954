/-
  Layer 13's reference: Sum. (Written by tools/gen/sha_refsum.py.)
-/
import Derived.Test.YtoijeefmddopbaaShaRef7
import Derived.Test.YtoijeefmddopbaaShaHash6
namespace Go.Proofs.Ytoijeefmddopbaa
open Go.RowKit
set_option linter.unusedVariables false
set_option maxRecDepth 8192

theorem wpList_sliceLH {P : Program} {ops : Array Oper} {rest : List Oper} {o : Oper} {a : Act} {w : World} {Q : Exit → Act → World → Prop} (hgd : o.guard = none) (ty : TypeId) (x lo hi : Operand) (ho : o.op = .slice ty x (some lo) (some hi) none)
    (vx vl vh v : Value) (hx : a.eval x = vx) (hl : a.eval lo = vl) (hh : a.eval hi = vh) (hr : (Instr.sliceAt ty vx (some vl) (some vh) none).run P w = .ok v w)
    (h : wpList P ops Q rest (a.put o.dst v) w) : wpList P ops Q (o :: rest) a w :=
  wpList_plain hgd fun _ hK => by
    unfold Oper.wp execOp
    simp only [ho, hx, hl, hh, Option.map_some, Option.map_none, Sem.run_bind, Sem.run_pure, Result.andThen_ok, hr]
    exact hK _ _ h
theorem bytes_get (s : S8) (i j : Nat) (hi : i < 8) (hj : j < 4) : s.bytes[4 * i + j]?.getD 0 = s.list[i]?.getD 0 / 2 ^ (8 * (3 - j)) % 256 := by
  rcases (show i = 0 ∨ i = 1 ∨ i = 2 ∨ i = 3 ∨ i = 4 ∨ i = 5 ∨ i = 6 ∨ i = 7 by omega) with rfl | rfl | rfl | rfl | rfl | rfl | rfl | rfl <;> rcases (show j = 0 ∨ j = 1 ∨ j = 2 ∨ j = 3 by omega) with rfl | rfl | rfl | rfl <;> simp [S8.bytes, S8.list, be4]
set_option maxHeartbeats 6400000 in
theorem refSum_gen (K : List Nat) (S : S8) (hKl : ∀ x ∈ K, x < 4294967296) (hSok : S.Ok)
    (hR : ∀ w, Calls Try.prog 16 #[] w fun e w' => ∃ v, e = .returned v ∧ w'.ownsRow w.heap.size 3 1 v 64 ((nI K).map (Value.int .i64)) ∧ Below w.heap.size w w')
    (hSt : ∀ w, Calls Try.prog 15 #[] w fun e w' => ∃ v, e = .returned v ∧ w'.ownsRow w.heap.size 3 1 v 8 ((nI S.list).map (Value.int .i64)) ∧ Below w.heap.size w w')
    (z : List Nat) (a : Option Addr) (len cap : Nat) (w : World) (hr : Row .u8 w a len cap (nI z)) (hz : ∀ x ∈ z, x < 256) (hl : len ≤ 100000) :
    Calls Try.prog 22 #[.slice a len cap] w fun e w' => ∃ v, e = .returned v ∧ w'.ownsRow w.heap.size 5 1 v 32 ((nI (sumL K S z)).map (Value.int .u8)) ∧ Below w.heap.size w w' := by
  obtain ⟨i0, hi0, hz0, hz1, hz2⟩ := info_parts Try.info5
  have HLz : Hid (z.length = len) := by have := hr.hlen; rw [nI_length] at this; exact this
  have hnl := noughts_lt len
  have hpw := pad_whole len
  go_enter Try.func22, Try.ntmps22
  go_wp2_with fail
  refine (refPad13 z a len cap _ hr hl).mono ?_
  rintro e w1 ⟨v1, rfl, own1, q1⟩
  obtain ⟨aP, cP, rfl, rowP⟩ := row_of_owns own1
  clear own1
  have HBY : Hid (∀ x ∈ z ++ padL len, x < 256) := fun x hx => by
    rcases List.mem_append.1 hx with h' | h'
    · exact hz x h'
    · exact padL_lt len x h'
  obtain ⟨TB, hTB⟩ : ∃ TB, len + (noughts len + 9) = 64 * TB := ⟨(len + (noughts len + 9)) / 64, by omega⟩
  have HSU : Hid ((blocksTo K S (z ++ padL len) TB).bytes = sumL K S z) := by
    show _ = _
    unfold sumL
    rw [HLz.out, show (len + (noughts len + 9)) / 64 = TB from by omega]
  rw [hTB] at rowP ⊢
  have hTBl : TB ≤ 2000 := by omega
  generalize z ++ padL len = pl at *
  clear hTB hpw hnl hz hr
  go_wp2_with fail
  refine (hR _).mono ?_
  rintro e w2 ⟨v2, rfl, own2, q2⟩
  obtain ⟨aK, cK, rfl, rowK⟩ := row_of_owns own2
  clear own2 hR
  go_wp2_with fail
  refine (hSt _).mono ?_
  rintro e w3 ⟨v3, rfl, own3, q3⟩
  obtain ⟨aS, cS, rfl, rowS⟩ := row_of_owns own3
  clear own3 hSt
  have s1 := q1.size
  have s2 := q2.size
  have s3 := q3.size
  have rP := (rowP.below q2 (Nat.le_refl _)).below q3 (Nat.le_refl _)
  have rK := rowK.below q3 (Nat.le_refl _)
  have q03 : Below w.heap.size w w3 := (q1.trans (q2.mono s1)).trans (q3.mono (by omega))
  clear rowP rowK q1 q2 q3
  have s03 := q03.size
  go_wp2
  go_loopw [5, 6] (fun v y wr => ∃ (k : Nat) (a5 : Option Addr) (c5 : Nat), k ≤ TB ∧ y = .int .i64 ((64 * k : Nat) : Int) ∧ v = .slice a5 8 c5 ∧ Hid (Row .i64 wr a5 8 c5 (nI (blocksTo K S pl k).list)) ∧ Hid (Below w3.heap.size w3 wr)) (fun _ y _ => 64 * TB - (intOf y).toNat)
  case atStart => exact ⟨0, aS, cS, Nat.zero_le _, rfl, rfl, rowS, Below.refl _ _⟩
  case round =>
    clear rowS
    obtain ⟨k, a5, c5, hk, rfl, rfl, HR, HB⟩ := hrel
    have sB := HB.out.size
    have HOKk : Hid ((blocksTo K S pl k).Ok) := blocksTo_ok hSok _ _
    by_cases hkt : k < TB
    · have HNX : Hid (mixL K (blocksTo K S pl k) ((pl.drop (64 * k)).take 64) = blocksTo K S pl (k + 1)) := rfl
      have rPk := rP.below HB.out (Nat.le_refl _)
      obtain ⟨a7, hs7, row7⟩ := row_window rPk (64 * k) 64 (by decide) (by omega)
      have hcap6 := rPk.hcap
      have HWin : Hid (∀ W, (Instr.sliceAt 36 (.slice aP (64 * TB) cP) (some (.int .i64 ((64 * k : Nat) : Int))) (some (.int .i64 ((64 * k + 64 : Nat) : Int))) none).run Try.prog W = .ok (.slice a7 64 (cP - 64 * k)) W) := fun W => by
        rw [run_windowA 36 5 Try.underlying36 Try.one5 aP (64 * TB) cP (64 * k) (64 * k + 64) .i64 .i64 (by omega) (by omega) W, hs7]
      have rW := row7 wr (fun b off hb => ⟨rfl, Nat.le_refl _⟩)
      rw [nI_drop, nI_take] at rW
      have HW256 : Hid (∀ x ∈ (pl.drop (64 * k)).take 64, x < 256) := fun x hx => HBY.out x (List.mem_of_mem_drop (List.mem_of_mem_take hx))
      have hblk := refBlock13 K (blocksTo K S pl k) ((pl.drop (64 * k)).take 64) aK a5 a7 cK c5 (cP - 64 * k) wr HOKk.out hKl (rK.below HB.out (Nat.le_refl _)) HR.out rW HW256.out
      rw [HNX.out] at hblk
      clear row7 hs7 rPk rW HNX
      have e1 : ((64 * k : Nat) : Int) + 64 = ((64 * k + 64 : Nat) : Int) := by omega
      obtain ⟨p0, hp0⟩ : ∃ p0, 64 * k = p0 := ⟨_, rfl⟩
      have HP0 : Hid (64 * k = p0) := hp0
      rw [hp0] at e1 HWin hblk ⊢
      obtain ⟨p1, hp1'⟩ : ∃ p1, p0 + 64 = p1 := ⟨_, rfl⟩
      rw [hp1'] at e1 HWin
      have hp1 : p0 < 64 * TB := by omega
      have hp2 : p0 ≤ 200000 := by omega
      have hp3 : p1 ≤ 200000 := by omega
      clear hp0 hp1'
      go_wp2_with (refine wpList_sliceLH rfl 36 _ _ _ rfl (.slice aP (64 * TB) cP) (.int .i64 (p0 : Int)) (.int .i64 (p1 : Int)) _ rfl rfl rfl (HWin.out _) ?_)
      refine hblk.mono ?_
      rintro e w6 ⟨v6, rfl, own6, q6⟩
      obtain ⟨a6, c6, rfl, row6⟩ := row_of_owns own6
      have HB6 : Hid (Below w3.heap.size w3 w6) := HB.out.trans (q6.mono sB)
      clear own6 q6 e1
      go_wp2
      go_roundw
      case rel => exact ⟨k + 1, a6, c6, by omega, by have := HP0.out; go_num, rfl, row6, HB6⟩
      case measure => have := HP0.out; simp [intOf]; omega
    · obtain rfl : k = TB := by omega
      have rS := HR.out
      obtain ⟨st, hst⟩ : ∃ st, blocksTo K S pl k = st := ⟨_, rfl⟩
      rw [hst] at rS HOKk HSU
      clear hst
      obtain ⟨wL, hwL⟩ : ∃ x, x = wr := ⟨_, rfl⟩
      subst hwL
      obtain ⟨bS, oS, rfl, hbS, hcS⟩ := rS.hcell (by decide)
      have HCS : Hid (∀ i, i < 8 → wL.cell? ⟨bS, oS + i, none⟩ = some (.int .i64 ((nI st.list)[i]?.getD 0))) := hcS
      clear hcS rS HR
      have HBL := HB
      clear HB
      have HF : Hid (st.bytes.take (4 * 8) = st.bytes) := rfl
      have hp64 : ∃ p, 64 * k = p := ⟨_, rfl⟩
      obtain ⟨p64, h64⟩ := hp64
      rw [h64]
      have h64l : p64 ≤ 200000 := by omega
      clear h64
      go_wp2
      go_loopw [7, 8] (fun v y wr => ∃ i : Nat, i ≤ 8 ∧ y = .int .i64 (i : Int) ∧ Hid (wr.ownsRow wL.heap.size 5 1 v (4 * i) ((nI (st.bytes.take (4 * i))).map (Value.int .u8))) ∧ Hid (Below wL.heap.size wL wr)) (fun _ y _ => 8 - (intOf y).toNat)
      case atStart => exact ⟨0, by omega, rfl, World.ownsRow_nil _ _ _ _, Below.refl _ _⟩
      case round =>
        obtain ⟨i, hi, rfl, HO, HB⟩ := hrel
        by_cases hlt8 : i < 8
        · have HXX : Hid (∀ w', Below wL.heap.size wL w' → w'.cell? ⟨bS, oS + i, none⟩ = some (.int .i64 ((st.list[i]?.getD 0 : Nat) : Int))) := fun w' hw' => by
            rw [hw'.cell (by exact hbS), HCS.out i hlt8, nI_get]
          have lS := list8_lt HOKk.out i
          have HG : Hid (∀ j, j < 4 → st.bytes.take (4 * i + j + 1) = st.bytes.take (4 * i + j) ++ [st.list[i]?.getD 0 / 2 ^ (8 * (3 - j)) % 256]) := fun j hj => by
            rw [take_snocN _ _ (by rw [bytes_length]; omega), bytes_get st i j hlt8 hj]
          generalize st.list[i]?.getD 0 = xs at *
          have hii : (i : Int) < 8 := by omega
          obtain ⟨i4, hi4⟩ : ∃ i4, 4 * i = i4 := ⟨_, rfl⟩
          have HI4 : Hid (4 * i = i4) := hi4
          rw [hi4] at HO HG
          have hi4l : i4 ≤ 32 := by omega
          clear hi4
          go_wp2
          go_loopw [7, 9] (fun v y ws => ∃ j : Nat, j ≤ 4 ∧ y = .int .i64 (3 - (j : Int)) ∧ Hid (ws.ownsRow wL.heap.size 5 1 v (i4 + j) ((nI (st.bytes.take (i4 + j))).map (Value.int .u8))) ∧ Hid (Below wL.heap.size wL ws)) (fun _ y _ => (intOf y + 1).toNat)
          case atStart => exact ⟨0, by omega, rfl, HO, HB⟩
          case round =>
            clear HO HB
            obtain ⟨j, hj, rfl, HO, HB⟩ := hrel
            have hown := HO.out
            have hbel := HB.out
            have hs3 := hbel.size
            by_cases h4 : j < 4
            · have HT0 := HG.out j h4
              have HT : Hid (st.bytes.take (i4 + j + 1) = st.bytes.take (i4 + j) ++ [xs / 2 ^ (8 * (3 - j)) % 256]) := HT0
              clear HT0
              have hp := fun w => power_any (8 * (3 - j)) w (by omega)
              have hpp : 0 < 2 ^ (8 * (3 - j)) := Nat.two_pow_pos _
              have em : (8 : Int) * (3 - (j : Int)) = ((8 * (3 - j) : Nat) : Int) := by omega
              have hpel : 8 * (3 - j) ≤ 24 := by omega
              generalize 2 ^ (8 * (3 - j)) = p at *
              generalize 8 * (3 - j) = pe at *
              have hd : (xs : Int).tdiv (p : Int) = ((xs / p : Nat) : Int) := (Int.ofNat_tdiv xs p).symm
              have hd2 : (xs : Int) / (p : Int) = ((xs / p : Nat) : Int) := by simp
              have hdl : xs / p ≤ xs := Nat.div_le_self _ _
              have hp0 : ¬ (p : Int) = 0 := by omega
              have hp0n : ¬ p = 0 := by omega
              generalize xs / p = d at *
              have hwd : IntKind.i64.wrap (d : Int) = (d : Int) := by rw [IntKind.wrap_i64]; omega
              obtain ⟨nx, hnx⟩ : ∃ nx, d % 256 = nx := ⟨_, rfl⟩
              rw [hnx] at HT
              have HNX : Hid (d % 256 = nx) := hnx
              have hnl : nx < 256 := by rw [← hnx]; exact Nat.mod_lt _ (by decide)
              clear hnx
              have hj3 : (0 : Int) ≤ 3 - (j : Int) := by omega
              go_wp2_with fail
              have hS : Below wL.heap.size wL wr.drew := hbel.drew
              have ownd : wr.drew.ownsRow wL.heap.size 5 1 u7 (i4 + j) ((nI (st.bytes.take (i4 + j))).map (Value.int .u8)) := hown
              have hs2 : wL.heap.size ≤ wr.drew.heap.size := hs3
              refine heldS_open (fun w' => Below wL.heap.size wL w') (by kernel_rfl) ?_
              refine held_reads (rs := [0, 1, 2, 3, 4, 5, 6]) (fuel := 7) (by kernel_rfl) (fun c d v a w h => by cases d <;> exact h) (by kernel_rfl) hS (fun K' hK' => ?_)
              refine calm_move _ rfl (by rfl) rfl ?_
              go_simp
              refine calm_move _ rfl (by rfl) rfl ?_
              go_simp
              refine calm_move _ rfl (by rfl) rfl ?_
              go_simp
              refine calm_do (.pointer (some ⟨bS, oS + i, none⟩)) rfl (by rfl) (fun w' hw' => ?_) ?_
              · go_simp
              go_simp
              refine calm_do (.int .i64 (xs : Int)) rfl (by rfl) (fun w' hw' => ?_) ?_
              · have x0 := HXX.out w' hw'
                go_simp
              go_simp
              refine calm_move _ rfl (by rfl) rfl ?_
              go_simp
              refine calm_do (.int .i64 (pe : Int)) rfl (by rfl) (fun w' hw' => ?_) ?_
              · go_simp
                all_goals (first | omega | (rw [IntKind.wrap_i64]; omega))
              go_simp
              refine calm_nil (hK'.out _ ?_)
              clear hK' K'
              refine heldS_op (i := 7) (fuel := 6) (by kernel_rfl) rfl (by rfl) (fun K' hK' => ?_)
              go_simp
              refine (hp _).mono ?_
              rintro e wx ⟨rfl, rfl⟩
              refine hK' _ _ hS ?_
              clear hK' K'
              refine held_reads (rs := [8, 9, 10]) (fuel := 3) (by kernel_rfl) (fun c d v a w h => by cases d <;> exact h) (by kernel_rfl) hS (fun K' hK' => ?_)
              go_simp
              refine calm_do (.int .i64 (d : Int)) rfl (by rfl) (fun w' hw' => ?_) ?_
              · go_simp
                all_goals (first | exact hd | exact hd2 | (rw [hd, IntKind.wrap_i64]; omega) | (rw [hd2, IntKind.wrap_i64]; omega) | (rw [hd2]; omega) | rw [if_neg hp0n, hwd] | skip)
              go_simp
              refine calm_do (.int .i64 (nx : Int)) rfl (by rfl) (fun w' hw' => ?_) ?_
              · go_simp
                all_goals (rw [Int.tmod_eq_emod_of_nonneg (by omega), ← HNX.out]; omega)
              go_simp
              refine calm_do (.int .u8 (nx : Int)) rfl (by rfl) (fun w' hw' => ?_) ?_
              · go_simp
                all_goals (first | omega | (rw [IntKind.wrap_u8]; omega))
              go_simp
              refine calm_nil (hK'.out _ ?_)
              clear hK' K'
              refine heldS_op (i := 11) (fuel := 2) (by kernel_rfl) rfl (by rfl) (fun K' hK' => ?_)
              have hS2 : Below wL.heap.size wL (wr.drew.alloc (.cells #[.int .u8 (nx : Int)] 5)) := hS.alloc hs2 _
              go_simp
              refine hK' _ _ hS2 ?_
              clear hK' K'
              refine heldS_op (i := 12) (fuel := 1) (by kernel_rfl) rfl (by rfl) (fun K' hK' => ?_)
              refine wp_append_own _ (.tmp 36) (.tmp 47) 36 rfl wL.heap.size 5 i0 (.int .u8 0) 1 1 Try.underlying36 hi0 hz0 hz1 hz2 rfl (by decide) _ _ _ rfl (ownd.alloc _) ⟨wr.heap.size, 0, none⟩ 1 1 [.int .u8 (nx : Int)] rfl rfl (cell_one_new wr.drew _ _) (by intro u hu; simp at hu; subst hu; rfl) (by unfold maxLen; omega) (by omega) (by simp; omega) ?_
              intro v' w9 hown' hgrow _
              have R := rel_push (w := wL) hs2 ownd hS hown' hgrow
              rw [← nI_snoc, ← HT.out] at R
              clear hown' hgrow
              refine hK' _ _ R.2 ?_
              clear hK' K'
              refine held_reads (rs := [13]) (fuel := 0) (by kernel_rfl) (fun c d v a w h => by cases d <;> exact h) (by kernel_rfl) R.2 (fun K' hK' => ?_)
              go_simp
              refine calm_assign _ rfl (by rfl) rfl ?_
              go_simp
              refine calm_nil (hK'.out _ ?_)
              clear hK' K'
              refine wpAnyH_done (by kernel_rfl) ?_ _
              go_wp2
              go_roundw
              case rel => exact ⟨j + 1, by omega, by go_num, R.1, R.2⟩
              case measure => simp [intOf]; omega
            · obtain rfl : j = 4 := by omega
              have HI5 : Hid (i4 + 4 = 4 * (i + 1)) := by show _ = _; have := HI4.out; omega
              rw [HI5.out] at HO
              go_wp2
              go_roundw
              case rel => exact ⟨i + 1, by omega, by go_num, HO, HB⟩
              case measure => simp [intOf]; omega
        · obtain rfl : i = 8 := by omega
          have hown := HO.out
          rw [HF.out, HSU.out] at hown
          have sL := HBL.out.size
          go_wp2
          go_ret
          exact ⟨_, rfl, owns_base hown (by omega), q03.trans ((HBL.out.trans (HB.out.mono sL)).mono s03)⟩
theorem refSum13 (z : List Nat) (a : Option Addr) (len cap : Nat) (w : World) (hr : Row .u8 w a len cap (nI z)) (hz : ∀ x ∈ z, x < 256) (hl : len ≤ 100000) :
    Calls Try.prog 22 #[.slice a len cap] w fun e w' => ∃ v, e = .returned v ∧ w'.ownsRow w.heap.size 5 1 v 32 ((nI (sumL KL S0 z)).map (Value.int .u8)) ∧ Below w.heap.size w w' :=
  refSum_gen KL S0 KL_lt S0_ok refRounds13 (fun w => by rw [S0_list]; exact refStart13 w) z a len cap w hr hz hl
end Go.Proofs.Ytoijeefmddopbaa
