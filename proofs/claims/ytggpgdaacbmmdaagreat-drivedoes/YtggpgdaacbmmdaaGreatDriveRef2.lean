/-
  The document's answer of layer 8 (casemateref08), over the document's chip: Good, Whole.
-/
import Derived.Test.YtggpgdaacbmmdaaGreatDriveRef
namespace Go.Proofs.YtggpgdaacbmmdaaGreat
open Go.RowKit Go.Maps
set_option linter.unusedVariables false
set_option maxRecDepth 8192

section
variable {G : Geo} {R : RB} {F : Nat → Prop} {S : CS}

theorem goodTo_down (hu : S.up = false) (n : Nat) : S.goodTo n = [] := by
  unfold CS.goodTo; rw [hu]; simp

set_option maxHeartbeats 1600000 in
set_option maxRecDepth 100000 in
theorem ref8Good_any (w : World) (h : RefAt G R F S w) :
    Calls Tryz.prog 17 #[.pointer (some ⟨R.c, 0, none⟩)] w fun e w' => ∃ v, e = .returned v ∧ w'.ownsRow w.heap.size 3 1 v (S.goodTo G.b.toNat).length ((S.goodTo G.b.toNat).map (Value.int .i64)) ∧ Below w.heap.size w w' := by
  obtain ⟨j0, hj0, hy0, hy1, hy2⟩ := info_parts Tryz.info3
  have hb1 := G.ok.hb.1
  have hb2 := G.ok.hb.2
  obtain ⟨Bn, hBn⟩ : ∃ Bn : Nat, G.b = (Bn : Int) := Int.eq_ofNat_of_zero_le (by omega)
  have hBl : Bn ≤ 256 := by omega
  have HBn : Hid (G.b.toNat = Bn) := by show _ = _; omega
  have HC : Hid (∀ w1, Below w.heap.size w w1 → w1.cell? ⟨R.c, 0, none⟩ = some (.int .i64 (Bn : Int)) ∧ w1.cell? ⟨R.c, 7, none⟩ = some (.bool S.up) ∧ w1.cell? ⟨R.c, 5, none⟩ = some (.slice (some ⟨R.bb, 0, none⟩) Bn R.bcap) ∧ ∀ k, k < Bn → w1.cell? ⟨R.bb, k * 4 + 2, none⟩ = some (.bool (S.bd (k : Int)))) := fun w1 q1 => by
    have h1 := h.below q1
    refine ⟨?_, h1.cell.cells.c7, ?_, fun k hk => ?_⟩
    · rw [h1.cell.cells.c0, hBn]
    · rw [h1.cell.cells.c5, HBn.out]
    · exact (h1.blocks k (by rw [HBn.out]; exact hk)).c2
  rw [HBn.out]
  clear hb1 hb2 hBn HBn h
  cases hu : S.up
  · have HG : Hid (S.goodTo Bn = []) := goodTo_down hu Bn
    rw [HG.out]
    rw [hu] at HC
    obtain ⟨c0, c7, c5, _⟩ := HC.out w (Below.refl _ _)
    clear HC HG hu
    by_cases hz : 0 < Bn
    · have hz1 : (0 : Int) < (Bn : Int) := by omega
      go_enter Tryz.func17, Tryz.ntmps17
      go_wp2_with fail
      go_loop [3, 4] (fun v y => v = .slice none 0 0 ∧ y = .int .i64 0) (fun _ _ => 0)
      case atStart => exact ⟨rfl, rfl⟩
      case round =>
        obtain ⟨rfl, rfl⟩ := hrel
        go_wp2_with fail
        go_ret
        exact ⟨_, rfl, World.ownsRow_nil _ _ _ _, Below.refl _ _⟩
    · have hz1 : ¬ (0 : Int) < (Bn : Int) := by omega
      go_enter Tryz.func17, Tryz.ntmps17
      go_wp2_with fail
      go_loop [3, 4] (fun v y => v = .slice none 0 0 ∧ y = .int .i64 0) (fun _ _ => 0)
      case atStart => exact ⟨rfl, rfl⟩
      case round =>
        obtain ⟨rfl, rfl⟩ := hrel
        go_wp2_with fail
        go_ret
        exact ⟨_, rfl, World.ownsRow_nil _ _ _ _, Below.refl _ _⟩
  have HLE : Hid (∀ k, (S.goodTo k).length ≤ k) := fun k => goodTo_len k
  have HHit : Hid (∀ k : Nat, S.bd (k : Int) = false → S.goodTo (k + 1) = S.goodTo k ++ [(k : Int)]) := fun k hb => goodTo_hit ⟨hu, hb⟩
  have HMiss : Hid (∀ k : Nat, S.bd (k : Int) = true → S.goodTo (k + 1) = S.goodTo k) := fun k hb => goodTo_miss (fun hh => by rw [hb] at hh; simp at hh)
  rw [hu] at HC
  clear hu
  go_enter Tryz.func17, Tryz.ntmps17
  go_wp2_with fail
  go_loopw [3, 4] (fun v y wr => ∃ k : Nat, k ≤ Bn ∧ y = .int .i64 k ∧ wr.ownsRow w.heap.size 3 1 v (S.goodTo k).length ((S.goodTo k).map (Value.int .i64)) ∧ Below w.heap.size w wr) (fun _ y _ => Bn - (RowKit.intOf y).toNat)
  case atStart => exact ⟨0, Nat.zero_le _, rfl, World.ownsRow_nil _ _ _ _, Below.refl _ _⟩
  case round =>
    obtain ⟨k, hk, rfl, hown, hnx⟩ := hrel
    have hsz := hnx.size
    have hle := HLE.out k
    obtain ⟨c0, c7, c5, hbl⟩ := HC.out wr hnx
    obtain ⟨ao, cp, rfl, _⟩ := row_of_owns hown
    by_cases hlt : k < Bn
    · have hkk : (k : Int) < (Bn : Int) := by omega
      have c2 := hbl k hlt
      clear hbl
      have HHk : Hid (S.bd (k : Int) = false → S.goodTo (k + 1) = S.goodTo k ++ [(k : Int)]) := HHit.out k
      have HMk : Hid (S.bd (k : Int) = true → S.goodTo (k + 1) = S.goodTo k) := HMiss.out k
      clear HLE HHit HMiss HC
      generalize hos : S.goodTo k = os at *
      clear hos
      generalize hm : os.length = m at *
      have HM : Hid (os.length = m) := hm
      clear hm
      cases hb : S.bd (k : Int)
      · have HS : Hid (S.goodTo (k + 1) = os ++ [(k : Int)]) := HHk.out hb
        have HSL : Hid ((S.goodTo (k + 1)).length = m + 1) := by show _ = _; rw [HS.out, List.length_append, HM.out]; rfl
        rw [hb] at c2
        clear HHk HMk hb
        go_wp2_with (at_builtin; refine wpList_append_own _ rfl _ _ 42 rfl w.heap.size 3 j0 (.int .i64 0) 1 8 Tryz.underlying42 hj0 hy0 hy1 hy2 rfl (by decide) _ _ _ rfl (hown.alloc _) ⟨wr.heap.size, 0, none⟩ 1 1 [.int .i64 (k : Nat)] rfl rfl (cell_one_new _ _ _) (by intro u hu; simp at hu; subst hu; rfl) (by unfold maxLen; omega) (by omega) (by simp; omega) ?_)
        intro v' w2 hown' hgrow _
        have R := rel_push hsz hown hnx hown' hgrow
        rw [← HS.out, ← HSL.out] at R
        clear hown' hgrow hown hnx c0 c7 c5 c2
        go_wp2_with fail
        go_roundw
        case rel => exact ⟨k + 1, by omega, by go_num, R.1, R.2⟩
        case measure => simp [RowKit.intOf]; omega
      · have HS : Hid (S.goodTo (k + 1) = os) := HMk.out hb
        rw [hb] at c2
        clear HHk HMk hb
        go_wp2_with fail
        go_roundw
        case rel => exact ⟨k + 1, by omega, by go_num, by rw [HS.out, HM.out]; exact hown, hnx⟩
        case measure => simp [RowKit.intOf]; omega
    · have hkk : ¬ (k : Int) < (Bn : Int) := by omega
      obtain rfl : k = Bn := by omega
      clear HLE HHit HMiss HC hbl
      generalize hos : S.goodTo k = os at *
      have HOS : Hid (S.goodTo k = os) := hos
      clear hos
      generalize hm : os.length = m at *
      have HM : Hid (os.length = m) := hm
      clear hm
      go_wp2_with fail
      go_ret
      exact ⟨_, rfl, by rw [HOS.out, HM.out]; exact hown, hnx⟩

set_option maxHeartbeats 1600000 in
theorem ref8Whole_any (x y : Int) (w : World) (h : RefAt G R F S w) :
    Calls Tryz.prog 39 #[.pointer (some ⟨R.c, 0, none⟩), .int .i64 x, .int .i64 y] w fun e w' => e = .returned (.tuple #[.bool (S.wholeD G x y).1, .int .i64 (S.wholeD G x y).2]) ∧ Below w.heap.size w w' := by
  have c7 := h.cell.cells.c7
  cases hu : S.up
  · have HR : Hid (S.wholeD G x y = (false, 70)) := by
      show _ = _
      have : S.rdy G x (within0 y G.p) = 70 := by unfold CS.rdy; rw [if_pos hu]
      unfold CS.wholeD; rw [this, if_pos (by simp)]
    rw [HR.out]
    rw [hu] at c7
    clear HR h hu
    go_enter Tryz.func39, Tryz.ntmps39
    go_wp2_with fail
    go_ret2
    exact ⟨rfl, Below.refl _ _⟩
  rw [hu] at c7
  have c0 := h.cell.cells.c0
  have c1 := h.cell.cells.c1
  by_cases hin : (0 ≤ x ∧ x < G.b) ∧ 0 ≤ y ∧ y ≤ G.p
  case neg =>
    have HR : Hid (S.wholeD G x y = (false, 1)) := by
      show _ = _
      have : S.rdy G x (within0 y G.p) = 1 := by
        unfold CS.rdy; rw [if_neg (by rw [hu]; simp), if_pos]
        unfold inB0 within0
        rw [Bool.and_eq_false_iff]
        by_cases hx : 0 ≤ x ∧ x < G.b
        · exact .inr (decide_eq_false (fun hy => hin ⟨hx, hy⟩))
        · exact .inl (decide_eq_false hx)
      unfold CS.wholeD; rw [this, if_pos (by simp)]
    rw [HR.out]
    clear HR h hu
    go_enter Tryz.func39, Tryz.ntmps39
    go_wp2_with fail
    all_goals first | (exfalso; omega) | (go_ret2; exact ⟨rfl, Below.refl _ _⟩)
  obtain ⟨hx, hy⟩ := hin
  have hib : inB0 x G.b = true := by unfold inB0; exact decide_eq_true hx
  have HW : Hid (S.wholeD G x y = (!S.bd x && S.markTo G x y.toNat, 0)) := by
    show _ = _
    unfold CS.wholeD
    rw [rdy_of hu hib (by unfold within0; exact decide_eq_true hy), if_neg (by simp)]
  rw [HW.out]
  clear HW
  obtain ⟨k0, rfl, hk0⟩ := inB0_nat hib
  obtain ⟨Y, rfl⟩ := Int.eq_ofNat_of_zero_le hy.1
  have hp2 := G.ok.hp.2
  have hY : Y ≤ 64 := by omega
  have HP : Hid (∀ k : Nat, k < Y → hasP G (k0 : Int) (k : Int) = true) := fun k hk => by unfold hasP; rw [hib]; unfold inB0; simp; omega
  have HNo : Hid (∀ k : Nat, k < Y → (S.raw G k0 (k : Int))[G.L - 1]?.getD 0 ≠ 0 → S.markTo G k0 Y = false) := fun k hk hn => markTo_no hk hn
  have HStep : Hid (∀ k : Nat, S.markTo G k0 k = true → (S.raw G k0 (k : Int))[G.L - 1]?.getD 0 = 0 → S.markTo G k0 (k + 1) = true) := fun k h1 h2 => by
    show (S.markTo G k0 k && decide ((S.raw G k0 (k : Int))[G.L - 1]?.getD 0 = 0)) = true
    rw [h1, decide_eq_true h2]; rfl
  have HZ : Hid (∀ k : Nat, k < Y → IsB (S.raw G k0 (k : Int))) := fun k hk => by
    obtain ⟨_, _, _, _, _, _, _, _, _, _, zb, _⟩ := h.pages k0 hk0 k (by omega)
    exact isB_readZ zb _
  have HRD : Hid (∀ k : Nat, k < Y → ∀ w1, Below w.heap.size w w1 → Calls Tryz.prog 45 #[.pointer (some ⟨R.c, 0, none⟩), .int .i64 (k0 : Int), .int .i64 (k : Int)] w1 fun e w' => ∃ a cap, e = .returned (.tuple #[.slice a G.L cap, .int .i64 0]) ∧ Row .u8 w' a G.L cap (S.raw G k0 (k : Int)) ∧ Below w1.heap.size w1 w') := fun k hk w1 q1 =>
    ref7Read_yes k0 k w1 (h.below q1) hu (HP.out k hk)
  have HC : Hid (∀ w1, Below w.heap.size w w1 → w1.cell? ⟨R.c, 0, none⟩ = some (.int .i64 G.b) ∧ w1.cell? ⟨R.c, 1, none⟩ = some (.int .i64 G.p) ∧ w1.cell? ⟨R.c, 2, none⟩ = some (.int .i64 G.s) ∧ w1.cell? ⟨R.c, 3, none⟩ = some (.int .i64 G.n) ∧ w1.cell? ⟨R.c, 4, none⟩ = some (.int .i64 G.f)) := fun w1 q1 => (h.below q1).geo
  have HC5 : Hid (∀ w1, Below w.heap.size w w1 → w1.cell? ⟨R.c, 5, none⟩ = some (.slice (some ⟨R.bb, 0, none⟩) G.b.toNat R.bcap) ∧ w1.cell? ⟨R.bb, k0 * 4 + 2, none⟩ = some (.bool (S.bd (k0 : Int)))) := fun w1 q1 => ⟨(h.below q1).cell.cells.c5, ((h.below q1).blocks k0 hk0).c2⟩
  have hx0 : ¬ (k0 : Int) < 0 := by omega
  have hx1 : ¬ G.b ≤ (k0 : Int) := by omega
  have hy0 : ¬ (Y : Int) < 0 := by omega
  have hy1 : ¬ G.p < (Y : Int) := by omega
  have hkI : (k0 : Int) < ((G.b.toNat : Nat) : Int) := by omega
  clear hib HP hx hy hp2 hu h
  go_enter Tryz.func39, Tryz.ntmps39
  go_wp2_with fail
  clear c0 c1 c7
  go_loopw [8] (fun v wr => ∃ k : Nat, k ≤ Y ∧ v = .int .i64 k ∧ S.markTo G k0 k = true ∧ Below w.heap.size w wr) (fun v _ => Y - (RowKit.intOf v).toNat)
  case atStart => exact ⟨0, Nat.zero_le _, rfl, rfl, Below.refl _ _⟩
  case round =>
    obtain ⟨k, hk, rfl, hmt, hnx⟩ := hrel
    have HM : Hid (S.markTo G k0 k = true) := hmt
    clear hmt
    by_cases hlt : k < Y
    · have hkk : (k : Int) < (Y : Int) := by omega
      have hrdk := HRD.out k hlt wr hnx
      have hzb := HZ.out k hlt
      have HNk : Hid ((S.raw G k0 (k : Int))[G.L - 1]?.getD 0 ≠ 0 → S.markTo G k0 Y = false) := HNo.out k hlt
      have HSk : Hid ((S.raw G k0 (k : Int))[G.L - 1]?.getD 0 = 0 → S.markTo G k0 (k + 1) = true) := HStep.out k HM.out
      clear HRD HZ HNo HStep HM HC5
      generalize S.raw G k0 (k : Int) = z at *
      go_wp2_with fail
      refine hrdk.mono ?_
      rintro e w5 ⟨a, cap, rfl, rz, q5⟩
      clear hrdk
      replace hnx := btrans hnx q5
      clear q5
      obtain ⟨c0, c1, c2, c3, c4⟩ := HC.out w5 hnx
      obtain ⟨er, her⟩ : ∃ er : Int, er = if z[G.L - 1]?.getD 0 = 0 then 0 else if z[G.L - 1]?.getD 0 = 255 ∧ blankTo G.f z G.W G.s = true then 61 else 60 := ⟨_, rfl⟩
      have hmk := refMarked_any G.ok a cap z w5 rz hzb er her
      have HER : Hid (er = 0 ↔ z[G.L - 1]?.getD 0 = 0) := by
        show _ ↔ _
        rw [her]
        by_cases h0 : z[G.L - 1]?.getD 0 = 0
        · rw [if_pos h0]; simp [h0]
        · rw [if_neg h0]
          split <;> simp [h0]
      clear her hzb rz
      go_wp2_with fail
      clear c0 c1 c2 c3 c4
      refine hmk.mono ?_
      rintro e w7 ⟨rfl, q7⟩
      clear hmk
      replace hnx := btrans hnx q7
      clear q7
      by_cases h0 : er = 0
      · subst h0
        have HS2 : Hid (S.markTo G k0 (k + 1) = true) := HSk.out (HER.out.1 rfl)
        clear HSk HNk HER
        go_wp2_with fail
        go_roundw
        case rel => exact ⟨k + 1, by omega, by go_num, HS2.out, hnx⟩
        case measure => simp [RowKit.intOf]; omega
      · have HS2 : Hid (S.markTo G k0 Y = false) := HNk.out (fun hh => h0 (HER.out.2 hh))
        have hq : (er != 0) = true := by simp [h0]
        clear HSk HNk HER h0
        go_wp2_with fail
        go_ret2
        exact ⟨by show _ = _; simp [HS2.out], hnx⟩
    · have hkk : ¬ (k : Int) < (Y : Int) := by omega
      have HE : Hid (S.markTo G k0 Y = true) := by have : k = Y := by omega
                                                   subst this; exact HM.out
      obtain ⟨c5, d2⟩ := HC5.out wr hnx
      clear HM HC HC5 HRD HZ HNo HStep
      generalize G.b.toNat = Bn at *
      have HB : Hid (S.bd (k0 : Int) = S.bd (k0 : Int)) := rfl
      generalize hb : S.bd (k0 : Int) = b at *
      have HBB : Hid (S.bd (k0 : Int) = b) := hb
      clear hb HB
      go_wp2_with fail
      go_ret2
      exact ⟨by show _ = _; simp [HE.out, HBB.out], hnx⟩
end
end Go.Proofs.YtggpgdaacbmmdaaGreat
