/-
  The walk of layer 5's law BchSound, out of the face of bch: it returns true; nothing old turns. (Written by tools/gen/bch_sound.py.)
-/
import Derived.Test.YtjiaomkjebbkpaaBchFace
namespace Go.Proofs.Ytjiaomkjebbkpaa
open Go.RowKit
set_option linter.unusedVariables false

set_option maxHeartbeats 6400000 in
set_option maxRecDepth 100000 in
theorem walk_bchSound (hB : HBitsC) (hE : HEncC) (hD : HDecC) (t : Int) (a c : Option Addr) (len cap len' cap' : Nat) (x m : List Int) (w : World) (t1 : -9223372036854775808 ≤ t) (t2 : t ≤ 9223372036854775807)
    (rx : Row .u8 w a len cap x) (bx : IsB x) (rm : Row .u8 w c len' cap' m) (bm : IsB m) :
    Calls Try.prog 6 #[.int .i64 t, .slice a len cap, .slice c len' cap'] w fun e w' => e = .returned (.bool true) ∧ Below w.heap.size w w' := by
  have hmax : len ≤ maxLen := Nat.le_trans rx.hcap rx.hmax
  have hmax' : len' ≤ maxLen := Nat.le_trans rm.hcap rm.hmax
  by_cases hs : len ≤ 40 ∧ len' ≤ 40
  case neg =>
    have hsm := small5_no hs
    go_enter Try.func6, Try.ntmps6
    go_wp2_with fail
    refine (small5_any _ _ _ _ _ _ _ hmax hmax').mono ?_
    rintro e w' ⟨rfl, rfl⟩
    rw [hsm]
    go_wp2_with fail
    go_ret
    exact ⟨rfl, Below.refl _ _⟩
  have hsm := small5_yes hs.1 hs.2
  obtain ⟨hs1, hs2⟩ := hs
  obtain ⟨i0, hi0, hz0, hz1, hz2⟩ := info_parts Try.info5
  have HLx : Hid (x.length = len) := rx.hlen
  have hown0 := World.ownsRow_lit (base := w.heap.size) (e := 5) (size := 1) w #[] 0 (Nat.le_refl _) (Nat.zero_le _) rfl
  have hr0 := rx.below (below_one w (Obj.cells #[] 5)) (Nat.le_refl _)
  cases hmy : mayB t len (len' : Nat)
  · go_enter Try.func6, Try.ntmps6
    go_wp2_with fail
    refine (small5_any _ _ _ _ _ _ _ hmax hmax').mono ?_
    rintro e w' ⟨rfl, rfl⟩
    rw [hsm]
    go_wp2_with (at_builtin; refine wpList_append_row _ rfl _ _ 22 rfl w.heap.size 5 i0 (.int .u8 0) 1 Try.underlying22 hi0 hz0 hz1 hz2 rfl _ 0 [] rfl hown0 .u8 a len cap x rfl hr0 ?c1 ?c2 ?c3 ?_)
    case c1 => omega
    case c2 => omega
    case c3 => simp
    intro v w1 hown1 hgrow1
    have q1 : Below w.heap.size w w1 := (below_one w (Obj.cells #[] 5)).grown hgrow1 (by simp) (fun k hk => by simp [Value.ownBlock] at hk; omega)
    have hown1' : w1.ownsRow w.heap.size 5 1 v len (x.map (Value.int .u8)) := by simpa using hown1
    obtain ⟨ao, capo, rfl, ro⟩ := row_of_owns hown1'
    clear hown1 hown1' hown0 hr0 hgrow1
    replace rx := rx.below q1 (Nat.le_refl _)
    replace rm := rm.below q1 (Nat.le_refl _)
    go_wp2_with fail
    refine (hD.no t _ _ _ _ _ _ x m _ ro bx rm bm (by omega) (by omega) hmy t1 t2).mono ?_
    rintro e w2 ⟨a1, cp1, b1, cq1, rfl, _, _, qq⟩
    replace rx := rx.below qq (Nat.le_refl _)
    replace rm := rm.below qq (Nat.le_refl _)
    replace ro := ro.below qq (Nat.le_refl _)
    replace q1 := btrans q1 qq
    clear qq
    rw [show ([] : List Int).length = 0 from rfl]
    have hco := conv_row Try.underlying22 Try.underlying5 Try.underlying9 ro
    have hcx := conv_row Try.underlying22 Try.underlying5 Try.underlying9 rx
    go_wp2_with fail
    refine (may_any t _ len _ (len' : Nat) _ hmax).mono ?_
    rintro e w' ⟨rfl, rfl⟩
    rw [hmy]
    clear hco hcx
    go_wp2_with fail
    refine (awake5_any hB hE hD _).mono ?_
    rintro e w3 ⟨rfl, qq⟩
    replace rx := rx.below qq (Nat.le_refl _)
    replace rm := rm.below qq (Nat.le_refl _)
    replace ro := ro.below qq (Nat.le_refl _)
    replace q1 := btrans q1 qq
    clear qq
    go_wp2_with fail
    go_ret
    exact ⟨rfl, q1⟩
  · have hm := hmy
    unfold mayB at hm
    rw [decide_eq_true_iff] at hm
    obtain ⟨t, rfl⟩ := Int.eq_ofNat_of_zero_le (show 0 ≤ t by omega)
    have ht1 : 1 ≤ t := by omega
    have ht : t ≤ 8 := by omega
    have hl13 : 13 * t ≤ 8 * len' := by omega
    have HL' : Hid (len' = (13 * t + 7) / 8) := by show _ = _; omega
    clear hm t1 t2
    go_enter Try.func6, Try.ntmps6
    go_wp2_with fail
    refine (small5_any _ _ _ _ _ _ _ hmax hmax').mono ?_
    rintro e w' ⟨rfl, rfl⟩
    rw [hsm]
    go_wp2_with (at_builtin; refine wpList_append_row _ rfl _ _ 22 rfl w.heap.size 5 i0 (.int .u8 0) 1 Try.underlying22 hi0 hz0 hz1 hz2 rfl _ 0 [] rfl hown0 .u8 a len cap x rfl hr0 ?c1 ?c2 ?c3 ?_)
    case c1 => omega
    case c2 => omega
    case c3 => simp
    intro v w1 hown1 hgrow1
    have q1 : Below w.heap.size w w1 := (below_one w (Obj.cells #[] 5)).grown hgrow1 (by simp) (fun k hk => by simp [Value.ownBlock] at hk; omega)
    have hown1' : w1.ownsRow w.heap.size 5 1 v len (x.map (Value.int .u8)) := by simpa using hown1
    obtain ⟨ao, capo, rfl, ro⟩ := row_of_owns hown1'
    clear hown1 hown1' hown0 hr0 hgrow1
    replace rx := rx.below q1 (Nat.le_refl _)
    replace rm := rm.below q1 (Nat.le_refl _)
    go_wp2_with fail
    refine (hD.yes t _ _ _ _ _ _ x m _ ro bx rm bm (by omega) (by omega) hmy).mono ?_
    rintro e w2 (⟨d, k, n, hdec, a1, cp1, b1, cq1, rfl, rd, rk, qq⟩ | ⟨_, a1, cp1, b1, cq1, rfl, _, _, qq⟩)
    · have bd := hdec.bd
      have bk := hdec.bk
      have hnt := hdec.near
      have HLD : Hid (d.length = len) := by show _ = _; rw [hdec.ld]; exact HLx.out
      have HLK : Hid (k.length = len') := by show _ = _; rw [hdec.lk]; exact HL'.out.symm
      have HAB : Hid (∀ i, 13 * t ≤ i → bitI k i = 0) := hdec.above
      have HCW : Hid (codeB t (wordL t d k) = true) := (codeB_iff t _).2 hdec.cw
      have HFAR : Hid (distTo (wordL t x m) (wordL t d k) (13 * t + 8 * len) = n) := by show _ = _; rw [← HLx.out]; exact hdec.far
      clear hdec
      rw [HLD.out] at rd ⊢
      rw [HLK.out] at rk ⊢
      replace rx := rx.below qq (Nat.le_refl _)
      replace rm := rm.below qq (Nat.le_refl _)
      replace ro := ro.below qq (Nat.le_refl _)
      replace q1 := btrans q1 qq
      clear qq
      have hco := conv_row Try.underlying22 Try.underlying5 Try.underlying9 ro
      have hcx := conv_row Try.underlying22 Try.underlying5 Try.underlying9 rx
      go_wp2_with fail
      refine (may_any _ _ len _ (len' : Nat) _ hmax).mono ?_
      rintro e w' ⟨rfl, rfl⟩
      rw [hmy]
      clear hco hcx
      have gA2 : decide (t < n) = false := by rw [decide_eq_false_iff_not]; omega
      have gA : decide ((t : Int) < (n : Int)) = false := by rw [decide_eq_false_iff_not]; omega
      have gB : decide ((n : Int) < 0) = false := by rw [decide_eq_false_iff_not]; omega
      go_wp2_with fail
      go_loop [12] (fun y => ∃ i : Nat, 13 * t ≤ i ∧ i ≤ 8 * len' ∧ y = .int .i64 i) (fun y => 8 * len' - (intOf y).toNat)
      case atStart => exact ⟨13 * t, Nat.le_refl _, hl13, by go_num⟩
      case round =>
        obtain ⟨i, hi1, hi2, rfl⟩ := hrel
        by_cases hlt : i < 8 * len'
        · have HZ : Hid (bitI k i = 0) := HAB.out i hi1
          go_wp2_with fail
          refine (refAt_any _ _ _ i k _ rk bk hlt (by omega)).mono ?_
          rintro e w' ⟨rfl, rfl⟩
          rw [HZ.out]
          go_wp2_with fail
          go_round
          case rel => exact ⟨i + 1, by omega, by omega, by go_num⟩
          case measure => simp [intOf]; omega
        · have hge : 8 * (len' : Int) ≤ (i : Int) := by omega
          clear hlt
          go_wp2_with fail
          refine (awake5_any hB hE hD _).mono ?_
          rintro e w3 ⟨rfl, qq⟩
          replace rx := rx.below qq (Nat.le_refl _)
          replace rm := rm.below qq (Nat.le_refl _)
          replace ro := ro.below qq (Nat.le_refl _)
          replace rd := rd.below qq (Nat.le_refl _)
          replace rk := rk.below qq (Nat.le_refl _)
          replace q1 := btrans q1 qq
          clear qq
          go_wp2_with fail
          refine (refIs_any t _ _ _ _ _ _ d k _ ht rd bd rk bk hl13 (by omega) (by omega)).mono ?_
          rintro e w4 ⟨rfl, qq⟩
          replace rx := rx.below qq (Nat.le_refl _)
          replace rm := rm.below qq (Nat.le_refl _)
          replace ro := ro.below qq (Nat.le_refl _)
          replace rd := rd.below qq (Nat.le_refl _)
          replace rk := rk.below qq (Nat.le_refl _)
          replace q1 := btrans q1 qq
          clear qq
          rw [HCW.out]
          go_wp2_with fail
          refine (refWord_any t _ _ _ _ _ _ x m _ ht rx bx rm bm hl13 (by omega) (by omega)).mono ?_
          rintro e w5 ⟨a7, cp7, rfl, r7, qq⟩
          replace rx := rx.below qq (Nat.le_refl _)
          replace rm := rm.below qq (Nat.le_refl _)
          replace ro := ro.below qq (Nat.le_refl _)
          replace rd := rd.below qq (Nat.le_refl _)
          replace rk := rk.below qq (Nat.le_refl _)
          replace q1 := btrans q1 qq
          clear qq
          go_wp2_with fail
          refine (refWord_any t _ _ _ _ _ _ d k _ ht rd bd rk bk hl13 (by omega) (by omega)).mono ?_
          rintro e w6 ⟨a8, cp8, rfl, r8, qq⟩
          replace rx := rx.below qq (Nat.le_refl _)
          replace rm := rm.below qq (Nat.le_refl _)
          replace ro := ro.below qq (Nat.le_refl _)
          replace rd := rd.below qq (Nat.le_refl _)
          replace rk := rk.below qq (Nat.le_refl _)
          replace r7 := r7.below qq (Nat.le_refl _)
          replace q1 := btrans q1 qq
          clear qq
          go_wp2_with fail
          refine (refApartW_any _ _ _ _ _ (wordL t x m) (wordL t d k) _ r7 r8 (by omega)).mono ?_
          rintro e w7 ⟨rfl, qq⟩
          replace rx := rx.below qq (Nat.le_refl _)
          replace rm := rm.below qq (Nat.le_refl _)
          replace ro := ro.below qq (Nat.le_refl _)
          replace rd := rd.below qq (Nat.le_refl _)
          replace rk := rk.below qq (Nat.le_refl _)
          replace r7 := r7.below qq (Nat.le_refl _)
          replace r8 := r8.below qq (Nat.le_refl _)
          replace q1 := btrans q1 qq
          clear qq
          rw [HFAR.out]
          go_wp2_with fail
          go_ret
          exact ⟨rfl, q1⟩
    · rw [show ([] : List Int).length = 0 from rfl]
      replace rx := rx.below qq (Nat.le_refl _)
      replace rm := rm.below qq (Nat.le_refl _)
      replace ro := ro.below qq (Nat.le_refl _)
      replace q1 := btrans q1 qq
      clear qq
      have hco := conv_row Try.underlying22 Try.underlying5 Try.underlying9 ro
      have hcx := conv_row Try.underlying22 Try.underlying5 Try.underlying9 rx
      go_wp2_with fail
      refine (may_any _ _ len _ (len' : Nat) _ hmax).mono ?_
      rintro e w' ⟨rfl, rfl⟩
      rw [hmy]
      clear hco hcx
      go_wp2_with fail
      refine (awake5_any hB hE hD _).mono ?_
      rintro e w3 ⟨rfl, qq⟩
      replace rx := rx.below qq (Nat.le_refl _)
      replace rm := rm.below qq (Nat.le_refl _)
      replace ro := ro.below qq (Nat.le_refl _)
      replace q1 := btrans q1 qq
      clear qq
      go_wp2_with fail
      go_ret
      exact ⟨rfl, q1⟩

end Go.Proofs.Ytjiaomkjebbkpaa
