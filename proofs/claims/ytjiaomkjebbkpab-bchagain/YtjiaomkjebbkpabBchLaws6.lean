/-
  The walk of layer 5's law BchAgain, out of the face of bch: it returns true; nothing old turns.
-/
import Derived.Test.YtjiaomkjebbkpabBchCode9
namespace Go.Proofs.Ytjiaomkjebbkpab
open Go.RowKit
set_option linter.unusedVariables false

set_option maxHeartbeats 6400000 in
set_option maxRecDepth 100000 in
theorem walk_bchAgain (hB : HBitsC) (hE : HEncC) (hD : HDecC) (hS : HSumsC) (t : Int) (a c : Option Addr) (len cap len' cap' : Nat) (x m : List Int) (w : World) (t1 : -9223372036854775808 ≤ t) (t2 : t ≤ 9223372036854775807)
    (rx : Row .u8 w a len cap x) (bx : IsB x) (rm : Row .u8 w c len' cap' m) (bm : IsB m) :
    Calls Try.prog 3 #[.int .i64 t, .slice a len cap, .slice c len' cap'] w fun e w' => e = .returned (.bool true) ∧ Below w.heap.size w w' := by
  have hmax : len ≤ maxLen := Nat.le_trans rx.hcap rx.hmax
  have hmax' : len' ≤ maxLen := Nat.le_trans rm.hcap rm.hmax
  by_cases hs : len ≤ 40 ∧ len' ≤ 40
  case neg =>
    have hsm := small5_no hs
    go_enter Try.func3, Try.ntmps3
    go_wp2_with fail
    refine (small5_any _ _ _ _ _ _ _ hmax hmax').mono ?_
    rintro e w' ⟨rfl, rfl⟩
    rw [hsm]
    go_wp2_with fail
    go_ret
    exact ⟨rfl, Below.refl _ _⟩
  have hsm := small5_yes hs.1 hs.2
  obtain ⟨hs1, hs2⟩ := hs
  cases hmy : mayB t len (len' : Nat)
  · go_enter Try.func3, Try.ntmps3
    go_wp2_with fail
    refine (small5_any _ _ _ _ _ _ _ hmax hmax').mono ?_
    rintro e w' ⟨rfl, rfl⟩
    rw [hsm]
    go_wp2_with fail
    refine (hD.no t _ _ _ _ _ _ x m _ rx bx rm bm (by omega) (by omega) hmy t1 t2).mono ?_
    rintro e w1 ⟨a1, c1, b1, d1, rfl, _, _, q1⟩
    rw [show ([] : List Int).length = 0 from rfl]
    go_wp2_with fail
    refine (awake5_any hB hE hD _).mono ?_
    rintro e w2 ⟨rfl, q2⟩
    replace q1 := btrans q1 q2
    go_wp2_with fail
    go_ret
    exact ⟨rfl, q1⟩
  · have hm := hmy
    unfold mayB at hm
    rw [decide_eq_true_iff] at hm
    obtain ⟨t, rfl⟩ := Int.eq_ofNat_of_zero_le (show 0 ≤ t by omega)
    have ht1 : 1 ≤ t := by omega
    have ht2 : t ≤ 8 := by omega
    have hl1 : 1 ≤ len := by omega
    have HN : Hid (len' = (13 * t + 7) / 8) := by show _ = _; omega
    clear hm t1 t2
    have HLx : Hid (x.length = len) := rx.hlen
    have HUQ : Hid (∀ b m d k q q', b.length = len → IsDec t b m d k q → ∀ d' k', IsDec t b m d' k' q' → d = d' ∧ k = k' ∧ q = q') := fun b m d k q q' hb h d' k' h' => dec_unique (by rw [hb]; omega) h h'
    have HEU : Hid (∀ d k z, IsEnc t d k → IsEnc t d z → z = k) := fun d k z h h' => enc_unique ht2 h' h
    have HSC : Hid (∀ d k, code t (wordL t d k) → ∀ j, j < 2 * t → cf (sumsTo (wordL t d k) (2 * t)) j = 0) := fun d k h => (sums_code t _).1 h
    go_enter Try.func3, Try.ntmps3
    go_wp2_with fail
    refine (small5_any _ _ _ _ _ _ _ hmax hmax').mono ?_
    rintro e w' ⟨rfl, rfl⟩
    rw [hsm]
    go_wp2_with fail
    refine (hD.yes t _ _ _ _ _ _ x m _ rx bx rm bm (by omega) (by omega) hmy).mono ?_
    rintro e w1 (⟨d, k, cnt, hdec, a1, c1, b1, d1, rfl, rd, rk, q1⟩ | ⟨_, a1, c1, b1, d1, rfl, _, _, q1⟩)
    case inr =>
      rw [show ([] : List Int).length = 0 from rfl]
      go_wp2_with fail
      refine (awake5_any hB hE hD _).mono ?_
      rintro e w2 ⟨rfl, q2⟩
      replace q1 := btrans q1 q2
      go_wp2_with fail
      go_ret
      exact ⟨rfl, q1⟩
    clear rx rm
    have bd := hdec.bd
    have bk := hdec.bk
    have HSELF : Hid (IsDec t d k d k 0) := dec_self hdec
    have HENC : Hid (IsEnc t d k) := dec_enc hdec
    have HZ : Hid (∀ j, j < 2 * t → cf (sumsTo (wordL t d k) (2 * t)) j = 0) := HSC.out d k hdec.cw
    have HLD : Hid (d.length = len) := by show _ = _; rw [hdec.ld, HLx.out]
    have HLK : Hid (k.length = len') := by show _ = _; rw [hdec.lk, HN.out]
    clear hdec HSC
    rw [HLD.out] at rd ⊢
    rw [HLK.out] at rk ⊢
    go_wp2_with fail
    refine (hD.yes t _ _ _ _ _ _ d k _ rd bd rk bk (by omega) (by omega) hmy).mono ?_
    rintro e w2 (⟨d', k', cnt', hdec', a2, c2, b2, d2, rfl, rd2, rk2, q2⟩ | ⟨hno, _⟩)
    case inr => exact absurd HSELF.out (hno _ _ _)
    obtain ⟨rfl, rfl, rfl⟩ := HUQ.out d k d' k' cnt' 0 HLD.out hdec' d k HSELF.out
    clear hdec' HUQ
    rw [HLD.out] at rd2 ⊢
    rw [HLK.out] at rk2 ⊢
    replace rd := rd.below q2 (Nat.le_refl _)
    replace rk := rk.below q2 (Nat.le_refl _)
    replace q1 := btrans q1 q2
    clear q2
    go_wp2_with fail
    refine (hE.yes t _ _ _ d' _ rd bd (by omega) ht1 ht2 hl1).mono ?_
    rintro e w3 ⟨z, hz, a3, c3, rfl, rz, q2⟩
    obtain rfl := HEU.out d' k' z HENC.out hz
    clear hz HEU
    rw [HLK.out] at rz ⊢
    replace rd := rd.below q2 (Nat.le_refl _)
    replace rk := rk.below q2 (Nat.le_refl _)
    replace rd2 := rd2.below q2 (Nat.le_refl _)
    replace rk2 := rk2.below q2 (Nat.le_refl _)
    replace q1 := btrans q1 q2
    clear q2
    go_wp2_with fail
    refine (hS.yes t _ _ _ _ _ _ d' z _ rd bd rk bk (by omega) (by omega) hmy).mono ?_
    rintro e w4 ⟨a4, c4, rfl, rs, q2⟩
    rw [length_sumsTo] at rs ⊢
    generalize sumsTo (wordL t d' z) (2 * t) = s at *
    replace rd := rd.below q2 (Nat.le_refl _)
    replace rk := rk.below q2 (Nat.le_refl _)
    replace rd2 := rd2.below q2 (Nat.le_refl _)
    replace rk2 := rk2.below q2 (Nat.le_refl _)
    replace rz := rz.below q2 (Nat.le_refl _)
    replace q1 := btrans q1 q2
    clear q2
    go_wp2_with fail
    go_loop [19] (fun y => ∃ i : Nat, i ≤ 2 * t ∧ y = .int .i64 i) (fun y => 2 * t - (intOf y).toNat)
    case atStart => exact ⟨0, Nat.zero_le _, rfl⟩
    case round =>
      obtain ⟨i, hi, rfl⟩ := hrel
      by_cases hlt : i < 2 * t
      · obtain ⟨bb, off, rfl, hbs, hcell⟩ := rs.hcell (by omega)
        have hc1 := hcell i hlt
        rw [ints_get, HZ.out i hlt] at hc1
        clear hcell
        have hii : (i : Int) < 2 * (t : Int) := by omega
        go_wp2_with fail
        go_round
        case rel => exact ⟨i + 1, by omega, by go_num⟩
        case measure => simp [intOf]; omega
      · have e : i = 2 * t := by omega
        subst e
        have hii : ¬ ((2 * t : Nat) : Int) < 2 * (t : Int) := by omega
        have hii' : ¬ 2 * (t : Int) < 2 * (t : Int) := by omega
        go_wp2_with fail
        refine (awake5_any hB hE hD _).mono ?_
        rintro e w5 ⟨rfl, q2⟩
        replace rd := rd.below q2 (Nat.le_refl _)
        replace rk := rk.below q2 (Nat.le_refl _)
        replace rd2 := rd2.below q2 (Nat.le_refl _)
        replace rk2 := rk2.below q2 (Nat.le_refl _)
        replace rz := rz.below q2 (Nat.le_refl _)
        replace q1 := btrans q1 q2
        clear q2
        have hc1 := conv_row Try.underlying22 Try.underlying5 Try.underlying9 rd
        have hc2 := conv_row Try.underlying22 Try.underlying5 Try.underlying9 rk
        have hc3 := conv_row Try.underlying22 Try.underlying5 Try.underlying9 rd2
        have hc4 := conv_row Try.underlying22 Try.underlying5 Try.underlying9 rk2
        have hc5 := conv_row Try.underlying22 Try.underlying5 Try.underlying9 rz
        clear rd rk rd2 rk2 rz
        go_wp2_with fail
        go_ret
        exact ⟨rfl, q1⟩

end Go.Proofs.Ytjiaomkjebbkpab
