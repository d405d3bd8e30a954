/-
  The walk of layer 5's law BchEncodes, out of the face of bch: it returns true; nothing old turns. (Written by tools/gen/bch_encodes.py.)
-/
import Derived.Test.YtjiaomkjebbkpaaBchFace
namespace Go.Proofs.Ytjiaomkjebbkpaa
open Go.RowKit
set_option linter.unusedVariables false

set_option maxHeartbeats 6400000 in
set_option maxRecDepth 100000 in
theorem walk_bchEncodes (hB : HBitsC) (hE : HEncC) (hD : HDecC) (t : Int) (a : Option Addr) (len cap : Nat) (x : List Int) (w : World) (t1 : -9223372036854775808 ≤ t) (t2 : t ≤ 9223372036854775807)
    (rx : Row .u8 w a len cap x) (bx : IsB x) :
    Calls Try.prog 3 #[.int .i64 t, .slice a len cap] w fun e w' => e = .returned (.bool true) ∧ Below w.heap.size w w' := by
  have hmax : len ≤ maxLen := Nat.le_trans rx.hcap rx.hmax
  by_cases hs : len ≤ 40
  case neg =>
    have hsm := small5_no (n := len) (m := 0) (by omega)
    go_enter Try.func3, Try.ntmps3
    go_wp2_with fail
    refine (small5_any _ _ _ _ _ _ _ hmax (Nat.zero_le _)).mono ?_
    rintro e w' ⟨rfl, rfl⟩
    rw [hsm]
    go_wp2_with fail
    go_ret
    exact ⟨rfl, Below.refl _ _⟩
  have hsm := small5_yes (n := len) (m := 0) hs (by omega)
  obtain ⟨i0, hi0, hz0, hz1, hz2⟩ := info_parts Try.info5
  have HLx : Hid (x.length = len) := rx.hlen
  have hown0 := World.ownsRow_lit (base := w.heap.size) (e := 5) (size := 1) w #[] 0 (Nat.le_refl _) (Nat.zero_le _) rfl
  have hr0 := rx.below (below_one w (Obj.cells #[] 5)) (Nat.le_refl _)
  by_cases ht : t < 1 ∨ 8 < t
  · have cE := fun b cp wx => hE.no t b len cp x wx
    rcases ht with ht | ht
    · go_enter Try.func3, Try.ntmps3
      go_wp2_with fail
      refine (small5_any _ _ _ _ _ _ _ hmax (Nat.zero_le _)).mono ?_
      rintro e w' ⟨rfl, rfl⟩
      rw [hsm]
      go_wp2_with (at_builtin; refine wpList_append_row _ rfl _ _ 22 rfl w.heap.size 5 i0 (.int .u8 0) 1 Try.underlying22 hi0 hz0 hz1 hz2 rfl _ 0 [] rfl hown0 .u8 a len cap x rfl hr0 ?c1 ?c2 ?c3 ?_)
      case c1 => omega
      case c2 => omega
      case c3 => simp
      intro v w1 hown1 hgrow1
      have q1 : Below w.heap.size w w1 := (below_one w (Obj.cells #[] 5)).grown hgrow1 (by simp) (fun k hk => by simp [Value.ownBlock] at hk; omega)
      have hown1' : w1.ownsRow w.heap.size 5 1 v len (x.map (Value.int .u8)) := by simpa using hown1
      obtain ⟨ao, capo, rfl, ro⟩ := row_of_owns hown1'
      clear hown1 hown1' hown0 hr0 hgrow1
      replace rx := rx.below q1 (Nat.le_refl _)
      go_wp2_with fail
      refine (cE _ _ _ ro bx (by omega) (by omega) t1 t2).mono ?_
      rintro e w2 ⟨az, cpz, rfl, rz, qq⟩
      replace rx := rx.below qq (Nat.le_refl _)
      replace ro := ro.below qq (Nat.le_refl _)
      replace q1 := btrans q1 qq
      clear qq
      rw [show ([] : List Int).length = 0 from rfl]
      clear rz
      go_wp2_with fail
      refine (hB.no t _ (by omega) t1 t2).mono ?_
      rintro e w3 ⟨rfl, qq⟩
      replace rx := rx.below qq (Nat.le_refl _)
      replace ro := ro.below qq (Nat.le_refl _)
      replace q1 := btrans q1 qq
      clear qq
      have hco := conv_row Try.underlying22 Try.underlying5 Try.underlying9 ro
      have hcx := conv_row Try.underlying22 Try.underlying5 Try.underlying9 rx
      go_wp2_with fail
      refine (awake5_any hB hE hD _).mono ?_
      rintro e w4 ⟨rfl, qq⟩
      replace rx := rx.below qq (Nat.le_refl _)
      replace ro := ro.below qq (Nat.le_refl _)
      replace q1 := btrans q1 qq
      clear qq
      go_wp2_with fail
      go_ret
      exact ⟨rfl, q1⟩
    · have ht0 : 1 ≤ t := by omega
      go_enter Try.func3, Try.ntmps3
      go_wp2_with fail
      refine (small5_any _ _ _ _ _ _ _ hmax (Nat.zero_le _)).mono ?_
      rintro e w' ⟨rfl, rfl⟩
      rw [hsm]
      go_wp2_with (at_builtin; refine wpList_append_row _ rfl _ _ 22 rfl w.heap.size 5 i0 (.int .u8 0) 1 Try.underlying22 hi0 hz0 hz1 hz2 rfl _ 0 [] rfl hown0 .u8 a len cap x rfl hr0 ?c1 ?c2 ?c3 ?_)
      case c1 => omega
      case c2 => omega
      case c3 => simp
      intro v w1 hown1 hgrow1
      have q1 : Below w.heap.size w w1 := (below_one w (Obj.cells #[] 5)).grown hgrow1 (by simp) (fun k hk => by simp [Value.ownBlock] at hk; omega)
      have hown1' : w1.ownsRow w.heap.size 5 1 v len (x.map (Value.int .u8)) := by simpa using hown1
      obtain ⟨ao, capo, rfl, ro⟩ := row_of_owns hown1'
      clear hown1 hown1' hown0 hr0 hgrow1
      replace rx := rx.below q1 (Nat.le_refl _)
      go_wp2_with fail
      refine (cE _ _ _ ro bx (by omega) (by omega) t1 t2).mono ?_
      rintro e w2 ⟨az, cpz, rfl, rz, qq⟩
      replace rx := rx.below qq (Nat.le_refl _)
      replace ro := ro.below qq (Nat.le_refl _)
      replace q1 := btrans q1 qq
      clear qq
      rw [show ([] : List Int).length = 0 from rfl]
      clear rz
      go_wp2_with fail
      refine (hB.no t _ (by omega) t1 t2).mono ?_
      rintro e w3 ⟨rfl, qq⟩
      replace rx := rx.below qq (Nat.le_refl _)
      replace ro := ro.below qq (Nat.le_refl _)
      replace q1 := btrans q1 qq
      clear qq
      have hco := conv_row Try.underlying22 Try.underlying5 Try.underlying9 ro
      have hcx := conv_row Try.underlying22 Try.underlying5 Try.underlying9 rx
      go_wp2_with fail
      refine (awake5_any hB hE hD _).mono ?_
      rintro e w4 ⟨rfl, qq⟩
      replace rx := rx.below qq (Nat.le_refl _)
      replace ro := ro.below qq (Nat.le_refl _)
      replace q1 := btrans q1 qq
      clear qq
      go_wp2_with fail
      go_ret
      exact ⟨rfl, q1⟩
  obtain ⟨t, rfl⟩ := Int.eq_ofNat_of_zero_le (show 0 ≤ t by omega)
  have ht1 : 1 ≤ t := by omega
  have ht2 : t ≤ 8 := by omega
  clear ht
  by_cases hl0 : len = 0
  · have HL0 : Hid (len = 0) := hl0
    have g1 : ((len : Int) == 0) = true := by simp; omega
    clear hl0
    go_enter Try.func3, Try.ntmps3
    go_wp2_with fail
    refine (small5_any _ _ _ _ _ _ _ hmax (Nat.zero_le _)).mono ?_
    rintro e w' ⟨rfl, rfl⟩
    rw [hsm]
    go_wp2_with (at_builtin; refine wpList_append_row _ rfl _ _ 22 rfl w.heap.size 5 i0 (.int .u8 0) 1 Try.underlying22 hi0 hz0 hz1 hz2 rfl _ 0 [] rfl hown0 .u8 a len cap x rfl hr0 ?c1 ?c2 ?c3 ?_)
    case c1 => omega
    case c2 => omega
    case c3 => simp
    intro v w1 hown1 hgrow1
    have q1 : Below w.heap.size w w1 := (below_one w (Obj.cells #[] 5)).grown hgrow1 (by simp) (fun k hk => by simp [Value.ownBlock] at hk; omega)
    have hown1' : w1.ownsRow w.heap.size 5 1 v len (x.map (Value.int .u8)) := by simpa using hown1
    obtain ⟨ao, capo, rfl, ro⟩ := row_of_owns hown1'
    clear hown1 hown1' hown0 hr0 hgrow1
    replace rx := rx.below q1 (Nat.le_refl _)
    go_wp2_with fail
    refine (hE.no _ _ _ _ x _ ro bx (by omega) (.inr (.inr HL0.out)) t1 t2).mono ?_
    rintro e w2 ⟨az, cpz, rfl, rz, qq⟩
    replace rx := rx.below qq (Nat.le_refl _)
    replace ro := ro.below qq (Nat.le_refl _)
    replace q1 := btrans q1 qq
    clear qq
    rw [show ([] : List Int).length = 0 from rfl]
    clear rz
    go_wp2_with fail
    refine (hB.yes t _ ht1 ht2).mono ?_
    rintro e w3 ⟨rfl, qq⟩
    replace rx := rx.below qq (Nat.le_refl _)
    replace ro := ro.below qq (Nat.le_refl _)
    replace q1 := btrans q1 qq
    clear qq
    have hco := conv_row Try.underlying22 Try.underlying5 Try.underlying9 ro
    have hcx := conv_row Try.underlying22 Try.underlying5 Try.underlying9 rx
    go_wp2_with fail
    refine (awake5_any hB hE hD _).mono ?_
    rintro e w4 ⟨rfl, qq⟩
    replace rx := rx.below qq (Nat.le_refl _)
    replace ro := ro.below qq (Nat.le_refl _)
    replace q1 := btrans q1 qq
    clear qq
    go_wp2_with fail
    go_ret
    exact ⟨rfl, q1⟩
  · have g1 : ((len : Int) == 0) = false := by simp; omega
    go_enter Try.func3, Try.ntmps3
    go_wp2_with fail
    refine (small5_any _ _ _ _ _ _ _ hmax (Nat.zero_le _)).mono ?_
    rintro e w' ⟨rfl, rfl⟩
    rw [hsm]
    go_wp2_with (at_builtin; refine wpList_append_row _ rfl _ _ 22 rfl w.heap.size 5 i0 (.int .u8 0) 1 Try.underlying22 hi0 hz0 hz1 hz2 rfl _ 0 [] rfl hown0 .u8 a len cap x rfl hr0 ?c1 ?c2 ?c3 ?_)
    case c1 => omega
    case c2 => omega
    case c3 => simp
    intro v w1 hown1 hgrow1
    have q1 : Below w.heap.size w w1 := (below_one w (Obj.cells #[] 5)).grown hgrow1 (by simp) (fun k hk => by simp [Value.ownBlock] at hk; omega)
    have hown1' : w1.ownsRow w.heap.size 5 1 v len (x.map (Value.int .u8)) := by simpa using hown1
    obtain ⟨ao, capo, rfl, ro⟩ := row_of_owns hown1'
    clear hown1 hown1' hown0 hr0 hgrow1
    replace rx := rx.below q1 (Nat.le_refl _)
    go_wp2_with fail
    refine (hE.yes t _ _ _ x _ ro bx (by omega) ht1 ht2 (by omega)).mono ?_
    rintro e w2 ⟨z, hz, az, cpz, rfl, rz, qq⟩
    replace rx := rx.below qq (Nat.le_refl _)
    replace ro := ro.below qq (Nat.le_refl _)
    replace q1 := btrans q1 qq
    clear qq
    have HZ : Hid (IsEnc t x z) := hz
    clear hz
    go_wp2_with fail
    refine (hB.yes t _ ht1 ht2).mono ?_
    rintro e w3 ⟨rfl, qq⟩
    replace rx := rx.below qq (Nat.le_refl _)
    replace ro := ro.below qq (Nat.le_refl _)
    replace rz := rz.below qq (Nat.le_refl _)
    replace q1 := btrans q1 qq
    clear qq
    have hco := conv_row Try.underlying22 Try.underlying5 Try.underlying9 ro
    have hcx := conv_row Try.underlying22 Try.underlying5 Try.underlying9 rx
    go_wp2_with fail
    refine held_begin (by kernel_rfl) ?_
    refine held_call (i := 0) (fuel := 14) (by kernel_rfl) rfl (by rfl) (fun K hK => ?_)
    go_simp
    have qd := Since.drew w3
    replace rx := rx.below qd (Nat.le_refl _)
    replace ro := ro.below qd (Nat.le_refl _)
    replace rz := rz.below qd (Nat.le_refl _)
    replace q1 := btrans q1 qd
    clear qd
    refine (awake5_any hB hE hD _).mono ?_
    rintro e w4 ⟨rfl, qq0⟩
    refine hK _ _ (Since.trans (Since.drew _) qq0) ?_
    have qq : Since _ _ := qq0
    clear hK K qq0
    replace rx := rx.below qq (Nat.le_refl _)
    replace ro := ro.below qq (Nat.le_refl _)
    replace rz := rz.below qq (Nat.le_refl _)
    replace q1 := btrans q1 qq
    clear qq
    clear hco hcx
    refine held_reads (rs := [1, 2, 3, 4, 5, 6, 7, 8, 9]) (fuel := 5) (by kernel_rfl) (fun c d v a w h => by cases d <;> exact h) (by kernel_rfl) (Since.refl _) (fun K hK => ?_)
    go_simp
    refine calm_move _ rfl (by rfl) rfl ?_
    go_simp
    refine calm_move _ rfl (by rfl) rfl ?_
    go_simp
    refine calm_do (.bool true) rfl (by rfl) (fun w' hw' => ?_) ?_
    · go_simp
    go_simp
    refine calm_do (.bool true) rfl (by rfl) (fun w' hw' => ?_) ?_
    · go_simp
    go_simp
    refine calm_move _ rfl (by rfl) rfl ?_
    go_simp
    refine calm_move _ rfl (by rfl) rfl ?_
    go_simp
    refine calm_do (.string (strOfNums z)) rfl (by rfl) (fun w' hw' => ?_) ?_
    · have hcc := conv_row Try.underlying22 Try.underlying5 Try.underlying9 (rz.below hw' (Nat.le_refl _))
      go_simp
    go_simp
    refine calm_move _ rfl (by rfl) rfl ?_
    go_simp
    refine calm_move _ rfl (by rfl) rfl ?_
    go_simp
    refine calm_nil (hK.out _ ?_)
    clear hK K
    refine held_call (i := 10) (fuel := 4) (by kernel_rfl) rfl (by rfl) (fun K hK => ?_)
    go_simp
    refine (refEncode_any t _ _ _ x _ ht2 rx bx (by omega)).mono ?_
    rintro e w5 ⟨z', a9, cp9, hz', rfl, r9, qq0⟩
    refine hK _ _ (Since.trans (Since.refl _) qq0) ?_
    have qq : Since _ _ := qq0
    clear hK K qq0
    replace rx := rx.below qq (Nat.le_refl _)
    replace ro := ro.below qq (Nat.le_refl _)
    replace rz := rz.below qq (Nat.le_refl _)
    replace q1 := btrans q1 qq
    clear qq
    obtain rfl := enc_unique ht2 HZ.out hz'
    refine held_reads (rs := [11, 12, 13, 14]) (fuel := 0) (by kernel_rfl) (fun c d v a w h => by cases d <;> exact h) (by kernel_rfl) (Since.refl _) (fun K hK => ?_)
    go_simp
    refine calm_do (.string (strOfNums z)) rfl (by rfl) (fun w' hw' => ?_) ?_
    · have hcc := conv_row Try.underlying22 Try.underlying5 Try.underlying9 (r9.below hw' (Nat.le_refl _))
      go_simp
    go_simp
    refine calm_do (.bool true) rfl (by rfl) (fun w' hw' => ?_) ?_
    · go_simp
    go_simp
    refine calm_do (.bool true) rfl (by rfl) (fun w' hw' => ?_) ?_
    · go_simp
    go_simp
    refine calm_assign _ rfl (by rfl) rfl ?_
    go_simp
    refine calm_nil (hK.out _ ?_)
    clear hK K
    refine wpAnyH_done (by kernel_rfl) ?_ _
    go_wp2
    go_ret
    exact ⟨rfl, q1⟩

end Go.Proofs.Ytjiaomkjebbkpaa
