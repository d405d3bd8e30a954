/-
  The walk of layer 6's law EccPacks, out of the code's contracts: it returns true; nothing old turns. (Written by tools/gen/ecc_law_packs.py.)
-/
import Derived.Test.YtaabgfameegomaaEccAwake
import Derived.Test.YtaabgfameegomaaEccRef2
namespace Go.Proofs.Ytaabgfameegomaa
open Go.RowKit
set_option linter.unusedVariables false
set_option maxRecDepth 8192

set_option maxHeartbeats 6400000 in
set_option maxRecDepth 100000 in
theorem walk_eccPacks (hB : HBitsC) (hE : HEncC) (hD : HDecC) (b p s n f : Int) (a : Option Addr) (len cap : Nat) (x : List Int) (w : World) (rx : Row .u8 w a len cap x) (bx : IsB x) :
    Calls Try.prog 3 #[.agg #[.int .i64 b, .int .i64 p, .int .i64 s, .int .i64 n, .int .i64 f], .slice a len cap] w fun e w' => e = .returned (.bool true) ∧ Below w.heap.size w w' := by
  have hmaxl : len ≤ maxLen := Nat.le_trans rx.hcap rx.hmax
  obtain ⟨i0, hi0, hz0, hz1, hz2⟩ := info_parts Try.info5
  cases hsm : small6 b p s n f
  case false =>
    go_enter Try.func3, Try.ntmps3
    go_wp2_with fail
    have gb := gbox_new w 23 b p s n f
    have q1 := below_one w (.cells #[.int .i64 b, .int .i64 p, .int .i64 s, .int .i64 n, .int .i64 f] 23)
    generalize w.alloc (.cells #[.int .i64 b, .int .i64 p, .int .i64 s, .int .i64 n, .int .i64 f] 23) = w0 at *
    generalize hgg : w.heap.size = g at gb
    replace rx := rx.below q1 (Nat.le_refl _)
    refine (small6_any b p s n f _).mono ?_
    rintro e w1 ⟨rfl, qq⟩
    replace gb := gb.below qq (Nat.le_refl _)
    replace rx := rx.below qq (Nat.le_refl _)
    replace q1 := btrans q1 qq
    clear qq
    rw [hsm]
    go_wp2_with fail
    go_ret
    exact ⟨rfl, q1⟩
  by_cases hl : 200 < len
  case pos =>
    have hl1 : (200 : Int) < (len : Int) := by omega
    go_enter Try.func3, Try.ntmps3
    go_wp2_with fail
    have gb := gbox_new w 23 b p s n f
    have q1 := below_one w (.cells #[.int .i64 b, .int .i64 p, .int .i64 s, .int .i64 n, .int .i64 f] 23)
    generalize w.alloc (.cells #[.int .i64 b, .int .i64 p, .int .i64 s, .int .i64 n, .int .i64 f] 23) = w0 at *
    generalize hgg : w.heap.size = g at gb
    replace rx := rx.below q1 (Nat.le_refl _)
    refine (small6_any b p s n f _).mono ?_
    rintro e w1 ⟨rfl, qq⟩
    replace gb := gb.below qq (Nat.le_refl _)
    replace rx := rx.below qq (Nat.le_refl _)
    replace q1 := btrans q1 qq
    clear qq
    rw [hsm]
    go_wp2_with fail
    go_ret
    exact ⟨rfl, q1⟩
  have hl1 : ¬ (200 : Int) < (len : Int) := by omega
  cases hmy : mayG b p s n f
  case false =>
    go_enter Try.func3, Try.ntmps3
    go_wp2_with fail
    have gb := gbox_new w 23 b p s n f
    have q1 := below_one w (.cells #[.int .i64 b, .int .i64 p, .int .i64 s, .int .i64 n, .int .i64 f] 23)
    generalize w.alloc (.cells #[.int .i64 b, .int .i64 p, .int .i64 s, .int .i64 n, .int .i64 f] 23) = w0 at *
    generalize hgg : w.heap.size = g at gb
    replace rx := rx.below q1 (Nat.le_refl _)
    refine (small6_any b p s n f _).mono ?_
    rintro e w1 ⟨rfl, qq⟩
    replace gb := gb.below qq (Nat.le_refl _)
    replace rx := rx.below qq (Nat.le_refl _)
    replace q1 := btrans q1 qq
    clear qq
    rw [hsm]
    have hown0 := World.ownsRow_lit (base := w1.heap.size) (e := 5) (size := 1) w1 #[] 0 (Nat.le_refl _) (Nat.zero_le _) rfl
    have hr0 := rx.below (below_one w1 (Obj.cells #[] 5)) (Nat.le_refl _)
    go_wp2_with (at_builtin; refine wpList_append_row _ rfl _ _ 24 rfl w1.heap.size 5 i0 (.int .u8 0) 1 Try.underlying24 hi0 hz0 hz1 hz2 rfl _ 0 [] rfl hown0 .u8 a len cap x rfl hr0 ?c1 ?c2 ?c3 ?_)
    case c1 => omega
    case c2 => omega
    case c3 => simp
    intro v w2 hown1 hgrow1
    have qq : Below w1.heap.size w1 w2 := (below_one w1 (Obj.cells #[] 5)).grown hgrow1 (by simp) (fun k hk => by simp [Value.ownBlock] at hk; omega)
    have hown1' : w2.ownsRow w1.heap.size 5 1 v len (x.map (Value.int .u8)) := by simpa using hown1
    obtain ⟨ao, capo, rfl, ro⟩ := row_of_owns hown1'
    clear hown1 hown1' hown0 hr0 hgrow1
    replace gb := gb.below qq (Nat.le_refl _)
    replace rx := rx.below qq (Nat.le_refl _)
    replace q1 := btrans q1 qq
    clear qq
    have gb_ := gb
    obtain ⟨_, c0, c1, c2, c3, c4⟩ := gb_
    go_wp2_with fail
    clear c0 c1 c2 c3 c4
    refine (eccCheck_no b p s n f _ hmy).mono ?_
    rintro e w3 ⟨rfl, qq⟩
    replace gb := gb.below qq (Nat.le_refl _)
    replace rx := rx.below qq (Nat.le_refl _)
    replace ro := ro.below qq (Nat.le_refl _)
    replace q1 := btrans q1 qq
    clear qq
    have gb_ := gb
    obtain ⟨_, c0, c1, c2, c3, c4⟩ := gb_
    go_wp2_with fail
    clear c0 c1 c2 c3 c4
    refine (eccRoom_no b p s n f _ hmy).mono ?_
    rintro e w4 ⟨rfl, qq⟩
    replace gb := gb.below qq (Nat.le_refl _)
    replace rx := rx.below qq (Nat.le_refl _)
    replace ro := ro.below qq (Nat.le_refl _)
    replace q1 := btrans q1 qq
    clear qq
    have gb_ := gb
    obtain ⟨_, c0, c1, c2, c3, c4⟩ := gb_
    go_wp2_with fail
    clear c0 c1 c2 c3 c4
    refine (eccRaw_no b p s n f _ hmy).mono ?_
    rintro e w5 ⟨rfl, qq⟩
    replace gb := gb.below qq (Nat.le_refl _)
    replace rx := rx.below qq (Nat.le_refl _)
    replace ro := ro.below qq (Nat.le_refl _)
    replace q1 := btrans q1 qq
    clear qq
    have gb_ := gb
    obtain ⟨_, c0, c1, c2, c3, c4⟩ := gb_
    go_wp2_with fail
    clear c0 c1 c2 c3 c4
    refine (eccPack_no b p s n f _ _ _ _ hmy).mono ?_
    rintro e w6 ⟨rfl, qq⟩
    replace gb := gb.below qq (Nat.le_refl _)
    replace rx := rx.below qq (Nat.le_refl _)
    replace ro := ro.below qq (Nat.le_refl _)
    replace q1 := btrans q1 qq
    clear qq
    have hco := conv_row Try.underlying24 Try.underlying5 Try.underlying9 ro
    have hcx := conv_row Try.underlying24 Try.underlying5 Try.underlying9 rx
    have gb_ := gb
    obtain ⟨_, c0, c1, c2, c3, c4⟩ := gb_
    go_wp2_with fail
    clear c0 c1 c2 c3 c4
    refine (refMay_any b p s n f _).mono ?_
    rintro e w7 ⟨rfl, qq⟩
    replace gb := gb.below qq (Nat.le_refl _)
    replace rx := rx.below qq (Nat.le_refl _)
    replace ro := ro.below qq (Nat.le_refl _)
    replace q1 := btrans q1 qq
    clear qq
    clear hco hcx
    rw [hmy]
    go_wp2_with fail
    refine (awake6_any hB hE hD _).mono ?_
    rintro e w8 ⟨rfl, qq⟩
    replace gb := gb.below qq (Nat.le_refl _)
    replace rx := rx.below qq (Nat.le_refl _)
    replace ro := ro.below qq (Nat.le_refl _)
    replace q1 := btrans q1 qq
    clear qq
    go_wp2_with fail
    go_ret
    exact ⟨rfl, q1⟩
  obtain ⟨s, n, f, R, m, W, L, rfl, rfl, rfl, G⟩ := gok_ex hmy (small6_may hsm hmy)
  have hroom := refRoom_any b p f s n R G.hR G.hs.2 (by have := G.hn; omega)
  have hraw := refRaw_any G
  have hR1 := G.hR1
  have hL2 := G.L2
  by_cases hR : len = R
  case neg =>
    have hq : (((len : Nat) : Int) != (R : Int)) = true := by simp; omega
    go_enter Try.func3, Try.ntmps3
    go_wp2_with fail
    have gb := gbox_new w 23 b p s n f
    have q1 := below_one w (.cells #[.int .i64 b, .int .i64 p, .int .i64 s, .int .i64 n, .int .i64 f] 23)
    generalize w.alloc (.cells #[.int .i64 b, .int .i64 p, .int .i64 s, .int .i64 n, .int .i64 f] 23) = w0 at *
    generalize hgg : w.heap.size = g at gb
    replace rx := rx.below q1 (Nat.le_refl _)
    refine (small6_any b p s n f _).mono ?_
    rintro e w1 ⟨rfl, qq⟩
    replace gb := gb.below qq (Nat.le_refl _)
    replace rx := rx.below qq (Nat.le_refl _)
    replace q1 := btrans q1 qq
    clear qq
    rw [hsm]
    have hown0 := World.ownsRow_lit (base := w1.heap.size) (e := 5) (size := 1) w1 #[] 0 (Nat.le_refl _) (Nat.zero_le _) rfl
    have hr0 := rx.below (below_one w1 (Obj.cells #[] 5)) (Nat.le_refl _)
    go_wp2_with (at_builtin; refine wpList_append_row _ rfl _ _ 24 rfl w1.heap.size 5 i0 (.int .u8 0) 1 Try.underlying24 hi0 hz0 hz1 hz2 rfl _ 0 [] rfl hown0 .u8 a len cap x rfl hr0 ?c1 ?c2 ?c3 ?_)
    case c1 => omega
    case c2 => omega
    case c3 => simp
    intro v w2 hown1 hgrow1
    have qq : Below w1.heap.size w1 w2 := (below_one w1 (Obj.cells #[] 5)).grown hgrow1 (by simp) (fun k hk => by simp [Value.ownBlock] at hk; omega)
    have hown1' : w2.ownsRow w1.heap.size 5 1 v len (x.map (Value.int .u8)) := by simpa using hown1
    obtain ⟨ao, capo, rfl, ro⟩ := row_of_owns hown1'
    clear hown1 hown1' hown0 hr0 hgrow1
    replace gb := gb.below qq (Nat.le_refl _)
    replace rx := rx.below qq (Nat.le_refl _)
    replace q1 := btrans q1 qq
    clear qq
    have gb_ := gb
    obtain ⟨_, c0, c1, c2, c3, c4⟩ := gb_
    go_wp2_with fail
    clear c0 c1 c2 c3 c4
    refine (eccCheck_yes b p s n f _ hmy).mono ?_
    rintro e w3 ⟨rfl, qq⟩
    replace gb := gb.below qq (Nat.le_refl _)
    replace rx := rx.below qq (Nat.le_refl _)
    replace ro := ro.below qq (Nat.le_refl _)
    replace q1 := btrans q1 qq
    clear qq
    have gb_ := gb
    obtain ⟨_, c0, c1, c2, c3, c4⟩ := gb_
    go_wp2_with fail
    clear c0 c1 c2 c3 c4
    refine (eccRoom_yes G _).mono ?_
    rintro e w4 ⟨rfl, qq⟩
    replace gb := gb.below qq (Nat.le_refl _)
    replace rx := rx.below qq (Nat.le_refl _)
    replace ro := ro.below qq (Nat.le_refl _)
    replace q1 := btrans q1 qq
    clear qq
    have gb_ := gb
    obtain ⟨_, c0, c1, c2, c3, c4⟩ := gb_
    go_wp2_with fail
    clear c0 c1 c2 c3 c4
    refine (eccRaw_yes hB G _).mono ?_
    rintro e w5 ⟨rfl, qq⟩
    replace gb := gb.below qq (Nat.le_refl _)
    replace rx := rx.below qq (Nat.le_refl _)
    replace ro := ro.below qq (Nat.le_refl _)
    replace q1 := btrans q1 qq
    clear qq
    have gb_ := gb
    obtain ⟨_, c0, c1, c2, c3, c4⟩ := gb_
    go_wp2_with fail
    clear c0 c1 c2 c3 c4
    refine (eccPack_len G _ _ _ _ hR).mono ?_
    rintro e w6 ⟨rfl, qq⟩
    replace gb := gb.below qq (Nat.le_refl _)
    replace rx := rx.below qq (Nat.le_refl _)
    replace ro := ro.below qq (Nat.le_refl _)
    replace q1 := btrans q1 qq
    clear qq
    have hco := conv_row Try.underlying24 Try.underlying5 Try.underlying9 ro
    have hcx := conv_row Try.underlying24 Try.underlying5 Try.underlying9 rx
    have gb_ := gb
    obtain ⟨_, c0, c1, c2, c3, c4⟩ := gb_
    go_wp2_with fail
    clear c0 c1 c2 c3 c4
    refine (refMay_any b p s n f _).mono ?_
    rintro e w7 ⟨rfl, qq⟩
    replace gb := gb.below qq (Nat.le_refl _)
    replace rx := rx.below qq (Nat.le_refl _)
    replace ro := ro.below qq (Nat.le_refl _)
    replace q1 := btrans q1 qq
    clear qq
    clear hco hcx
    rw [hmy]
    have gb_ := gb
    obtain ⟨_, c0, c1, c2, c3, c4⟩ := gb_
    go_wp2_with fail
    clear c0 c1 c2 c3 c4
    refine (hroom _).mono ?_
    rintro e w8 ⟨rfl, qq⟩
    replace gb := gb.below qq (Nat.le_refl _)
    replace rx := rx.below qq (Nat.le_refl _)
    replace ro := ro.below qq (Nat.le_refl _)
    replace q1 := btrans q1 qq
    clear qq
    have gb_ := gb
    obtain ⟨_, c0, c1, c2, c3, c4⟩ := gb_
    go_wp2_with fail
    clear c0 c1 c2 c3 c4
    refine (hraw _).mono ?_
    rintro e w9 ⟨rfl, qq⟩
    replace gb := gb.below qq (Nat.le_refl _)
    replace rx := rx.below qq (Nat.le_refl _)
    replace ro := ro.below qq (Nat.le_refl _)
    replace q1 := btrans q1 qq
    clear qq
    go_wp2_with fail
    refine (awake6_any hB hE hD _).mono ?_
    rintro e w10 ⟨rfl, qq⟩
    replace gb := gb.below qq (Nat.le_refl _)
    replace rx := rx.below qq (Nat.le_refl _)
    replace ro := ro.below qq (Nat.le_refl _)
    replace q1 := btrans q1 qq
    clear qq
    go_wp2_with fail
    go_ret
    exact ⟨rfl, q1⟩
  subst hR
  go_enter Try.func3, Try.ntmps3
  go_wp2_with fail
  have gb := gbox_new w 23 b p s n f
  have q1 := below_one w (.cells #[.int .i64 b, .int .i64 p, .int .i64 s, .int .i64 n, .int .i64 f] 23)
  generalize w.alloc (.cells #[.int .i64 b, .int .i64 p, .int .i64 s, .int .i64 n, .int .i64 f] 23) = w0 at *
  generalize hgg : w.heap.size = g at gb
  replace rx := rx.below q1 (Nat.le_refl _)
  refine (small6_any b p s n f _).mono ?_
  rintro e w1 ⟨rfl, qq⟩
  replace gb := gb.below qq (Nat.le_refl _)
  replace rx := rx.below qq (Nat.le_refl _)
  replace q1 := btrans q1 qq
  clear qq
  rw [hsm]
  have hown0 := World.ownsRow_lit (base := w1.heap.size) (e := 5) (size := 1) w1 #[] 0 (Nat.le_refl _) (Nat.zero_le _) rfl
  have hr0 := rx.below (below_one w1 (Obj.cells #[] 5)) (Nat.le_refl _)
  go_wp2_with (at_builtin; refine wpList_append_row _ rfl _ _ 24 rfl w1.heap.size 5 i0 (.int .u8 0) 1 Try.underlying24 hi0 hz0 hz1 hz2 rfl _ 0 [] rfl hown0 .u8 a len cap x rfl hr0 ?c1 ?c2 ?c3 ?_)
  case c1 => omega
  case c2 => omega
  case c3 => simp
  intro v w2 hown1 hgrow1
  have qq : Below w1.heap.size w1 w2 := (below_one w1 (Obj.cells #[] 5)).grown hgrow1 (by simp) (fun k hk => by simp [Value.ownBlock] at hk; omega)
  have hown1' : w2.ownsRow w1.heap.size 5 1 v len (x.map (Value.int .u8)) := by simpa using hown1
  obtain ⟨ao, capo, rfl, ro⟩ := row_of_owns hown1'
  clear hown1 hown1' hown0 hr0 hgrow1
  replace gb := gb.below qq (Nat.le_refl _)
  replace rx := rx.below qq (Nat.le_refl _)
  replace q1 := btrans q1 qq
  clear qq
  have gb_ := gb
  obtain ⟨_, c0, c1, c2, c3, c4⟩ := gb_
  go_wp2_with fail
  clear c0 c1 c2 c3 c4
  refine (eccCheck_yes b p s n f _ hmy).mono ?_
  rintro e w3 ⟨rfl, qq⟩
  replace gb := gb.below qq (Nat.le_refl _)
  replace rx := rx.below qq (Nat.le_refl _)
  replace ro := ro.below qq (Nat.le_refl _)
  replace q1 := btrans q1 qq
  clear qq
  have gb_ := gb
  obtain ⟨_, c0, c1, c2, c3, c4⟩ := gb_
  go_wp2_with fail
  clear c0 c1 c2 c3 c4
  refine (eccRoom_yes G _).mono ?_
  rintro e w4 ⟨rfl, qq⟩
  replace gb := gb.below qq (Nat.le_refl _)
  replace rx := rx.below qq (Nat.le_refl _)
  replace ro := ro.below qq (Nat.le_refl _)
  replace q1 := btrans q1 qq
  clear qq
  have gb_ := gb
  obtain ⟨_, c0, c1, c2, c3, c4⟩ := gb_
  go_wp2_with fail
  clear c0 c1 c2 c3 c4
  refine (eccRaw_yes hB G _).mono ?_
  rintro e w5 ⟨rfl, qq⟩
  replace gb := gb.below qq (Nat.le_refl _)
  replace rx := rx.below qq (Nat.le_refl _)
  replace ro := ro.below qq (Nat.le_refl _)
  replace q1 := btrans q1 qq
  clear qq
  have gb_ := gb
  obtain ⟨_, c0, c1, c2, c3, c4⟩ := gb_
  go_wp2_with fail
  clear c0 c1 c2 c3 c4
  refine (eccPack_yes hB hE G _ _ x _ ro bx).mono ?_
  rintro e w6 ⟨z, gr, hz, hgr, rfl, own, qq⟩
  replace gb := gb.below qq (Nat.le_refl _)
  replace rx := rx.below qq (Nat.le_refl _)
  replace ro := ro.below qq (Nat.le_refl _)
  replace q1 := btrans q1 qq
  clear qq
  have rz := isB_of_row own
  clear own hgr
  have hco := conv_row Try.underlying24 Try.underlying5 Try.underlying9 ro
  have hcx := conv_row Try.underlying24 Try.underlying5 Try.underlying9 rx
  have gb_ := gb
  obtain ⟨_, c0, c1, c2, c3, c4⟩ := gb_
  go_wp2_with fail
  clear c0 c1 c2 c3 c4
  refine (refMay_any b p s n f _).mono ?_
  rintro e w7 ⟨rfl, qq⟩
  replace gb := gb.below qq (Nat.le_refl _)
  replace rx := rx.below qq (Nat.le_refl _)
  replace ro := ro.below qq (Nat.le_refl _)
  replace rz := rz.below qq (Nat.le_refl _)
  replace q1 := btrans q1 qq
  clear qq
  clear hco hcx
  rw [hmy]
  have gb_ := gb
  obtain ⟨_, c0, c1, c2, c3, c4⟩ := gb_
  go_wp2_with fail
  clear c0 c1 c2 c3 c4
  refine (hroom _).mono ?_
  rintro e w8 ⟨rfl, qq⟩
  replace gb := gb.below qq (Nat.le_refl _)
  replace rx := rx.below qq (Nat.le_refl _)
  replace ro := ro.below qq (Nat.le_refl _)
  replace rz := rz.below qq (Nat.le_refl _)
  replace q1 := btrans q1 qq
  clear qq
  have gb_ := gb
  obtain ⟨_, c0, c1, c2, c3, c4⟩ := gb_
  go_wp2_with fail
  clear c0 c1 c2 c3 c4
  refine (hraw _).mono ?_
  rintro e w9 ⟨rfl, qq⟩
  replace gb := gb.below qq (Nat.le_refl _)
  replace rx := rx.below qq (Nat.le_refl _)
  replace ro := ro.below qq (Nat.le_refl _)
  replace rz := rz.below qq (Nat.le_refl _)
  replace q1 := btrans q1 qq
  clear qq
  go_wp2_with fail
  refine held_begin (by kernel_rfl) ?_
  refine held_call (i := 0) (fuel := 14) (by kernel_rfl) rfl (by rfl) (fun K hK => ?_)
  go_simp
  have qd := Since.drew w9
  replace gb := gb.below qd (Nat.le_refl _)
  replace rx := rx.below qd (Nat.le_refl _)
  replace ro := ro.below qd (Nat.le_refl _)
  replace rz := rz.below qd (Nat.le_refl _)
  replace q1 := btrans q1 qd
  clear qd
  refine (awake6_any hB hE hD _).mono ?_
  rintro e w10 ⟨rfl, qq0⟩
  refine hK _ _ (Since.trans (Since.drew _) qq0) ?_
  have qq : Since _ _ := qq0
  clear hK K qq0
  replace gb := gb.below qq (Nat.le_refl _)
  replace rx := rx.below qq (Nat.le_refl _)
  replace ro := ro.below qq (Nat.le_refl _)
  replace rz := rz.below qq (Nat.le_refl _)
  replace q1 := btrans q1 qq
  clear qq
  refine held_reads (rs := [1, 2, 3, 4, 5, 6, 7, 8, 9]) (fuel := 5) (by kernel_rfl) (fun c d v a w h => by cases d <;> exact h) (by kernel_rfl) (Since.refl _) (fun K hK => ?_)
  go_simp
  refine calm_move _ rfl (by rfl) rfl ?_
  go_simp
  refine calm_move _ rfl (by rfl) rfl ?_
  go_simp
  refine calm_do (.bool true) rfl (by rfl) (fun w' hw' => ?_) ?_
  · go_simp
  go_simp
  refine calm_do (.bool true) rfl (by rfl) (fun w' hw' => ?_) ?_
  · go_simp
  go_simp
  refine calm_move _ rfl (by rfl) rfl ?_
  go_simp
  refine calm_move _ rfl (by rfl) rfl ?_
  go_simp
  refine calm_do (.string (strOfNums z)) rfl (by rfl) (fun w' hw' => ?_) ?_
  · have hcc := conv_row Try.underlying24 Try.underlying5 Try.underlying9 (rz.below hw' (Nat.le_refl _))
    go_simp
  go_simp
  refine calm_do (.agg #[.int .i64 b, .int .i64 p, .int .i64 s, .int .i64 n, .int .i64 f]) rfl (by rfl) (fun w' hw' => ?_) ?_
  · have gb' := gb.below hw' (Nat.le_refl _)
    obtain ⟨_, c0, c1, c2, c3, c4⟩ := gb'
    go_simp
  go_simp
  refine calm_move _ rfl (by rfl) rfl ?_
  go_simp
  refine calm_nil (hK.out _ ?_)
  clear hK K
  refine held_call (i := 10) (fuel := 4) (by kernel_rfl) rfl (by rfl) (fun K hK => ?_)
  go_simp
  refine (refPack6_any G _ _ x _ rx bx).mono ?_
  rintro e w11 ⟨z2, a2, c2, hz2, rfl, rk, qq0⟩
  refine hK _ _ (Since.trans (Since.refl _) qq0) ?_
  have qq : Since _ _ := qq0
  clear hK K qq0
  replace gb := gb.below qq (Nat.le_refl _)
  replace rx := rx.below qq (Nat.le_refl _)
  replace ro := ro.below qq (Nat.le_refl _)
  replace rz := rz.below qq (Nat.le_refl _)
  replace q1 := btrans q1 qq
  clear qq
  obtain rfl := pack_unique G.hf.2 G.hW (by have := G.W2; omega) hz2 hz
  refine held_reads (rs := [11, 12, 13, 14]) (fuel := 0) (by kernel_rfl) (fun c d v a w h => by cases d <;> exact h) (by kernel_rfl) (Since.refl _) (fun K hK => ?_)
  go_simp
  refine calm_do (.string (strOfNums z2)) rfl (by rfl) (fun w' hw' => ?_) ?_
  · have hcc := conv_row Try.underlying24 Try.underlying5 Try.underlying9 (rk.below hw' (Nat.le_refl _))
    go_simp
  go_simp
  refine calm_do (.bool true) rfl (by rfl) (fun w' hw' => ?_) ?_
  · go_simp
  go_simp
  refine calm_do (.bool true) rfl (by rfl) (fun w' hw' => ?_) ?_
  · go_simp
  go_simp
  refine calm_assign _ rfl (by rfl) rfl ?_
  go_simp
  refine calm_nil (hK.out _ ?_)
  clear hK K
  refine wpAnyH_done (by kernel_rfl) ?_ _
  go_wp2
  go_ret
  exact ⟨rfl, q1⟩

end Go.Proofs.Ytaabgfameegomaa
