/-
  Layer 9's laws: the walks of HeadAgain, HeadParses. (Written by tools/gen/head_laws2.py.)
-/
import Derived.Test.YtefpmidjedfjmaaHeadLaws
namespace Go.Proofs.Ytefpmidjedfjmaa
open Go.RowKit
set_option linter.unusedVariables false
set_option maxRecDepth 8192

set_option maxHeartbeats 6400000 in
set_option maxRecDepth 100000 in
theorem walk_headAgain (b p s n f : Int) (a : Option Addr) (len cap : Nat) (z : List Int) (w : World) (rx : Row .u8 w a len cap z) (hz : IsB z) : Calls Try.prog 6 #[.agg #[.int .i64 b, .int .i64 p, .int .i64 s, .int .i64 n, .int .i64 f], .slice a len cap] w fun e w' => e = .returned (.bool true) ∧ Below w.heap.size w w' := by
  have hmx := Nat.le_trans rx.hcap rx.hmax
  have hmx2 := hmx
  unfold maxLen at hmx2
  by_cases hl : 5000 < len
  · have hl2 : (5000 : Int) < (len : Int) := by omega
    go_enter Try.func6, Try.ntmps6
    go_wp2_with fail
    go_ret
    exact ⟨rfl, below_one _ _⟩
  have hl2 : ¬ (5000 : Int) < (len : Int) := by omega
  cases hm : mayG b p s n f
  · go_enter Try.func6, Try.ntmps6
    go_wp2_with fail
    have gb := gbox_new w 23 b p s n f
    have q1 := below_one w (.cells #[.int .i64 b, .int .i64 p, .int .i64 s, .int .i64 n, .int .i64 f] 23)
    generalize w.alloc (.cells #[.int .i64 b, .int .i64 p, .int .i64 s, .int .i64 n, .int .i64 f] 23) = w0 at *
    generalize hgg : w.heap.size = g at gb
    replace rx := rx.below q1 (Nat.le_refl _)
    refine (hParse_geo b p s n f _ _ _ _ hm hmx).mono ?_
    rintro e w1 ⟨rfl, qq⟩
    replace gb := gb.below qq (Nat.le_refl _)
    replace rx := rx.below qq (Nat.le_refl _)
    replace q1 := btrans q1 qq
    clear qq
    have qq := below_one w1 (.cells #[.int .i64 0, .int .i64 0, .int .i64 0] 25)
    have hx := hbox_new w1 25 0 0 0
    replace gb := gb.below qq (Nat.le_refl _)
    replace rx := rx.below qq (Nat.le_refl _)
    replace q1 := btrans q1 qq
    clear qq
    have gb_ := gb
    obtain ⟨_, c0, c1, c2, c3, c4⟩ := gb_
    have hx_ := hx
    obtain ⟨_, hxd0, hxd1, hxd2⟩ := hx_
    go_wp2_with fail
    clear c0 c1 c2 c3 c4
    clear hxd0 hxd1 hxd2
    generalize w1.alloc (.cells #[.int .i64 0, .int .i64 0, .int .i64 0] 25) = w2 at *
    generalize w1.heap.size = hxB at *
    refine (awake9_any _).mono ?_
    rintro e w3 ⟨rfl, qq⟩
    replace gb := gb.below qq (Nat.le_refl _)
    replace rx := rx.below qq (Nat.le_refl _)
    replace hx := hx.below qq (Nat.le_refl _)
    replace q1 := btrans q1 qq
    clear qq
    have gb_ := gb
    obtain ⟨_, c0, c1, c2, c3, c4⟩ := gb_
    have hx_ := hx
    obtain ⟨_, hxd0, hxd1, hxd2⟩ := hx_
    have he := headEq 0 0 0 0 0 0
    go_wp2_with fail
    go_ret
    exact ⟨rfl, q1⟩
  obtain ⟨s, n, R, C, rfl, rfl, G⟩ := gmay_of hm
  clear hm
  by_cases hlR : len = R
  case neg =>
    go_enter Try.func6, Try.ntmps6
    go_wp2_with fail
    have gb := gbox_new w 23 b p s n f
    have q1 := below_one w (.cells #[.int .i64 b, .int .i64 p, .int .i64 s, .int .i64 n, .int .i64 f] 23)
    generalize w.alloc (.cells #[.int .i64 b, .int .i64 p, .int .i64 s, .int .i64 n, .int .i64 f] 23) = w0 at *
    generalize hgg : w.heap.size = g at gb
    replace rx := rx.below q1 (Nat.le_refl _)
    refine (hParse_len G _ _ _ _ hmx hlR).mono ?_
    rintro e w1 ⟨rfl, qq⟩
    replace gb := gb.below qq (Nat.le_refl _)
    replace rx := rx.below qq (Nat.le_refl _)
    replace q1 := btrans q1 qq
    clear qq
    have qq := below_one w1 (.cells #[.int .i64 0, .int .i64 0, .int .i64 0] 25)
    have hx := hbox_new w1 25 0 0 0
    replace gb := gb.below qq (Nat.le_refl _)
    replace rx := rx.below qq (Nat.le_refl _)
    replace q1 := btrans q1 qq
    clear qq
    have gb_ := gb
    obtain ⟨_, c0, c1, c2, c3, c4⟩ := gb_
    have hx_ := hx
    obtain ⟨_, hxd0, hxd1, hxd2⟩ := hx_
    go_wp2_with fail
    clear c0 c1 c2 c3 c4
    clear hxd0 hxd1 hxd2
    generalize w1.alloc (.cells #[.int .i64 0, .int .i64 0, .int .i64 0] 25) = w2 at *
    generalize w1.heap.size = hxB at *
    refine (awake9_any _).mono ?_
    rintro e w3 ⟨rfl, qq⟩
    replace gb := gb.below qq (Nat.le_refl _)
    replace rx := rx.below qq (Nat.le_refl _)
    replace hx := hx.below qq (Nat.le_refl _)
    replace q1 := btrans q1 qq
    clear qq
    have gb_ := gb
    obtain ⟨_, c0, c1, c2, c3, c4⟩ := gb_
    have hx_ := hx
    obtain ⟨_, hxd0, hxd1, hxd2⟩ := hx_
    have he := headEq 0 0 0 0 0 0
    go_wp2_with fail
    go_ret
    exact ⟨rfl, q1⟩
  subst hlR
  cases hrd : readH C len z
  · go_enter Try.func6, Try.ntmps6
    go_wp2_with fail
    have gb := gbox_new w 23 b p s n f
    have q1 := below_one w (.cells #[.int .i64 b, .int .i64 p, .int .i64 s, .int .i64 n, .int .i64 f] 23)
    generalize w.alloc (.cells #[.int .i64 b, .int .i64 p, .int .i64 s, .int .i64 n, .int .i64 f] 23) = w0 at *
    generalize hgg : w.heap.size = g at gb
    replace rx := rx.below q1 (Nat.le_refl _)
    refine (hParse_no G _ _ _ _ rx hz hrd).mono ?_
    rintro e w1 ⟨rfl, qq⟩
    replace gb := gb.below qq (Nat.le_refl _)
    replace rx := rx.below qq (Nat.le_refl _)
    replace q1 := btrans q1 qq
    clear qq
    have qq := below_one w1 (.cells #[.int .i64 0, .int .i64 0, .int .i64 0] 25)
    have hx := hbox_new w1 25 0 0 0
    replace gb := gb.below qq (Nat.le_refl _)
    replace rx := rx.below qq (Nat.le_refl _)
    replace q1 := btrans q1 qq
    clear qq
    have gb_ := gb
    obtain ⟨_, c0, c1, c2, c3, c4⟩ := gb_
    have hx_ := hx
    obtain ⟨_, hxd0, hxd1, hxd2⟩ := hx_
    go_wp2_with fail
    clear c0 c1 c2 c3 c4
    clear hxd0 hxd1 hxd2
    generalize w1.alloc (.cells #[.int .i64 0, .int .i64 0, .int .i64 0] 25) = w2 at *
    generalize w1.heap.size = hxB at *
    refine (awake9_any _).mono ?_
    rintro e w3 ⟨rfl, qq⟩
    replace gb := gb.below qq (Nat.le_refl _)
    replace rx := rx.below qq (Nat.le_refl _)
    replace hx := hx.below qq (Nat.le_refl _)
    replace q1 := btrans q1 qq
    clear qq
    have gb_ := gb
    obtain ⟨_, c0, c1, c2, c3, c4⟩ := gb_
    have hx_ := hx
    obtain ⟨_, hxd0, hxd1, hxd2⟩ := hx_
    have he := headEq 0 0 0 0 0 0
    go_wp2_with fail
    go_ret
    exact ⟨rfl, q1⟩
  obtain ⟨hmy, hpg⟩ := readH_may hrd
  have hby := hBytes_yes G (numAt z 4) (numAt z 8) (numAt z 12)
  rw [hpg] at hby
  clear hpg
  go_enter Try.func6, Try.ntmps6
  go_wp2_with fail
  have gb := gbox_new w 23 b p s n f
  have q1 := below_one w (.cells #[.int .i64 b, .int .i64 p, .int .i64 s, .int .i64 n, .int .i64 f] 23)
  generalize w.alloc (.cells #[.int .i64 b, .int .i64 p, .int .i64 s, .int .i64 n, .int .i64 f] 23) = w0 at *
  generalize hgg : w.heap.size = g at gb
  replace rx := rx.below q1 (Nat.le_refl _)
  refine (hParse_yes G _ _ _ _ rx hz hrd).mono ?_
  rintro e w1 ⟨rfl, qq⟩
  replace gb := gb.below qq (Nat.le_refl _)
  replace rx := rx.below qq (Nat.le_refl _)
  replace q1 := btrans q1 qq
  clear qq
  have qq := below_one w1 (.cells #[.int .i64 (numAt z 4), .int .i64 (numAt z 8), .int .i64 (numAt z 12)] 25)
  have hx := hbox_new w1 25 (numAt z 4) (numAt z 8) (numAt z 12)
  replace gb := gb.below qq (Nat.le_refl _)
  replace rx := rx.below qq (Nat.le_refl _)
  replace q1 := btrans q1 qq
  clear qq
  have gb_ := gb
  obtain ⟨_, c0, c1, c2, c3, c4⟩ := gb_
  have hx_ := hx
  obtain ⟨_, hxd0, hxd1, hxd2⟩ := hx_
  go_wp2_with fail
  clear c0 c1 c2 c3 c4
  clear hxd0 hxd1 hxd2
  generalize w1.alloc (.cells #[.int .i64 (numAt z 4), .int .i64 (numAt z 8), .int .i64 (numAt z 12)] 25) = w2 at *
  generalize w1.heap.size = hxB at *
  clear hrd
  refine (hby _ hmy).mono ?_
  rintro e w8 ⟨g8, _, rfl, own8, qq⟩
  obtain ⟨a8, c8, he8, r8⟩ := row_of_owns own8
  cases he8
  clear own8
  replace gb := gb.below qq (Nat.le_refl _)
  replace rx := rx.below qq (Nat.le_refl _)
  replace hx := hx.below qq (Nat.le_refl _)
  replace q1 := btrans q1 qq
  clear qq
  have gb_ := gb
  obtain ⟨_, c0, c1, c2, c3, c4⟩ := gb_
  have hx_ := hx
  obtain ⟨_, hxd0, hxd1, hxd2⟩ := hx_
  go_wp2_with fail
  clear c0 c1 c2 c3 c4
  clear hxd0 hxd1 hxd2
  refine (awake9_any _).mono ?_
  rintro e w9 ⟨rfl, qq⟩
  replace gb := gb.below qq (Nat.le_refl _)
  replace rx := rx.below qq (Nat.le_refl _)
  replace hx := hx.below qq (Nat.le_refl _)
  replace r8 := r8.below qq (Nat.le_refl _)
  replace q1 := btrans q1 qq
  clear qq
  have gb_ := gb
  obtain ⟨_, c0, c1, c2, c3, c4⟩ := gb_
  have hx_ := hx
  obtain ⟨_, hxd0, hxd1, hxd2⟩ := hx_
  have k1 := conv_row (P := Try.prog) Try.underlying30 Try.underlying5 Try.underlying9 r8
  have k2 := conv_row (P := Try.prog) Try.underlying30 Try.underlying5 Try.underlying9 rx
  go_wp2_with fail
  go_ret
  exact ⟨rfl, q1⟩
set_option maxHeartbeats 6400000 in
set_option maxRecDepth 100000 in
theorem walk_headParses (b p s n f : Int) (a : Option Addr) (len cap : Nat) (z : List Int) (w : World) (rx : Row .u8 w a len cap z) (hz : IsB z) : Calls Try.prog 4 #[.agg #[.int .i64 b, .int .i64 p, .int .i64 s, .int .i64 n, .int .i64 f], .slice a len cap] w fun e w' => e = .returned (.bool true) ∧ Below w.heap.size w w' := by
  have hmx := Nat.le_trans rx.hcap rx.hmax
  have hmx2 := hmx
  unfold maxLen at hmx2
  by_cases hl : 5000 < len
  · have hl2 : (5000 : Int) < (len : Int) := by omega
    go_enter Try.func4, Try.ntmps4
    go_wp2_with fail
    go_ret
    exact ⟨rfl, below_one _ _⟩
  have hl2 : ¬ (5000 : Int) < (len : Int) := by omega
  cases hm : mayG b p s n f
  · obtain ⟨i0, hi0, hz0, hz1, hz2⟩ := info_parts Try.info5
    go_enter Try.func4, Try.ntmps4
    go_upto_region 3 with fail
    have gb := gbox_new w 23 b p s n f
    have q1 := below_one w (.cells #[.int .i64 b, .int .i64 p, .int .i64 s, .int .i64 n, .int .i64 f] 23)
    generalize w.alloc (.cells #[.int .i64 b, .int .i64 p, .int .i64 s, .int .i64 n, .int .i64 f] 23) = w0 at *
    generalize hgg : w.heap.size = g at gb
    replace rx := rx.below q1 (Nat.le_refl _)
    have hc1 : 0 + len ≤ maxLen := by rw [Nat.zero_add]; exact hmx
    have hc2 : (0 + len) * 1 ≤ 140737488355328 := by omega
    have hc3 : w0.heap.size ≤ (w0.alloc (Obj.cells #[] 5)).heap.size := (below_one w0 _).size
    have hown0 := World.ownsRow_lit (base := w0.heap.size) (e := 5) (size := 1) w0 #[] 0 (Nat.le_refl _) (Nat.zero_le _) rfl
    have hr0 := rx.below (below_one w0 (Obj.cells #[] 5)) (Nat.le_refl _)
    go_wp2_with (at_builtin; refine wpList_append_row _ rfl _ _ 30 rfl w0.heap.size 5 i0 (.int .u8 0) 1 Try.underlying30 hi0 hz0 hz1 hz2 rfl _ 0 [] rfl hown0 .u8 a len cap z rfl hr0 hc1 hc2 hc3 ?_)
    intro vo wo hown1 hgrow1
    have qq : Below w0.heap.size w0 wo := (below_one w0 (Obj.cells #[] 5)).grown hgrow1 (by simp) (fun k hk => by simp [Value.ownBlock] at hk; omega)
    have hown1' : wo.ownsRow w0.heap.size 5 1 vo len (z.map (Value.int .u8)) := by simpa using hown1
    obtain ⟨ao, co, rfl, ro⟩ := row_of_owns hown1'
    clear hown1 hown1' hown0 hr0 hgrow1
    replace gb := gb.below qq (Nat.le_refl _)
    replace rx := rx.below qq (Nat.le_refl _)
    replace q1 := btrans q1 qq
    clear qq
    have gb_ := gb
    obtain ⟨_, c0, c1, c2, c3, c4⟩ := gb_
    go_wp2_with fail
    clear c0 c1 c2 c3 c4
    refine (hParse_geo b p s n f _ _ _ _ hm hmx).mono ?_
    rintro e w1 ⟨rfl, qq⟩
    replace gb := gb.below qq (Nat.le_refl _)
    replace rx := rx.below qq (Nat.le_refl _)
    replace ro := ro.below qq (Nat.le_refl _)
    replace q1 := btrans q1 qq
    clear qq
    have k1 := conv_row (P := Try.prog) Try.underlying30 Try.underlying5 Try.underlying9 (ro.below (below_one w1 (.cells #[.int .i64 0, .int .i64 0, .int .i64 0] 25)) (Nat.le_refl _))
    have k2 := conv_row (P := Try.prog) Try.underlying30 Try.underlying5 Try.underlying9 (rx.below (below_one w1 (.cells #[.int .i64 0, .int .i64 0, .int .i64 0] 25)) (Nat.le_refl _))
    have qq := below_one w1 (.cells #[.int .i64 0, .int .i64 0, .int .i64 0] 25)
    have hx := hbox_new w1 25 0 0 0
    replace gb := gb.below qq (Nat.le_refl _)
    replace rx := rx.below qq (Nat.le_refl _)
    replace ro := ro.below qq (Nat.le_refl _)
    replace q1 := btrans q1 qq
    clear qq
    have gb_ := gb
    obtain ⟨_, c0, c1, c2, c3, c4⟩ := gb_
    have hx_ := hx
    obtain ⟨_, hxd0, hxd1, hxd2⟩ := hx_
    go_wp2_with fail
    clear c0 c1 c2 c3 c4
    clear hxd0 hxd1 hxd2
    generalize w1.alloc (.cells #[.int .i64 0, .int .i64 0, .int .i64 0] 25) = w2 at *
    generalize w1.heap.size = hxB at *
    clear k1 k2
    refine (refMay_any b p s n f _).mono ?_
    rintro e w3 ⟨rfl, qq⟩
    replace gb := gb.below qq (Nat.le_refl _)
    replace rx := rx.below qq (Nat.le_refl _)
    replace ro := ro.below qq (Nat.le_refl _)
    replace hx := hx.below qq (Nat.le_refl _)
    replace q1 := btrans q1 qq
    clear qq
    rw [hm]
    have gb_ := gb
    obtain ⟨_, c0, c1, c2, c3, c4⟩ := gb_
    have hx_ := hx
    obtain ⟨_, hxd0, hxd1, hxd2⟩ := hx_
    go_wp2_with fail
    clear c0 c1 c2 c3 c4
    clear hxd0 hxd1 hxd2
    refine (awake9_any _).mono ?_
    rintro e w4 ⟨rfl, qq⟩
    replace gb := gb.below qq (Nat.le_refl _)
    replace rx := rx.below qq (Nat.le_refl _)
    replace ro := ro.below qq (Nat.le_refl _)
    replace hx := hx.below qq (Nat.le_refl _)
    replace q1 := btrans q1 qq
    clear qq
    have gb_ := gb
    obtain ⟨_, c0, c1, c2, c3, c4⟩ := gb_
    have hx_ := hx
    obtain ⟨_, hxd0, hxd1, hxd2⟩ := hx_
    have he := headEq 0 0 0 0 0 0
    go_wp2_with fail
    go_ret
    exact ⟨rfl, q1⟩
  obtain ⟨s, n, R, C, rfl, rfl, G⟩ := gmay_of hm
  have hroom := refRoom_any b p f s n R G.hR G.hs G.hn
  by_cases hlR : len = R
  case neg =>
    have hlR2 : ¬ (len : Int) = (R : Int) := by omega
    obtain ⟨i0, hi0, hz0, hz1, hz2⟩ := info_parts Try.info5
    go_enter Try.func4, Try.ntmps4
    go_upto_region 3 with fail
    have gb := gbox_new w 23 b p s n f
    have q1 := below_one w (.cells #[.int .i64 b, .int .i64 p, .int .i64 s, .int .i64 n, .int .i64 f] 23)
    generalize w.alloc (.cells #[.int .i64 b, .int .i64 p, .int .i64 s, .int .i64 n, .int .i64 f] 23) = w0 at *
    generalize hgg : w.heap.size = g at gb
    replace rx := rx.below q1 (Nat.le_refl _)
    have hc1 : 0 + len ≤ maxLen := by rw [Nat.zero_add]; exact hmx
    have hc2 : (0 + len) * 1 ≤ 140737488355328 := by omega
    have hc3 : w0.heap.size ≤ (w0.alloc (Obj.cells #[] 5)).heap.size := (below_one w0 _).size
    have hown0 := World.ownsRow_lit (base := w0.heap.size) (e := 5) (size := 1) w0 #[] 0 (Nat.le_refl _) (Nat.zero_le _) rfl
    have hr0 := rx.below (below_one w0 (Obj.cells #[] 5)) (Nat.le_refl _)
    go_wp2_with (at_builtin; refine wpList_append_row _ rfl _ _ 30 rfl w0.heap.size 5 i0 (.int .u8 0) 1 Try.underlying30 hi0 hz0 hz1 hz2 rfl _ 0 [] rfl hown0 .u8 a len cap z rfl hr0 hc1 hc2 hc3 ?_)
    intro vo wo hown1 hgrow1
    have qq : Below w0.heap.size w0 wo := (below_one w0 (Obj.cells #[] 5)).grown hgrow1 (by simp) (fun k hk => by simp [Value.ownBlock] at hk; omega)
    have hown1' : wo.ownsRow w0.heap.size 5 1 vo len (z.map (Value.int .u8)) := by simpa using hown1
    obtain ⟨ao, co, rfl, ro⟩ := row_of_owns hown1'
    clear hown1 hown1' hown0 hr0 hgrow1
    replace gb := gb.below qq (Nat.le_refl _)
    replace rx := rx.below qq (Nat.le_refl _)
    replace q1 := btrans q1 qq
    clear qq
    have gb_ := gb
    obtain ⟨_, c0, c1, c2, c3, c4⟩ := gb_
    go_wp2_with fail
    clear c0 c1 c2 c3 c4
    refine (hParse_len G _ _ _ _ hmx hlR).mono ?_
    rintro e w1 ⟨rfl, qq⟩
    replace gb := gb.below qq (Nat.le_refl _)
    replace rx := rx.below qq (Nat.le_refl _)
    replace ro := ro.below qq (Nat.le_refl _)
    replace q1 := btrans q1 qq
    clear qq
    have k1 := conv_row (P := Try.prog) Try.underlying30 Try.underlying5 Try.underlying9 (ro.below (below_one w1 (.cells #[.int .i64 0, .int .i64 0, .int .i64 0] 25)) (Nat.le_refl _))
    have k2 := conv_row (P := Try.prog) Try.underlying30 Try.underlying5 Try.underlying9 (rx.below (below_one w1 (.cells #[.int .i64 0, .int .i64 0, .int .i64 0] 25)) (Nat.le_refl _))
    have qq := below_one w1 (.cells #[.int .i64 0, .int .i64 0, .int .i64 0] 25)
    have hx := hbox_new w1 25 0 0 0
    replace gb := gb.below qq (Nat.le_refl _)
    replace rx := rx.below qq (Nat.le_refl _)
    replace ro := ro.below qq (Nat.le_refl _)
    replace q1 := btrans q1 qq
    clear qq
    have gb_ := gb
    obtain ⟨_, c0, c1, c2, c3, c4⟩ := gb_
    have hx_ := hx
    obtain ⟨_, hxd0, hxd1, hxd2⟩ := hx_
    go_wp2_with fail
    clear c0 c1 c2 c3 c4
    clear hxd0 hxd1 hxd2
    generalize w1.alloc (.cells #[.int .i64 0, .int .i64 0, .int .i64 0] 25) = w2 at *
    generalize w1.heap.size = hxB at *
    clear k1 k2
    refine (refMay_any b p s n f _).mono ?_
    rintro e w3 ⟨rfl, qq⟩
    replace gb := gb.below qq (Nat.le_refl _)
    replace rx := rx.below qq (Nat.le_refl _)
    replace ro := ro.below qq (Nat.le_refl _)
    replace hx := hx.below qq (Nat.le_refl _)
    replace q1 := btrans q1 qq
    clear qq
    rw [hm]
    have gb_ := gb
    obtain ⟨_, c0, c1, c2, c3, c4⟩ := gb_
    have hx_ := hx
    obtain ⟨_, hxd0, hxd1, hxd2⟩ := hx_
    go_wp2_with fail
    clear c0 c1 c2 c3 c4
    clear hxd0 hxd1 hxd2
    refine (hroom _).mono ?_
    rintro e w4 ⟨rfl, qq⟩
    replace gb := gb.below qq (Nat.le_refl _)
    replace rx := rx.below qq (Nat.le_refl _)
    replace ro := ro.below qq (Nat.le_refl _)
    replace hx := hx.below qq (Nat.le_refl _)
    replace q1 := btrans q1 qq
    clear qq
    have gb_ := gb
    obtain ⟨_, c0, c1, c2, c3, c4⟩ := gb_
    have hx_ := hx
    obtain ⟨_, hxd0, hxd1, hxd2⟩ := hx_
    go_wp2_with fail
    clear c0 c1 c2 c3 c4
    clear hxd0 hxd1 hxd2
    refine (awake9_any _).mono ?_
    rintro e w5 ⟨rfl, qq⟩
    replace gb := gb.below qq (Nat.le_refl _)
    replace rx := rx.below qq (Nat.le_refl _)
    replace ro := ro.below qq (Nat.le_refl _)
    replace hx := hx.below qq (Nat.le_refl _)
    replace q1 := btrans q1 qq
    clear qq
    have gb_ := gb
    obtain ⟨_, c0, c1, c2, c3, c4⟩ := gb_
    have hx_ := hx
    obtain ⟨_, hxd0, hxd1, hxd2⟩ := hx_
    have he := headEq 0 0 0 0 0 0
    go_wp2_with fail
    go_ret
    exact ⟨rfl, q1⟩
  subst hlR
  cases hrd : readH C len z
  · obtain ⟨i0, hi0, hz0, hz1, hz2⟩ := info_parts Try.info5
    go_enter Try.func4, Try.ntmps4
    go_upto_region 3 with fail
    have gb := gbox_new w 23 b p s n f
    have q1 := below_one w (.cells #[.int .i64 b, .int .i64 p, .int .i64 s, .int .i64 n, .int .i64 f] 23)
    generalize w.alloc (.cells #[.int .i64 b, .int .i64 p, .int .i64 s, .int .i64 n, .int .i64 f] 23) = w0 at *
    generalize hgg : w.heap.size = g at gb
    replace rx := rx.below q1 (Nat.le_refl _)
    have hc1 : 0 + len ≤ maxLen := by rw [Nat.zero_add]; exact hmx
    have hc2 : (0 + len) * 1 ≤ 140737488355328 := by omega
    have hc3 : w0.heap.size ≤ (w0.alloc (Obj.cells #[] 5)).heap.size := (below_one w0 _).size
    have hown0 := World.ownsRow_lit (base := w0.heap.size) (e := 5) (size := 1) w0 #[] 0 (Nat.le_refl _) (Nat.zero_le _) rfl
    have hr0 := rx.below (below_one w0 (Obj.cells #[] 5)) (Nat.le_refl _)
    go_wp2_with (at_builtin; refine wpList_append_row _ rfl _ _ 30 rfl w0.heap.size 5 i0 (.int .u8 0) 1 Try.underlying30 hi0 hz0 hz1 hz2 rfl _ 0 [] rfl hown0 .u8 a len cap z rfl hr0 hc1 hc2 hc3 ?_)
    intro vo wo hown1 hgrow1
    have qq : Below w0.heap.size w0 wo := (below_one w0 (Obj.cells #[] 5)).grown hgrow1 (by simp) (fun k hk => by simp [Value.ownBlock] at hk; omega)
    have hown1' : wo.ownsRow w0.heap.size 5 1 vo len (z.map (Value.int .u8)) := by simpa using hown1
    obtain ⟨ao, co, rfl, ro⟩ := row_of_owns hown1'
    clear hown1 hown1' hown0 hr0 hgrow1
    replace gb := gb.below qq (Nat.le_refl _)
    replace rx := rx.below qq (Nat.le_refl _)
    replace q1 := btrans q1 qq
    clear qq
    have gb_ := gb
    obtain ⟨_, c0, c1, c2, c3, c4⟩ := gb_
    go_wp2_with fail
    clear c0 c1 c2 c3 c4
    refine (hParse_no G _ _ _ _ ro hz hrd).mono ?_
    rintro e w1 ⟨rfl, qq⟩
    replace gb := gb.below qq (Nat.le_refl _)
    replace rx := rx.below qq (Nat.le_refl _)
    replace ro := ro.below qq (Nat.le_refl _)
    replace q1 := btrans q1 qq
    clear qq
    have k1 := conv_row (P := Try.prog) Try.underlying30 Try.underlying5 Try.underlying9 (ro.below (below_one w1 (.cells #[.int .i64 0, .int .i64 0, .int .i64 0] 25)) (Nat.le_refl _))
    have k2 := conv_row (P := Try.prog) Try.underlying30 Try.underlying5 Try.underlying9 (rx.below (below_one w1 (.cells #[.int .i64 0, .int .i64 0, .int .i64 0] 25)) (Nat.le_refl _))
    have qq := below_one w1 (.cells #[.int .i64 0, .int .i64 0, .int .i64 0] 25)
    have hx := hbox_new w1 25 0 0 0
    replace gb := gb.below qq (Nat.le_refl _)
    replace rx := rx.below qq (Nat.le_refl _)
    replace ro := ro.below qq (Nat.le_refl _)
    replace q1 := btrans q1 qq
    clear qq
    have gb_ := gb
    obtain ⟨_, c0, c1, c2, c3, c4⟩ := gb_
    have hx_ := hx
    obtain ⟨_, hxd0, hxd1, hxd2⟩ := hx_
    go_wp2_with fail
    clear c0 c1 c2 c3 c4
    clear hxd0 hxd1 hxd2
    generalize w1.alloc (.cells #[.int .i64 0, .int .i64 0, .int .i64 0] 25) = w2 at *
    generalize w1.heap.size = hxB at *
    clear k1 k2
    refine (refMay_any b p s n f _).mono ?_
    rintro e w3 ⟨rfl, qq⟩
    replace gb := gb.below qq (Nat.le_refl _)
    replace rx := rx.below qq (Nat.le_refl _)
    replace ro := ro.below qq (Nat.le_refl _)
    replace hx := hx.below qq (Nat.le_refl _)
    replace q1 := btrans q1 qq
    clear qq
    rw [hm]
    have gb_ := gb
    obtain ⟨_, c0, c1, c2, c3, c4⟩ := gb_
    have hx_ := hx
    obtain ⟨_, hxd0, hxd1, hxd2⟩ := hx_
    go_wp2_with fail
    clear c0 c1 c2 c3 c4
    clear hxd0 hxd1 hxd2
    refine (hroom _).mono ?_
    rintro e w4 ⟨rfl, qq⟩
    replace gb := gb.below qq (Nat.le_refl _)
    replace rx := rx.below qq (Nat.le_refl _)
    replace ro := ro.below qq (Nat.le_refl _)
    replace hx := hx.below qq (Nat.le_refl _)
    replace q1 := btrans q1 qq
    clear qq
    have gb_ := gb
    obtain ⟨_, c0, c1, c2, c3, c4⟩ := gb_
    have hx_ := hx
    obtain ⟨_, hxd0, hxd1, hxd2⟩ := hx_
    go_wp2_with fail
    clear c0 c1 c2 c3 c4
    clear hxd0 hxd1 hxd2
    refine (refParse9_no G _ _ _ _ rx hz hrd).mono ?_
    rintro e w5 ⟨rfl, qq⟩
    replace gb := gb.below qq (Nat.le_refl _)
    replace rx := rx.below qq (Nat.le_refl _)
    replace ro := ro.below qq (Nat.le_refl _)
    replace hx := hx.below qq (Nat.le_refl _)
    replace q1 := btrans q1 qq
    clear qq
    have qq := below_one w5 (.cells #[.int .i64 0, .int .i64 0, .int .i64 0] 25)
    have hy := hbox_new w5 25 0 0 0
    replace gb := gb.below qq (Nat.le_refl _)
    replace rx := rx.below qq (Nat.le_refl _)
    replace ro := ro.below qq (Nat.le_refl _)
    replace hx := hx.below qq (Nat.le_refl _)
    replace q1 := btrans q1 qq
    clear qq
    have gb_ := gb
    obtain ⟨_, c0, c1, c2, c3, c4⟩ := gb_
    have hx_ := hx
    obtain ⟨_, hxd0, hxd1, hxd2⟩ := hx_
    have hy_ := hy
    obtain ⟨_, hyd0, hyd1, hyd2⟩ := hy_
    go_wp2_with fail
    clear c0 c1 c2 c3 c4
    clear hxd0 hxd1 hxd2
    clear hyd0 hyd1 hyd2
    generalize w5.alloc (.cells #[.int .i64 0, .int .i64 0, .int .i64 0] 25) = w6 at *
    generalize w5.heap.size = hyB at *
    refine (awake9_any _).mono ?_
    rintro e w7 ⟨rfl, qq⟩
    replace gb := gb.below qq (Nat.le_refl _)
    replace rx := rx.below qq (Nat.le_refl _)
    replace ro := ro.below qq (Nat.le_refl _)
    replace hx := hx.below qq (Nat.le_refl _)
    replace hy := hy.below qq (Nat.le_refl _)
    replace q1 := btrans q1 qq
    clear qq
    have gb_ := gb
    obtain ⟨_, c0, c1, c2, c3, c4⟩ := gb_
    have hx_ := hx
    obtain ⟨_, hxd0, hxd1, hxd2⟩ := hx_
    have hy_ := hy
    obtain ⟨_, hyd0, hyd1, hyd2⟩ := hy_
    have he := headEq 0 0 0 0 0 0
    go_wp2_with fail
    go_ret
    exact ⟨rfl, q1⟩
  obtain ⟨i0, hi0, hz0, hz1, hz2⟩ := info_parts Try.info5
  go_enter Try.func4, Try.ntmps4
  go_upto_region 3 with fail
  have gb := gbox_new w 23 b p s n f
  have q1 := below_one w (.cells #[.int .i64 b, .int .i64 p, .int .i64 s, .int .i64 n, .int .i64 f] 23)
  generalize w.alloc (.cells #[.int .i64 b, .int .i64 p, .int .i64 s, .int .i64 n, .int .i64 f] 23) = w0 at *
  generalize hgg : w.heap.size = g at gb
  replace rx := rx.below q1 (Nat.le_refl _)
  have hc1 : 0 + len ≤ maxLen := by rw [Nat.zero_add]; exact hmx
  have hc2 : (0 + len) * 1 ≤ 140737488355328 := by omega
  have hc3 : w0.heap.size ≤ (w0.alloc (Obj.cells #[] 5)).heap.size := (below_one w0 _).size
  have hown0 := World.ownsRow_lit (base := w0.heap.size) (e := 5) (size := 1) w0 #[] 0 (Nat.le_refl _) (Nat.zero_le _) rfl
  have hr0 := rx.below (below_one w0 (Obj.cells #[] 5)) (Nat.le_refl _)
  go_wp2_with (at_builtin; refine wpList_append_row _ rfl _ _ 30 rfl w0.heap.size 5 i0 (.int .u8 0) 1 Try.underlying30 hi0 hz0 hz1 hz2 rfl _ 0 [] rfl hown0 .u8 a len cap z rfl hr0 hc1 hc2 hc3 ?_)
  intro vo wo hown1 hgrow1
  have qq : Below w0.heap.size w0 wo := (below_one w0 (Obj.cells #[] 5)).grown hgrow1 (by simp) (fun k hk => by simp [Value.ownBlock] at hk; omega)
  have hown1' : wo.ownsRow w0.heap.size 5 1 vo len (z.map (Value.int .u8)) := by simpa using hown1
  obtain ⟨ao, co, rfl, ro⟩ := row_of_owns hown1'
  clear hown1 hown1' hown0 hr0 hgrow1
  replace gb := gb.below qq (Nat.le_refl _)
  replace rx := rx.below qq (Nat.le_refl _)
  replace q1 := btrans q1 qq
  clear qq
  have gb_ := gb
  obtain ⟨_, c0, c1, c2, c3, c4⟩ := gb_
  go_wp2_with fail
  clear c0 c1 c2 c3 c4
  refine (hParse_yes G _ _ _ _ ro hz hrd).mono ?_
  rintro e w1 ⟨rfl, qq⟩
  replace gb := gb.below qq (Nat.le_refl _)
  replace rx := rx.below qq (Nat.le_refl _)
  replace ro := ro.below qq (Nat.le_refl _)
  replace q1 := btrans q1 qq
  clear qq
  have k1 := conv_row (P := Try.prog) Try.underlying30 Try.underlying5 Try.underlying9 (ro.below (below_one w1 (.cells #[.int .i64 (numAt z 4), .int .i64 (numAt z 8), .int .i64 (numAt z 12)] 25)) (Nat.le_refl _))
  have k2 := conv_row (P := Try.prog) Try.underlying30 Try.underlying5 Try.underlying9 (rx.below (below_one w1 (.cells #[.int .i64 (numAt z 4), .int .i64 (numAt z 8), .int .i64 (numAt z 12)] 25)) (Nat.le_refl _))
  have qq := below_one w1 (.cells #[.int .i64 (numAt z 4), .int .i64 (numAt z 8), .int .i64 (numAt z 12)] 25)
  have hx := hbox_new w1 25 (numAt z 4) (numAt z 8) (numAt z 12)
  replace gb := gb.below qq (Nat.le_refl _)
  replace rx := rx.below qq (Nat.le_refl _)
  replace ro := ro.below qq (Nat.le_refl _)
  replace q1 := btrans q1 qq
  clear qq
  have gb_ := gb
  obtain ⟨_, c0, c1, c2, c3, c4⟩ := gb_
  have hx_ := hx
  obtain ⟨_, hxd0, hxd1, hxd2⟩ := hx_
  go_wp2_with fail
  clear c0 c1 c2 c3 c4
  clear hxd0 hxd1 hxd2
  generalize w1.alloc (.cells #[.int .i64 (numAt z 4), .int .i64 (numAt z 8), .int .i64 (numAt z 12)] 25) = w2 at *
  generalize w1.heap.size = hxB at *
  clear k1 k2
  refine (refMay_any b p s n f _).mono ?_
  rintro e w3 ⟨rfl, qq⟩
  replace gb := gb.below qq (Nat.le_refl _)
  replace rx := rx.below qq (Nat.le_refl _)
  replace ro := ro.below qq (Nat.le_refl _)
  replace hx := hx.below qq (Nat.le_refl _)
  replace q1 := btrans q1 qq
  clear qq
  rw [hm]
  have gb_ := gb
  obtain ⟨_, c0, c1, c2, c3, c4⟩ := gb_
  have hx_ := hx
  obtain ⟨_, hxd0, hxd1, hxd2⟩ := hx_
  go_wp2_with fail
  clear c0 c1 c2 c3 c4
  clear hxd0 hxd1 hxd2
  refine (hroom _).mono ?_
  rintro e w4 ⟨rfl, qq⟩
  replace gb := gb.below qq (Nat.le_refl _)
  replace rx := rx.below qq (Nat.le_refl _)
  replace ro := ro.below qq (Nat.le_refl _)
  replace hx := hx.below qq (Nat.le_refl _)
  replace q1 := btrans q1 qq
  clear qq
  have gb_ := gb
  obtain ⟨_, c0, c1, c2, c3, c4⟩ := gb_
  have hx_ := hx
  obtain ⟨_, hxd0, hxd1, hxd2⟩ := hx_
  go_wp2_with fail
  clear c0 c1 c2 c3 c4
  clear hxd0 hxd1 hxd2
  refine (refParse9_yes G _ _ _ _ rx hz hrd).mono ?_
  rintro e w5 ⟨rfl, qq⟩
  replace gb := gb.below qq (Nat.le_refl _)
  replace rx := rx.below qq (Nat.le_refl _)
  replace ro := ro.below qq (Nat.le_refl _)
  replace hx := hx.below qq (Nat.le_refl _)
  replace q1 := btrans q1 qq
  clear qq
  have qq := below_one w5 (.cells #[.int .i64 (numAt z 4), .int .i64 (numAt z 8), .int .i64 (numAt z 12)] 25)
  have hy := hbox_new w5 25 (numAt z 4) (numAt z 8) (numAt z 12)
  replace gb := gb.below qq (Nat.le_refl _)
  replace rx := rx.below qq (Nat.le_refl _)
  replace ro := ro.below qq (Nat.le_refl _)
  replace hx := hx.below qq (Nat.le_refl _)
  replace q1 := btrans q1 qq
  clear qq
  have gb_ := gb
  obtain ⟨_, c0, c1, c2, c3, c4⟩ := gb_
  have hx_ := hx
  obtain ⟨_, hxd0, hxd1, hxd2⟩ := hx_
  have hy_ := hy
  obtain ⟨_, hyd0, hyd1, hyd2⟩ := hy_
  go_wp2_with fail
  clear c0 c1 c2 c3 c4
  clear hxd0 hxd1 hxd2
  clear hyd0 hyd1 hyd2
  generalize w5.alloc (.cells #[.int .i64 (numAt z 4), .int .i64 (numAt z 8), .int .i64 (numAt z 12)] 25) = w6 at *
  generalize w5.heap.size = hyB at *
  refine (awake9_any _).mono ?_
  rintro e w7 ⟨rfl, qq⟩
  replace gb := gb.below qq (Nat.le_refl _)
  replace rx := rx.below qq (Nat.le_refl _)
  replace ro := ro.below qq (Nat.le_refl _)
  replace hx := hx.below qq (Nat.le_refl _)
  replace hy := hy.below qq (Nat.le_refl _)
  replace q1 := btrans q1 qq
  clear qq
  have gb_ := gb
  obtain ⟨_, c0, c1, c2, c3, c4⟩ := gb_
  have hx_ := hx
  obtain ⟨_, hxd0, hxd1, hxd2⟩ := hx_
  have hy_ := hy
  obtain ⟨_, hyd0, hyd1, hyd2⟩ := hy_
  have he := headEq (numAt z 4) (numAt z 8) (numAt z 12) (numAt z 4) (numAt z 8) (numAt z 12)
  go_wp2_with fail
  go_ret
  exact ⟨rfl, q1⟩

end Go.Proofs.Ytefpmidjedfjmaa
