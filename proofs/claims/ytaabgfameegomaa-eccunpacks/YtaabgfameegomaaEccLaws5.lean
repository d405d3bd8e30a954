/-
  The walk of layer 6's law EccUnpacks, out of the code's contracts: it returns true; nothing old turns. (Written by tools/gen/ecc_law_unpacks.py.)
-/
import Derived.Test.YtaabgfameegomaaEccAwake
import Derived.Test.YtaabgfameegomaaEccRef3
namespace Go.Proofs.Ytaabgfameegomaa
open Go.RowKit
set_option linter.unusedVariables false
set_option maxRecDepth 8192

/-- Has one of the first i sectors an error? -/
def badTo (S : Nat → Sec) : Nat → Bool
  | 0 => false
  | i + 1 => badTo S i || !decide ((S i).e = 0)
theorem badTo_no {S : Nat → Sec} : ∀ {i : Nat}, badTo S i = false ↔ ∀ j, j < i → (S j).e = 0 := by
  intro i
  induction i with
  | zero => exact ⟨fun _ j hj => absurd hj (by omega), fun _ => rfl⟩
  | succ i ih =>
    simp only [badTo, Bool.or_eq_false_iff, Bool.not_eq_false', decide_eq_true_iff]
    rw [ih]
    constructor
    · rintro ⟨h1, h2⟩ j hj
      by_cases e : j = i
      · subst e; exact h2
      · exact h1 j (by omega)
    · intro h
      exact ⟨fun j hj => h j (by omega), h i (by omega)⟩
theorem badTo_yes {S : Nat → Sec} {i : Nat} (h : ∃ j, j < i ∧ (S j).e ≠ 0) : badTo S i = true := by
  obtain ⟨j, hj, hne⟩ := h
  rcases Bool.eq_false_or_eq_true (badTo S i) with hb | hb
  · exact hb
  · exact absurd (badTo_no.1 hb j hj) hne
theorem sec_unique {t : Nat} {x y : List Int} {c c' : Sec} (h8 : 13 * t + 8 * x.length ≤ 8191) (h : IsSec t x y c) (h' : IsSec t x y c') : c = c' := by
  obtain ⟨d, n, e⟩ := c
  obtain ⟨d', n', e'⟩ := c'
  rcases h with ⟨h0, k, hk⟩ | ⟨h0, h1, h2, hno⟩ <;> rcases h' with ⟨h0', k', hk'⟩ | ⟨h0', h1', h2', hno'⟩
  · obtain ⟨e1, _, e3⟩ := dec_unique h8 hk hk'
    simp only at h0 h0' e1 e3
    subst h0 h0' e1 e3
    rfl
  · exact absurd hk (hno' _ _ _)
  · exact absurd hk' (hno _ _ _)
  · simp only at h0 h1 h2 h0' h1' h2'
    subst h0 h1 h2 h0' h1' h2'
    rfl
theorem dataTo_congr {S S' : Nat → Sec} : ∀ {i : Nat}, (∀ j, j < i → S j = S' j) → dataTo S i = dataTo S' i ∧ mostTo S i = mostTo S' i := by
  intro i
  induction i with
  | zero => intro _; exact ⟨rfl, rfl⟩
  | succ i ih =>
    intro h
    obtain ⟨h1, h2⟩ := ih fun j hj => h j (by omega)
    simp only [dataTo, mostTo]
    rw [h1, h2, h i (by omega)]
    exact ⟨rfl, rfl⟩
/-- What Read tells, by the sectors that Unpack tells. -/
theorem eccRead_all (hB : HBitsC) {b p : Int} {s n f R m W L : Nat} (G : GOk b p s n f R m W L) (a : Option Addr) (cap : Nat) (z : List Int) (w : World) (rz : Row .u8 w a L cap z) (bz : IsB z) (hD : HDecC) (hmk : z[L - 1]?.getD 0 = 0) (S : Nat → Sec) (hS : ∀ j, j < s → IsSec f (part z (j * W) n) (part z (j * W + n) m) (S j)) :
    Calls Try.prog 20 #[.agg #[.int .i64 b, .int .i64 p, .int .i64 ((s : Nat)), .int .i64 ((n : Nat)), .int .i64 ((f : Nat))], .slice a L cap] w fun e w' => ∃ (ad : Option Addr) (ld cd : Nat) (mn me : Int), ((badTo S s = true ∧ ld = 0 ∧ mn = 0 ∧ me = 50) ∨ (badTo S s = false ∧ me = 0 ∧ mn = (mostTo S s : Nat) ∧ ld = R ∧ Row .u8 w' ad R cd (dataTo S s))) ∧ e = .returned (.tuple #[.slice ad ld cd, .int .i64 mn, .int .i64 me]) ∧ Below w.heap.size w w' := by
  have hzl := rz.hlen
  refine (eccRead_yes hB G a cap z w rz bz hD hmk).mono ?_
  rintro e w1 ⟨S', hS', h⟩
  have hE : ∀ j, j < s → S j = S' j := fun j hj => sec_unique (by
    have h1 := G.at_ hj
    have h2 := G.hW
    have h3 := G.hn
    have h4 := G.hf
    rw [length_part (by omega)]
    omega) (hS j hj) (hS' j hj)
  rcases h with ⟨⟨j, hj, hne⟩, rfl, q⟩ | ⟨hok, ao, co, rfl, r, q⟩
  · exact ⟨none, 0, 0, 0, 50, .inl ⟨badTo_yes ⟨j, hj, by rw [hE j hj]; exact hne⟩, rfl, rfl, rfl⟩, rfl, q⟩
  · obtain ⟨h1, h2⟩ := dataTo_congr hE
    exact ⟨ao, R, co, _, 0, .inr ⟨badTo_no.2 fun j hj => by rw [hE j hj]; exact hok j hj, rfl, by rw [h2], rfl, by rw [h1]; exact r⟩, rfl, q⟩

set_option maxHeartbeats 12800000 in
set_option maxRecDepth 100000 in
theorem walk_eccUnpacks (hB : HBitsC) (hE : HEncC) (hD : HDecC) (b p s n f : Int) (a : Option Addr) (len cap : Nat) (x : List Int) (w : World) (rx : Row .u8 w a len cap x) (bx : IsB x) :
    Calls Try.prog 4 #[.agg #[.int .i64 b, .int .i64 p, .int .i64 s, .int .i64 n, .int .i64 f], .slice a len cap] w fun e w' => e = .returned (.bool true) ∧ Below w.heap.size w w' := by
  have hmaxl : len ≤ maxLen := Nat.le_trans rx.hcap rx.hmax
  obtain ⟨i0, hi0, hz0, hz1, hz2⟩ := info_parts Try.info5
  cases hsm : small6 b p s n f
  case false =>
    go_enter Try.func4, Try.ntmps4
    go_wp2_with fail
    have gb := gbox_new w 23 b p s n f
    have q1 := below_one w (.cells #[.int .i64 b, .int .i64 p, .int .i64 s, .int .i64 n, .int .i64 f] 23)
    generalize w.alloc (.cells #[.int .i64 b, .int .i64 p, .int .i64 s, .int .i64 n, .int .i64 f] 23) = w0 at *
    generalize hgg : w.heap.size = g at gb
    replace rx := rx.below q1 (Nat.le_refl _)
    refine (small6_any b p s n f _).mono ?_
    rintro e w1 ⟨rfl, qq⟩
    replace gb := gb.below qq (Nat.le_refl _)
    replace rx := rx.below qq (Nat.le_refl _)
    replace q1 := btrans q1 qq
    clear qq
    rw [hsm]
    go_wp2_with fail
    go_ret
    exact ⟨rfl, q1⟩
  by_cases hl : 400 < len
  case pos =>
    have hl1 : (400 : Int) < (len : Int) := by omega
    go_enter Try.func4, Try.ntmps4
    go_wp2_with fail
    have gb := gbox_new w 23 b p s n f
    have q1 := below_one w (.cells #[.int .i64 b, .int .i64 p, .int .i64 s, .int .i64 n, .int .i64 f] 23)
    generalize w.alloc (.cells #[.int .i64 b, .int .i64 p, .int .i64 s, .int .i64 n, .int .i64 f] 23) = w0 at *
    generalize hgg : w.heap.size = g at gb
    replace rx := rx.below q1 (Nat.le_refl _)
    refine (small6_any b p s n f _).mono ?_
    rintro e w1 ⟨rfl, qq⟩
    replace gb := gb.below qq (Nat.le_refl _)
    replace rx := rx.below qq (Nat.le_refl _)
    replace q1 := btrans q1 qq
    clear qq
    rw [hsm]
    go_wp2_with fail
    go_ret
    exact ⟨rfl, q1⟩
  have hl1 : ¬ (400 : Int) < (len : Int) := by omega
  cases hmy : mayG b p s n f
  case false =>
    go_enter Try.func4, Try.ntmps4
    go_wp2_with fail
    have gb := gbox_new w 23 b p s n f
    have q1 := below_one w (.cells #[.int .i64 b, .int .i64 p, .int .i64 s, .int .i64 n, .int .i64 f] 23)
    generalize w.alloc (.cells #[.int .i64 b, .int .i64 p, .int .i64 s, .int .i64 n, .int .i64 f] 23) = w0 at *
    generalize hgg : w.heap.size = g at gb
    replace rx := rx.below q1 (Nat.le_refl _)
    refine (small6_any b p s n f _).mono ?_
    rintro e w1 ⟨rfl, qq⟩
    replace gb := gb.below qq (Nat.le_refl _)
    replace rx := rx.below qq (Nat.le_refl _)
    replace q1 := btrans q1 qq
    clear qq
    rw [hsm]
    have hown0 := World.ownsRow_lit (base := w1.heap.size) (e := 5) (size := 1) w1 #[] 0 (Nat.le_refl _) (Nat.zero_le _) rfl
    have hr0 := rx.below (below_one w1 (Obj.cells #[] 5)) (Nat.le_refl _)
    go_wp2_with (at_builtin; refine wpList_append_row _ rfl _ _ 24 rfl w1.heap.size 5 i0 (.int .u8 0) 1 Try.underlying24 hi0 hz0 hz1 hz2 rfl _ 0 [] rfl hown0 .u8 a len cap x rfl hr0 ?c1 ?c2 ?c3 ?_)
    case c1 => omega
    case c2 => omega
    case c3 => simp
    intro v w2 hown1 hgrow1
    have qq : Below w1.heap.size w1 w2 := (below_one w1 (Obj.cells #[] 5)).grown hgrow1 (by simp) (fun k hk => by simp [Value.ownBlock] at hk; omega)
    have hown1' : w2.ownsRow w1.heap.size 5 1 v len (x.map (Value.int .u8)) := by simpa using hown1
    obtain ⟨ao, capo, rfl, ro⟩ := row_of_owns hown1'
    clear hown1 hown1' hown0 hr0 hgrow1
    replace gb := gb.below qq (Nat.le_refl _)
    replace rx := rx.below qq (Nat.le_refl _)
    replace q1 := btrans q1 qq
    clear qq
    have gb_ := gb
    obtain ⟨_, c0, c1, c2, c3, c4⟩ := gb_
    go_wp2_with fail
    clear c0 c1 c2 c3 c4
    refine (eccUnpack_no b p s n f _ _ _ _ hmy).mono ?_
    rintro e w3 ⟨rfl, qq⟩
    replace gb := gb.below qq (Nat.le_refl _)
    replace rx := rx.below qq (Nat.le_refl _)
    replace ro := ro.below qq (Nat.le_refl _)
    replace q1 := btrans q1 qq
    clear qq
    have gb_ := gb
    obtain ⟨_, c0, c1, c2, c3, c4⟩ := gb_
    go_wp2_with fail
    clear c0 c1 c2 c3 c4
    refine (eccRead_err b p s n f _ _ _ _ 1 (by decide) (fun w1 q => eccUnpack_no b p s n f _ _ _ w1 hmy)).mono ?_
    rintro e w4 ⟨rfl, qq⟩
    replace gb := gb.below qq (Nat.le_refl _)
    replace rx := rx.below qq (Nat.le_refl _)
    replace ro := ro.below qq (Nat.le_refl _)
    replace q1 := btrans q1 qq
    clear qq
    have hco := conv_row Try.underlying24 Try.underlying5 Try.underlying9 ro
    have hcx := conv_row Try.underlying24 Try.underlying5 Try.underlying9 rx
    have gb_ := gb
    obtain ⟨_, c0, c1, c2, c3, c4⟩ := gb_
    go_wp2_with fail
    clear c0 c1 c2 c3 c4
    refine (refMay_any b p s n f _).mono ?_
    rintro e w5 ⟨rfl, qq⟩
    replace gb := gb.below qq (Nat.le_refl _)
    replace rx := rx.below qq (Nat.le_refl _)
    replace ro := ro.below qq (Nat.le_refl _)
    replace q1 := btrans q1 qq
    clear qq
    clear hco hcx
    rw [hmy]
    go_wp2_with fail
    refine (awake6_any hB hE hD _).mono ?_
    rintro e w6 ⟨rfl, qq⟩
    replace gb := gb.below qq (Nat.le_refl _)
    replace rx := rx.below qq (Nat.le_refl _)
    replace ro := ro.below qq (Nat.le_refl _)
    replace q1 := btrans q1 qq
    clear qq
    go_wp2_with fail
    go_ret
    exact ⟨rfl, q1⟩
  obtain ⟨s, n, f, R, m, W, L, rfl, rfl, rfl, G⟩ := gok_ex hmy (small6_may hsm hmy)
  have hraw := refRaw_any G
  have hR1 := G.hR1
  have hL2 := G.L2
  have hs2 := G.hs
  have hf2 := G.hf
  have hn2 := G.hn
  by_cases hR : len = L
  case neg =>
    have hq : (((len : Nat) : Int) != (L : Int)) = true := by simp; omega
    go_enter Try.func4, Try.ntmps4
    go_wp2_with fail
    have gb := gbox_new w 23 b p s n f
    have q1 := below_one w (.cells #[.int .i64 b, .int .i64 p, .int .i64 s, .int .i64 n, .int .i64 f] 23)
    generalize w.alloc (.cells #[.int .i64 b, .int .i64 p, .int .i64 s, .int .i64 n, .int .i64 f] 23) = w0 at *
    generalize hgg : w.heap.size = g at gb
    replace rx := rx.below q1 (Nat.le_refl _)
    refine (small6_any b p s n f _).mono ?_
    rintro e w1 ⟨rfl, qq⟩
    replace gb := gb.below qq (Nat.le_refl _)
    replace rx := rx.below qq (Nat.le_refl _)
    replace q1 := btrans q1 qq
    clear qq
    rw [hsm]
    have hown0 := World.ownsRow_lit (base := w1.heap.size) (e := 5) (size := 1) w1 #[] 0 (Nat.le_refl _) (Nat.zero_le _) rfl
    have hr0 := rx.below (below_one w1 (Obj.cells #[] 5)) (Nat.le_refl _)
    go_wp2_with (at_builtin; refine wpList_append_row _ rfl _ _ 24 rfl w1.heap.size 5 i0 (.int .u8 0) 1 Try.underlying24 hi0 hz0 hz1 hz2 rfl _ 0 [] rfl hown0 .u8 a len cap x rfl hr0 ?c1 ?c2 ?c3 ?_)
    case c1 => omega
    case c2 => omega
    case c3 => simp
    intro v w2 hown1 hgrow1
    have qq : Below w1.heap.size w1 w2 := (below_one w1 (Obj.cells #[] 5)).grown hgrow1 (by simp) (fun k hk => by simp [Value.ownBlock] at hk; omega)
    have hown1' : w2.ownsRow w1.heap.size 5 1 v len (x.map (Value.int .u8)) := by simpa using hown1
    obtain ⟨ao, capo, rfl, ro⟩ := row_of_owns hown1'
    clear hown1 hown1' hown0 hr0 hgrow1
    replace gb := gb.below qq (Nat.le_refl _)
    replace rx := rx.below qq (Nat.le_refl _)
    replace q1 := btrans q1 qq
    clear qq
    have gb_ := gb
    obtain ⟨_, c0, c1, c2, c3, c4⟩ := gb_
    go_wp2_with fail
    clear c0 c1 c2 c3 c4
    refine (eccUnpack_len hB G _ _ _ _ hR).mono ?_
    rintro e w3 ⟨rfl, qq⟩
    replace gb := gb.below qq (Nat.le_refl _)
    replace rx := rx.below qq (Nat.le_refl _)
    replace ro := ro.below qq (Nat.le_refl _)
    replace q1 := btrans q1 qq
    clear qq
    have gb_ := gb
    obtain ⟨_, c0, c1, c2, c3, c4⟩ := gb_
    go_wp2_with fail
    clear c0 c1 c2 c3 c4
    refine (eccRead_err b p s n f _ _ _ _ 1 (by decide) (fun w1 q => eccUnpack_len hB G _ _ _ w1 hR)).mono ?_
    rintro e w4 ⟨rfl, qq⟩
    replace gb := gb.below qq (Nat.le_refl _)
    replace rx := rx.below qq (Nat.le_refl _)
    replace ro := ro.below qq (Nat.le_refl _)
    replace q1 := btrans q1 qq
    clear qq
    have hco := conv_row Try.underlying24 Try.underlying5 Try.underlying9 ro
    have hcx := conv_row Try.underlying24 Try.underlying5 Try.underlying9 rx
    have gb_ := gb
    obtain ⟨_, c0, c1, c2, c3, c4⟩ := gb_
    go_wp2_with fail
    clear c0 c1 c2 c3 c4
    refine (refMay_any b p s n f _).mono ?_
    rintro e w5 ⟨rfl, qq⟩
    replace gb := gb.below qq (Nat.le_refl _)
    replace rx := rx.below qq (Nat.le_refl _)
    replace ro := ro.below qq (Nat.le_refl _)
    replace q1 := btrans q1 qq
    clear qq
    clear hco hcx
    rw [hmy]
    have gb_ := gb
    obtain ⟨_, c0, c1, c2, c3, c4⟩ := gb_
    go_wp2_with fail
    clear c0 c1 c2 c3 c4
    refine (hraw _).mono ?_
    rintro e w6 ⟨rfl, qq⟩
    replace gb := gb.below qq (Nat.le_refl _)
    replace rx := rx.below qq (Nat.le_refl _)
    replace ro := ro.below qq (Nat.le_refl _)
    replace q1 := btrans q1 qq
    clear qq
    go_wp2_with fail
    refine (awake6_any hB hE hD _).mono ?_
    rintro e w7 ⟨rfl, qq⟩
    replace gb := gb.below qq (Nat.le_refl _)
    replace rx := rx.below qq (Nat.le_refl _)
    replace ro := ro.below qq (Nat.le_refl _)
    replace q1 := btrans q1 qq
    clear qq
    go_wp2_with fail
    go_ret
    exact ⟨rfl, q1⟩
  subst hR
  by_cases hmk : x[len - 1]?.getD 0 = 0
  case neg =>
    obtain ⟨er, HER⟩ : ∃ er : Int, Hid (er = if x[len - 1]?.getD 0 = 255 ∧ blankTo f x W s = true then 61 else 60) := ⟨_, rfl⟩
    have HER2 : Hid (er = if x[len - 1]?.getD 0 = 0 then 0 else if x[len - 1]?.getD 0 = 255 ∧ blankTo f x W s = true then 61 else 60) := by show _ = _; rw [if_neg hmk]; exact HER.out
    have her : er ≠ 0 := by have := HER.out; split at this <;> omega
    have hne : (er != 0) = true := by simpa using her
    have hnb : (er == 0) = false := by simpa using her
    go_enter Try.func4, Try.ntmps4
    go_wp2_with fail
    have gb := gbox_new w 23 b p s n f
    have q1 := below_one w (.cells #[.int .i64 b, .int .i64 p, .int .i64 s, .int .i64 n, .int .i64 f] 23)
    generalize w.alloc (.cells #[.int .i64 b, .int .i64 p, .int .i64 s, .int .i64 n, .int .i64 f] 23) = w0 at *
    generalize hgg : w.heap.size = g at gb
    replace rx := rx.below q1 (Nat.le_refl _)
    refine (small6_any b p s n f _).mono ?_
    rintro e w1 ⟨rfl, qq⟩
    replace gb := gb.below qq (Nat.le_refl _)
    replace rx := rx.below qq (Nat.le_refl _)
    replace q1 := btrans q1 qq
    clear qq
    rw [hsm]
    have hown0 := World.ownsRow_lit (base := w1.heap.size) (e := 5) (size := 1) w1 #[] 0 (Nat.le_refl _) (Nat.zero_le _) rfl
    have hr0 := rx.below (below_one w1 (Obj.cells #[] 5)) (Nat.le_refl _)
    go_wp2_with (at_builtin; refine wpList_append_row _ rfl _ _ 24 rfl w1.heap.size 5 i0 (.int .u8 0) 1 Try.underlying24 hi0 hz0 hz1 hz2 rfl _ 0 [] rfl hown0 .u8 a len cap x rfl hr0 ?c1 ?c2 ?c3 ?_)
    case c1 => omega
    case c2 => omega
    case c3 => simp
    intro v w2 hown1 hgrow1
    have qq : Below w1.heap.size w1 w2 := (below_one w1 (Obj.cells #[] 5)).grown hgrow1 (by simp) (fun k hk => by simp [Value.ownBlock] at hk; omega)
    have hown1' : w2.ownsRow w1.heap.size 5 1 v len (x.map (Value.int .u8)) := by simpa using hown1
    obtain ⟨ao, capo, rfl, ro⟩ := row_of_owns hown1'
    clear hown1 hown1' hown0 hr0 hgrow1
    replace gb := gb.below qq (Nat.le_refl _)
    replace rx := rx.below qq (Nat.le_refl _)
    replace q1 := btrans q1 qq
    clear qq
    have gb_ := gb
    obtain ⟨_, c0, c1, c2, c3, c4⟩ := gb_
    go_wp2_with fail
    clear c0 c1 c2 c3 c4
    refine (eccUnpack_mark hB G _ _ x _ ro bx hmk er HER).mono ?_
    rintro e w3 ⟨rfl, qq⟩
    replace gb := gb.below qq (Nat.le_refl _)
    replace rx := rx.below qq (Nat.le_refl _)
    replace ro := ro.below qq (Nat.le_refl _)
    replace q1 := btrans q1 qq
    clear qq
    have gb_ := gb
    obtain ⟨_, c0, c1, c2, c3, c4⟩ := gb_
    go_wp2_with fail
    clear c0 c1 c2 c3 c4
    refine (eccRead_err b p s n f _ _ _ _ er her (fun w1 q => eccUnpack_mark hB G _ _ x w1 (ro.below q (Nat.le_refl _)) bx hmk er HER)).mono ?_
    rintro e w4 ⟨rfl, qq⟩
    replace gb := gb.below qq (Nat.le_refl _)
    replace rx := rx.below qq (Nat.le_refl _)
    replace ro := ro.below qq (Nat.le_refl _)
    replace q1 := btrans q1 qq
    clear qq
    have hco := conv_row Try.underlying24 Try.underlying5 Try.underlying9 ro
    have hcx := conv_row Try.underlying24 Try.underlying5 Try.underlying9 rx
    have gb_ := gb
    obtain ⟨_, c0, c1, c2, c3, c4⟩ := gb_
    go_wp2_with fail
    clear c0 c1 c2 c3 c4
    refine (refMay_any b p s n f _).mono ?_
    rintro e w5 ⟨rfl, qq⟩
    replace gb := gb.below qq (Nat.le_refl _)
    replace rx := rx.below qq (Nat.le_refl _)
    replace ro := ro.below qq (Nat.le_refl _)
    replace q1 := btrans q1 qq
    clear qq
    clear hco hcx
    rw [hmy]
    have gb_ := gb
    obtain ⟨_, c0, c1, c2, c3, c4⟩ := gb_
    go_wp2_with fail
    clear c0 c1 c2 c3 c4
    refine (hraw _).mono ?_
    rintro e w6 ⟨rfl, qq⟩
    replace gb := gb.below qq (Nat.le_refl _)
    replace rx := rx.below qq (Nat.le_refl _)
    replace ro := ro.below qq (Nat.le_refl _)
    replace q1 := btrans q1 qq
    clear qq
    have gb_ := gb
    obtain ⟨_, c0, c1, c2, c3, c4⟩ := gb_
    go_wp2_with fail
    clear c0 c1 c2 c3 c4
    refine (refMarked_any G _ _ x _ rx bx er HER2).mono ?_
    rintro e w7 ⟨rfl, qq⟩
    replace gb := gb.below qq (Nat.le_refl _)
    replace rx := rx.below qq (Nat.le_refl _)
    replace ro := ro.below qq (Nat.le_refl _)
    replace q1 := btrans q1 qq
    clear qq
    go_wp2_with fail
    refine (awake6_any hB hE hD _).mono ?_
    rintro e w8 ⟨rfl, qq⟩
    replace gb := gb.below qq (Nat.le_refl _)
    replace rx := rx.below qq (Nat.le_refl _)
    replace ro := ro.below qq (Nat.le_refl _)
    replace q1 := btrans q1 qq
    clear qq
    go_wp2_with fail
    go_ret
    exact ⟨rfl, q1⟩
  have HER2 : Hid ((0 : Int) = if x[len - 1]?.getD 0 = 0 then 0 else if x[len - 1]?.getD 0 = 255 ∧ blankTo f x W s = true then 61 else 60) := by show _ = _; rw [if_pos hmk]
  have HXL : Hid (x.length = len) := rx.hlen
  have HAT : Hid (∀ i, i < s → i * W + W + 1 ≤ len) := fun i hi => G.at_ hi
  have HW : Hid (n + m = W) := G.hW
  go_enter Try.func4, Try.ntmps4
  go_wp2_with fail
  have gb := gbox_new w 23 b p s n f
  have q1 := below_one w (.cells #[.int .i64 b, .int .i64 p, .int .i64 s, .int .i64 n, .int .i64 f] 23)
  generalize w.alloc (.cells #[.int .i64 b, .int .i64 p, .int .i64 s, .int .i64 n, .int .i64 f] 23) = w0 at *
  generalize hgg : w.heap.size = g at gb
  replace rx := rx.below q1 (Nat.le_refl _)
  refine (small6_any b p s n f _).mono ?_
  rintro e w1 ⟨rfl, qq⟩
  replace gb := gb.below qq (Nat.le_refl _)
  replace rx := rx.below qq (Nat.le_refl _)
  replace q1 := btrans q1 qq
  clear qq
  rw [hsm]
  have hown0 := World.ownsRow_lit (base := w1.heap.size) (e := 5) (size := 1) w1 #[] 0 (Nat.le_refl _) (Nat.zero_le _) rfl
  have hr0 := rx.below (below_one w1 (Obj.cells #[] 5)) (Nat.le_refl _)
  go_wp2_with (at_builtin; refine wpList_append_row _ rfl _ _ 24 rfl w1.heap.size 5 i0 (.int .u8 0) 1 Try.underlying24 hi0 hz0 hz1 hz2 rfl _ 0 [] rfl hown0 .u8 a len cap x rfl hr0 ?c1 ?c2 ?c3 ?_)
  case c1 => omega
  case c2 => omega
  case c3 => simp
  intro v w2 hown1 hgrow1
  have qq : Below w1.heap.size w1 w2 := (below_one w1 (Obj.cells #[] 5)).grown hgrow1 (by simp) (fun k hk => by simp [Value.ownBlock] at hk; omega)
  have hown1' : w2.ownsRow w1.heap.size 5 1 v len (x.map (Value.int .u8)) := by simpa using hown1
  obtain ⟨ao, capo, rfl, ro⟩ := row_of_owns hown1'
  clear hown1 hown1' hown0 hr0 hgrow1
  replace gb := gb.below qq (Nat.le_refl _)
  replace rx := rx.below qq (Nat.le_refl _)
  replace q1 := btrans q1 qq
  clear qq
  have gb_ := gb
  obtain ⟨_, c0, c1, c2, c3, c4⟩ := gb_
  go_wp2_with fail
  clear c0 c1 c2 c3 c4
  refine (eccUnpack_yes hB G _ _ x _ ro bx hD hmk).mono ?_
  rintro e w3 ⟨S, gs, hS, hgs, rfl, hSA, qq⟩
  have HS : Hid (∀ j, j < s → IsSec f (part x (j * W) n) (part x (j * W + n) m) (S j)) := hS
  have HSA : Hid (∀ j, j < s → SecAt w3 gs j (S j)) := hSA
  have hrd := fun (w1 : World) (r : Row .u8 w1 _ len _ x) => eccRead_all hB G ao capo x w1 r bx hD hmk S hS
  clear hS hSA hgs
  replace gb := gb.below qq (Nat.le_refl _)
  replace rx := rx.below qq (Nat.le_refl _)
  replace ro := ro.below qq (Nat.le_refl _)
  replace q1 := btrans q1 qq
  clear qq
  have gb_ := gb
  obtain ⟨_, c0, c1, c2, c3, c4⟩ := gb_
  go_wp2_with fail
  clear c0 c1 c2 c3 c4
  refine (hrd _ ro).mono ?_
  rintro e w4 ⟨ad, ld, cd, mn, me, hcase, rfl, qq⟩
  clear hrd
  have HCS : Hid (∀ w5 : World, Below w4.heap.size w4 w5 → ((badTo S s = true ∧ ld = 0 ∧ mn = 0 ∧ me = 50) ∨ (badTo S s = false ∧ me = 0 ∧ mn = (mostTo S s : Nat) ∧ ld = R ∧ Row .u8 w5 ad R cd (dataTo S s)))) := fun w5 q5 => by
    rcases hcase with h | ⟨h1, h2, h3, h4, h5⟩
    · exact .inl h
    · exact .inr ⟨h1, h2, h3, h4, h5.below q5 (Nat.le_refl _)⟩
  clear hcase
  have HSA4 : Hid (∀ j, j < s → SecAt w4 gs j (S j)) := fun j hj => (HSA.out j hj).below qq (Nat.le_refl _)
  clear HSA
  replace gb := gb.below qq (Nat.le_refl _)
  replace rx := rx.below qq (Nat.le_refl _)
  replace ro := ro.below qq (Nat.le_refl _)
  replace q1 := btrans q1 qq
  clear qq
  have q4 := Below.refl w4.heap.size w4
  have hco := conv_row Try.underlying24 Try.underlying5 Try.underlying9 ro
  have hcx := conv_row Try.underlying24 Try.underlying5 Try.underlying9 rx
  have gb_ := gb
  obtain ⟨_, c0, c1, c2, c3, c4⟩ := gb_
  go_wp2_with fail
  clear c0 c1 c2 c3 c4
  refine (refMay_any b p s n f _).mono ?_
  rintro e w5 ⟨rfl, qq⟩
  replace gb := gb.below qq (Nat.le_refl _)
  replace rx := rx.below qq (Nat.le_refl _)
  replace ro := ro.below qq (Nat.le_refl _)
  replace q1 := btrans q1 qq
  replace q4 := btrans q4 qq
  clear qq
  clear hco hcx
  rw [hmy]
  have gb_ := gb
  obtain ⟨_, c0, c1, c2, c3, c4⟩ := gb_
  go_wp2_with fail
  clear c0 c1 c2 c3 c4
  refine (hraw _).mono ?_
  rintro e w6 ⟨rfl, qq⟩
  replace gb := gb.below qq (Nat.le_refl _)
  replace rx := rx.below qq (Nat.le_refl _)
  replace ro := ro.below qq (Nat.le_refl _)
  replace q1 := btrans q1 qq
  replace q4 := btrans q4 qq
  clear qq
  have gb_ := gb
  obtain ⟨_, c0, c1, c2, c3, c4⟩ := gb_
  go_wp2_with fail
  clear c0 c1 c2 c3 c4
  refine (refMarked_any G _ _ x _ rx bx 0 HER2).mono ?_
  rintro e w7 ⟨rfl, qq⟩
  replace gb := gb.below qq (Nat.le_refl _)
  replace rx := rx.below qq (Nat.le_refl _)
  replace ro := ro.below qq (Nat.le_refl _)
  replace q1 := btrans q1 qq
  replace q4 := btrans q4 qq
  clear qq
  have HSK : Hid (∀ j, j < s → SecAt w7 gs j (S j)) := fun j hj => (HSA4.out j hj).below q4 (Nat.le_refl _)
  clear HSA4 ro hraw HER2
  have HNN : Hid (∀ j, j < s → (S j).d.length ≤ n ∧ (S j).n ≤ f ∧ ((S j).e ≠ 0 → (S j).e = 50 ∧ (S j).d = [] ∧ (S j).n = 0)) := fun j hj => by
    rcases HS.out j hj with ⟨h0, k, hk⟩ | ⟨h0, h1, h2, _⟩
    · refine ⟨?_, hk.near, fun h => absurd h0 h⟩
      rw [hk.ld, length_part (by rw [HXL.out]; have := HAT.out j hj; have := HW.out; omega)]
      exact Nat.le_refl _
    · exact ⟨by rw [h1]; exact Nat.zero_le _, by omega, fun _ => ⟨h0, h1, h2⟩⟩
  have gb_ := gb
  obtain ⟨_, c0, c1, c2, c3, c4⟩ := gb_
  go_wp2_with fail
  clear c0 c1 c2 c3 c4
  have own := World.ownsRow_nil w7 w7.heap.size 5 1
  generalize hgx : w7.heap.size = B at *
  go_loopw [12, 13, 14, 15] (fun v mo bd y wr => ∃ i : Nat, i ≤ s ∧ y = .int .i64 i ∧ mo = .int .i64 (mostTo S i : Nat) ∧ bd = .bool (badTo S i) ∧ (dataTo S i).length ≤ i * n ∧ wr.ownsRow B 5 1 v (dataTo S i).length ((dataTo S i).map (Value.int .u8)) ∧ Below B w7 wr) (fun _ _ _ y _ => s - (intOf y).toNat)
  case atStart => exact ⟨0, Nat.zero_le _, rfl, rfl, rfl, Nat.zero_le _, own, by rw [← hgx]; exact Below.refl _ _⟩
  case round =>
    clear own
    obtain ⟨i, hi, rfl, rfl, rfl, hdl, own, qb⟩ := hrel
    have HDL : Hid ((dataTo S i).length ≤ i * n) := hdl
    clear hdl
    have hsz := qb.size
    rw [hgx] at hsz
    by_cases hlt : i < s
    case neg =>
      have e : i = s := by omega
      subst e
      have q5 := q4.trans (qb.mono (by rw [← hgx]; exact q4.size))
      have hQ1 : Below w.heap.size w wr := q1.trans (qb.mono (by rw [← hgx]; exact q1.size))
      rcases HCS.out wr q5 with ⟨h1, h2, h3, h4⟩ | ⟨h1, h2, h3, h4, rd⟩
      · subst h2 h3 h4
        rw [h1]
        go_wp2_with fail
        refine (awake6_any hB hE hD _).mono ?_
        rintro e w9 ⟨rfl, qq⟩
        go_wp2_with fail
        go_ret
        exact ⟨rfl, btrans hQ1 qq⟩
      · subst h2 h3 h4
        rw [h1]
        obtain ⟨av, cv, rfl, ra⟩ := row_of_owns own
        clear own
        go_wp2_with fail
        refine (awake6_any hB hE hD _).mono ?_
        rintro e w9 ⟨rfl, qq⟩
        replace ra := ra.below qq (Nat.le_refl _)
        replace rd := rd.below qq (Nat.le_refl _)
        have hca := conv_row Try.underlying24 Try.underlying5 Try.underlying9 ra
        have hcd := conv_row Try.underlying24 Try.underlying5 Try.underlying9 rd
        generalize (dataTo S i).length = ldd at *
        go_wp2_with fail
        go_ret
        exact ⟨rfl, btrans hQ1 qq⟩
    obtain ⟨hgl, a1, cp1, k0, k1, k2, r1⟩ := (HSK.out i hlt).below qb (by rw [hgx]; exact Nat.le_refl _)
    have gb1 := gb.below qb (by rw [hgx]; exact Nat.le_refl _)
    have rx1 := rx.below qb (by rw [hgx]; exact Nat.le_refl _)
    obtain ⟨hd1, hd2, hd3⟩ := HNN.out i hlt
    have HD3 : Hid ((S i).e ≠ 0 → (S i).e = 50 ∧ (S i).d = [] ∧ (S i).n = 0) := hd3
    clear hd3
    have hnear := fun (w1 : World) (r : Row .u8 w1 a len cap x) (r2 : Row .u8 w1 a1 (S i).d.length cp1 (S i).d) => refNear_any G hlt a cap x w1 r bx (S i) a1 cp1 r2 (HS.out i hlt)
    have hdn := HDL.out
    have hsn : i * n + n ≤ R := G.part hlt
    have HMO : Hid (mostTo S (i + 1) = max (mostTo S i) (S i).n) := rfl
    have HDT : Hid (dataTo S (i + 1) = dataTo S i ++ (S i).d) := rfl
    have HBT : Hid (badTo S (i + 1) = (badTo S i || !decide ((S i).e = 0))) := rfl
    have hmol : mostTo S i ≤ f := mostTo_le fun j hj => (HNN.out j (by omega)).2.1
    generalize hce : (S i).e = ce at *
    generalize hcn : (S i).n = cn at *
    have HCN : Hid ((S i).n = cn) := hcn
    generalize hcd : (S i).d = dd at *
    clear hce hcn hcd
    generalize hld : dd.length = ld1 at *
    have HLD1 : Hid (dd.length = ld1) := hld
    clear hld
    generalize hldd : (dataTo S i).length = ldd at *
    have HLDD : Hid ((dataTo S i).length = ldd) := hldd
    clear hldd
    generalize hmoo : mostTo S i = mo at *
    clear hmoo
    generalize hbd : badTo S i = bd at *
    clear hbd
    have hi1n : ldd + ld1 ≤ (i + 1) * n := by rw [Nat.add_mul, Nat.one_mul]; omega
    have HI1 : Hid (ldd + ld1 ≤ (i + 1) * n) := hi1n
    clear hi1n
    have hldb : ldd ≤ 64 := by omega
    clear hdn hsn
    have u5 : (i : Int) < (s : Int) := by omega
    have q1_ := q1
    have q1 := Below.refl wr.heap.size wr
    go_wp2_with fail
    refine held_begin (by kernel_rfl) ?_
    refine held_reads (rs := [0, 1, 2, 3, 4, 5, 6]) (fuel := 2) (by kernel_rfl) (fun c d v a w h => by cases d <;> exact h) (by kernel_rfl) (Since.drew _) (fun K hK => ?_)
    refine calm_do (.agg #[.int .i64 b, .int .i64 p, .int .i64 s, .int .i64 n, .int .i64 f]) rfl (by rfl) (fun w' hw' => ?_) ?_
    · have gb' := gb1.below hw' (Nat.le_refl _)
      obtain ⟨_, c0, c1, c2, c3, c4⟩ := gb'
      go_simp
    go_simp
    refine calm_move _ rfl (by rfl) rfl ?_
    go_simp
    refine calm_move _ rfl (by rfl) rfl ?_
    go_simp
    refine calm_move _ rfl (by rfl) rfl ?_
    go_simp
    refine calm_move _ rfl (by rfl) rfl ?_
    go_simp
    refine calm_do (.pointer (some ⟨gs, i * 3, none⟩)) rfl (by rfl) (fun w' hw' => ?_) ?_
    · skip
      go_simp
    go_simp
    refine calm_do (.agg #[.slice a1 ld1 cp1, .int .i64 (cn : Int), .int .i64 ce]) rfl (by rfl) (fun w' hw' => ?_) ?_
    · have kk0 := (Below.cell (w := wr) hw' (p := ⟨gs, i * 3, none⟩) hgl).trans k0
      have kk1 := (Below.cell (w := wr) hw' (p := ⟨gs, i * 3 + 1, none⟩) hgl).trans k1
      have kk2 := (Below.cell (w := wr) hw' (p := ⟨gs, i * 3 + 2, none⟩) hgl).trans k2
      go_simp
    go_simp
    refine calm_nil (hK.out _ ?_)
    clear hK K
    refine held_call (i := 7) (fuel := 1) (by kernel_rfl) rfl (by rfl) (fun K hK => ?_)
    go_simp
    have qd := Since.drew wr
    replace gb1 := gb1.below qd (Nat.le_refl _)
    replace rx1 := rx1.below qd (Nat.le_refl _)
    replace r1 := r1.below qd (Nat.le_refl _)
    replace q1 := btrans q1 qd
    clear qd
    refine (hnear _ rx1 r1).mono ?_
    rintro e w21 ⟨rfl, qq0⟩
    refine hK _ _ (Since.trans (Since.drew _) qq0) ?_
    have qq : Since _ _ := qq0
    clear hK K qq0
    replace gb1 := gb1.below qq (Nat.le_refl _)
    replace rx1 := rx1.below qq (Nat.le_refl _)
    replace r1 := r1.below qq (Nat.le_refl _)
    replace q1 := btrans q1 qq
    clear qq
    refine held_reads (rs := [8]) (fuel := 0) (by kernel_rfl) (fun c d v a w h => by cases d <;> exact h) (by kernel_rfl) (Since.refl _) (fun K hK => ?_)
    go_simp
    refine calm_do (.bool false) rfl (by rfl) (fun w' hw' => ?_) ?_
    · go_simp
    go_simp
    refine calm_nil (hK.out _ ?_)
    clear hK K
    refine wpAnyH_done (by kernel_rfl) ?_ _
    clear hnear
    have qn : Below wr.heap.size wr w21 := q1
    clear q1
    have q1 := q1_
    replace k0 := (Below.cell qn (p := ⟨gs, i * 3, none⟩) hgl).trans k0
    replace k1 := (Below.cell qn (p := ⟨gs, i * 3 + 1, none⟩) hgl).trans k1
    replace k2 := (Below.cell qn (p := ⟨gs, i * 3 + 2, none⟩) hgl).trans k2
    replace own := owns_below own qn
    replace qb := qb.trans (qn.mono hsz)
    have hsz2 := qb.size
    rw [hgx] at hsz2
    clear qn gb1 rx1
    cases bd
    case false =>
      by_cases he : ce = 0
      case pos =>
        have HB2 : Hid (badTo S (i + 1) = false) := by show _ = _; rw [HBT.out]; simp [he]
        subst he
        by_cases hmx : cn ≤ mo
        case pos =>
          have hmx1 : (cn : Int) ≤ (mo : Int) := by omega
          have HM2 : Hid (mostTo S (i + 1) = mo) := by show _ = _; rw [HMO.out]; omega
          go_wp2_with (at_builtin; refine wpList_append_row _ rfl _ _ 24 rfl B 5 i0 (.int .u8 0) 1 Try.underlying24 hi0 hz0 hz1 hz2 rfl _ _ _ rfl own .u8 a1 ld1 cp1 dd rfl r1 ?c1 ?c2 ?c3 ?_)
          case c1 => unfold maxLen; omega
          case c2 => omega
          intro v5 w5 own5 hgrow5
          have qb5 : Below B w7 w5 := qb.grown hgrow5 hsz2 (fun k hk => (own.lt k hk).1)
          have kk1 : w5.cell? ⟨gs, i * 3 + 1, none⟩ = some (.int .i64 (cn : Int)) := by
            obtain ⟨_, _, _, _, kz, _, _⟩ := (HSK.out i hlt).below qb5 (by rw [hgx]; exact Nat.le_refl _)
            rw [kz, HCN.out]
          clear hgrow5 own r1 k0 k1 k2 qb
          go_wp2_with fail
          go_roundw
          case rel => exact ⟨i + 1, by omega, by go_num, by rw [HM2.out]; first | done | (rw [if_pos (by omega)]) | (rw [if_neg (by omega)]), by rw [HB2.out], by rw [HDT.out, List.length_append, HLDD.out, HLD1.out]; exact HI1.out, by rw [HDT.out, List.length_append, HLDD.out, HLD1.out, List.map_append]; exact own5, qb5⟩
          case measure => simp [intOf]; omega
        have hmx1 : (mo : Int) ≤ (cn : Int) := by omega
        have HM2 : Hid (mostTo S (i + 1) = cn) := by show _ = _; rw [HMO.out]; omega
        go_wp2_with (at_builtin; refine wpList_append_row _ rfl _ _ 24 rfl B 5 i0 (.int .u8 0) 1 Try.underlying24 hi0 hz0 hz1 hz2 rfl _ _ _ rfl own .u8 a1 ld1 cp1 dd rfl r1 ?c1 ?c2 ?c3 ?_)
        case c1 => unfold maxLen; omega
        case c2 => omega
        intro v5 w5 own5 hgrow5
        have qb5 : Below B w7 w5 := qb.grown hgrow5 hsz2 (fun k hk => (own.lt k hk).1)
        have kk1 : w5.cell? ⟨gs, i * 3 + 1, none⟩ = some (.int .i64 (cn : Int)) := by
          obtain ⟨_, _, _, _, kz, _, _⟩ := (HSK.out i hlt).below qb5 (by rw [hgx]; exact Nat.le_refl _)
          rw [kz, HCN.out]
        clear hgrow5 own r1 k0 k1 k2 qb
        go_wp2_with fail
        go_roundw
        case rel => exact ⟨i + 1, by omega, by go_num, by rw [HM2.out]; first | done | (rw [if_pos (by omega)]) | (rw [if_neg (by omega)]), by rw [HB2.out], by rw [HDT.out, List.length_append, HLDD.out, HLD1.out]; exact HI1.out, by rw [HDT.out, List.length_append, HLDD.out, HLD1.out, List.map_append]; exact own5, qb5⟩
        case measure => simp [intOf]; omega
      have HB2 : Hid (badTo S (i + 1) = true) := by show _ = _; rw [HBT.out]; simp [he]
      have hx3 := HD3.out he
      have he1 := hx3.1
      have hmx : cn ≤ mo := by have := hx3.2.2; omega
      clear hx3 HD3
      subst he1
      have hmx1 : (cn : Int) ≤ (mo : Int) := by omega
      have HM2 : Hid (mostTo S (i + 1) = mo) := by show _ = _; rw [HMO.out]; omega
      go_wp2_with (at_builtin; refine wpList_append_row _ rfl _ _ 24 rfl B 5 i0 (.int .u8 0) 1 Try.underlying24 hi0 hz0 hz1 hz2 rfl _ _ _ rfl own .u8 a1 ld1 cp1 dd rfl r1 ?c1 ?c2 ?c3 ?_)
      case c1 => unfold maxLen; omega
      case c2 => omega
      intro v5 w5 own5 hgrow5
      have qb5 : Below B w7 w5 := qb.grown hgrow5 hsz2 (fun k hk => (own.lt k hk).1)
      have kk1 : w5.cell? ⟨gs, i * 3 + 1, none⟩ = some (.int .i64 (cn : Int)) := by
        obtain ⟨_, _, _, _, kz, _, _⟩ := (HSK.out i hlt).below qb5 (by rw [hgx]; exact Nat.le_refl _)
        rw [kz, HCN.out]
      clear hgrow5 own r1 k0 k1 k2 qb
      go_wp2_with fail
      go_roundw
      case rel => exact ⟨i + 1, by omega, by go_num, by rw [HM2.out]; first | done | (rw [if_pos (by omega)]) | (rw [if_neg (by omega)]), by rw [HB2.out], by rw [HDT.out, List.length_append, HLDD.out, HLD1.out]; exact HI1.out, by rw [HDT.out, List.length_append, HLDD.out, HLD1.out, List.map_append]; exact own5, qb5⟩
      case measure => simp [intOf]; omega
    case true =>
      by_cases he : ce = 0
      case pos =>
        have HB2 : Hid (badTo S (i + 1) = true) := by show _ = _; rw [HBT.out]; simp [he]
        subst he
        by_cases hmx : cn ≤ mo
        case pos =>
          have hmx1 : (cn : Int) ≤ (mo : Int) := by omega
          have HM2 : Hid (mostTo S (i + 1) = mo) := by show _ = _; rw [HMO.out]; omega
          go_wp2_with (at_builtin; refine wpList_append_row _ rfl _ _ 24 rfl B 5 i0 (.int .u8 0) 1 Try.underlying24 hi0 hz0 hz1 hz2 rfl _ _ _ rfl own .u8 a1 ld1 cp1 dd rfl r1 ?c1 ?c2 ?c3 ?_)
          case c1 => unfold maxLen; omega
          case c2 => omega
          intro v5 w5 own5 hgrow5
          have qb5 : Below B w7 w5 := qb.grown hgrow5 hsz2 (fun k hk => (own.lt k hk).1)
          have kk1 : w5.cell? ⟨gs, i * 3 + 1, none⟩ = some (.int .i64 (cn : Int)) := by
            obtain ⟨_, _, _, _, kz, _, _⟩ := (HSK.out i hlt).below qb5 (by rw [hgx]; exact Nat.le_refl _)
            rw [kz, HCN.out]
          clear hgrow5 own r1 k0 k1 k2 qb
          go_wp2_with fail
          go_roundw
          case rel => exact ⟨i + 1, by omega, by go_num, by rw [HM2.out]; first | done | (rw [if_pos (by omega)]) | (rw [if_neg (by omega)]), by rw [HB2.out], by rw [HDT.out, List.length_append, HLDD.out, HLD1.out]; exact HI1.out, by rw [HDT.out, List.length_append, HLDD.out, HLD1.out, List.map_append]; exact own5, qb5⟩
          case measure => simp [intOf]; omega
        have hmx1 : (mo : Int) ≤ (cn : Int) := by omega
        have HM2 : Hid (mostTo S (i + 1) = cn) := by show _ = _; rw [HMO.out]; omega
        go_wp2_with (at_builtin; refine wpList_append_row _ rfl _ _ 24 rfl B 5 i0 (.int .u8 0) 1 Try.underlying24 hi0 hz0 hz1 hz2 rfl _ _ _ rfl own .u8 a1 ld1 cp1 dd rfl r1 ?c1 ?c2 ?c3 ?_)
        case c1 => unfold maxLen; omega
        case c2 => omega
        intro v5 w5 own5 hgrow5
        have qb5 : Below B w7 w5 := qb.grown hgrow5 hsz2 (fun k hk => (own.lt k hk).1)
        have kk1 : w5.cell? ⟨gs, i * 3 + 1, none⟩ = some (.int .i64 (cn : Int)) := by
          obtain ⟨_, _, _, _, kz, _, _⟩ := (HSK.out i hlt).below qb5 (by rw [hgx]; exact Nat.le_refl _)
          rw [kz, HCN.out]
        clear hgrow5 own r1 k0 k1 k2 qb
        go_wp2_with fail
        go_roundw
        case rel => exact ⟨i + 1, by omega, by go_num, by rw [HM2.out]; first | done | (rw [if_pos (by omega)]) | (rw [if_neg (by omega)]), by rw [HB2.out], by rw [HDT.out, List.length_append, HLDD.out, HLD1.out]; exact HI1.out, by rw [HDT.out, List.length_append, HLDD.out, HLD1.out, List.map_append]; exact own5, qb5⟩
        case measure => simp [intOf]; omega
      have HB2 : Hid (badTo S (i + 1) = true) := by show _ = _; rw [HBT.out]; simp [he]
      have hx3 := HD3.out he
      have he1 := hx3.1
      have hmx : cn ≤ mo := by have := hx3.2.2; omega
      clear hx3 HD3
      subst he1
      have hmx1 : (cn : Int) ≤ (mo : Int) := by omega
      have HM2 : Hid (mostTo S (i + 1) = mo) := by show _ = _; rw [HMO.out]; omega
      go_wp2_with (at_builtin; refine wpList_append_row _ rfl _ _ 24 rfl B 5 i0 (.int .u8 0) 1 Try.underlying24 hi0 hz0 hz1 hz2 rfl _ _ _ rfl own .u8 a1 ld1 cp1 dd rfl r1 ?c1 ?c2 ?c3 ?_)
      case c1 => unfold maxLen; omega
      case c2 => omega
      intro v5 w5 own5 hgrow5
      have qb5 : Below B w7 w5 := qb.grown hgrow5 hsz2 (fun k hk => (own.lt k hk).1)
      have kk1 : w5.cell? ⟨gs, i * 3 + 1, none⟩ = some (.int .i64 (cn : Int)) := by
        obtain ⟨_, _, _, _, kz, _, _⟩ := (HSK.out i hlt).below qb5 (by rw [hgx]; exact Nat.le_refl _)
        rw [kz, HCN.out]
      clear hgrow5 own r1 k0 k1 k2 qb
      go_wp2_with fail
      go_roundw
      case rel => exact ⟨i + 1, by omega, by go_num, by rw [HM2.out]; first | done | (rw [if_pos (by omega)]) | (rw [if_neg (by omega)]), by rw [HB2.out], by rw [HDT.out, List.length_append, HLDD.out, HLD1.out]; exact HI1.out, by rw [HDT.out, List.length_append, HLDD.out, HLD1.out, List.map_append]; exact own5, qb5⟩
      case measure => simp [intOf]; omega

end Go.Proofs.Ytaabgfameegomaa
