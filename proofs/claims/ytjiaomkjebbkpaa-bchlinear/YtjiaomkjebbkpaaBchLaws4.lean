/-
  The walk of layer 5's law BchLinear, out of the face of bch: it returns true; nothing old turns. (Written by tools/gen/bch_linear.py.)
-/
import Derived.Test.YtjiaomkjebbkpaaBchCode9
namespace Go.Proofs.Ytjiaomkjebbkpaa
open Go.RowKit
set_option linter.unusedVariables false

/-- The sum of two rows of bytes of one length. -/
def xorI (x y : List Int) : List Int := turnI (List.replicate x.length 0) (apartTo x y (8 * x.length))
theorem length_xorI (x y : List Int) : (xorI x y).length = x.length := by unfold xorI; rw [length_turnI]; simp
theorem isB_xorI (x y : List Int) : IsB (xorI x y) := isB_turnI (isB_zeros _) _
theorem bitI_xorI {x y : List Int} (hl : x.length = y.length) (i : Nat) : bitI (xorI x y) i = if bitI x i = bitI y i then 0 else 1 := by
  by_cases hi : i < 8 * x.length
  · unfold xorI
    rw [bitI_turnI (isB_zeros _) _ (by rw [List.length_replicate]; exact inAll_apartTo x y x.length) i (by rw [List.length_replicate]; exact hi), oddN_apartTo, bitI_zeros]
    by_cases e : bitI x i = bitI y i
    · simp [e]
    · simp [hi, e]
  · rw [bitI_past _ _ (by rw [length_xorI]; omega), bitI_past x _ (by omega), bitI_past y _ (by omega), if_pos rfl]
theorem cf_xorI {x y : List Int} (hl : x.length = y.length) (i : Nat) : cf (bts (xorI x y)) i = cf (bts x) i ^^^ cf (bts y) i := by
  rw [cf_bts, cf_bts, cf_bts, bitI_xorI hl]
  have h1 := bitI_01 x i
  have h2 := bitI_01 y i
  rcases h1 with h1 | h1 <;> rcases h2 with h2 | h2 <;> simp [h1, h2]
theorem xor_word {t : Nat} {a b x y : List Int} (h1 : a.length = b.length) (h2 : x.length = y.length) : Eqv (wordL t (xorI a b) (xorI x y)) (addL (wordL t a x) (wordL t b y)) := fun i => by
  rw [cf_addL, cf_wordL, cf_wordL, cf_wordL]
  by_cases hi : i < 13 * t
  · rw [if_pos hi, if_pos hi, if_pos hi, cf_xorI h2]
  · rw [if_neg hi, if_neg hi, if_neg hi, cf_xorI h1]
theorem enc_xor {t : Nat} {a b x y : List Int} (hl : a.length = b.length) (h : IsEnc t a x) (k : IsEnc t b y) : IsEnc t (xorI a b) (xorI x y) := by
  have h2 : x.length = y.length := by rw [h.len, k.len]
  refine ⟨by rw [length_xorI, h.len], isB_xorI _ _, fun i hi => by rw [bitI_xorI h2, h.above i hi, k.above i hi, if_pos rfl], code_eqv (xor_word hl h2).symm (code_add h.cw k.cw)⟩
theorem filter_one (n k : Nat) : ((List.range n).filter fun i => i == k).length ≤ 1 ∧ (n ≤ k → ((List.range n).filter fun i => i == k).length = 0) := by
  induction n with
  | zero => simp
  | succ n ih =>
    rw [List.range_succ, List.filter_append, List.length_append]
    by_cases e : n = k
    · have := ih.2 (by omega)
      subst e
      simp only [this, List.filter_cons, beq_self_eq_true, if_true, List.filter_nil, List.length_cons, List.length_nil]
      exact ⟨by omega, fun h => by omega⟩
    · have e' : (n == k) = false := by simpa using e
      simp only [List.filter_cons, e', Bool.false_eq_true, if_false, List.filter_nil, List.length_nil, Nat.add_zero]
      exact ⟨ih.1, fun h => ih.2 (by omega)⟩
theorem bit_turn1 {a : List Int} (ha : IsB a) (p i : Nat) (hp : p < 8 * a.length) (hi : i < 8 * a.length) : bitI (turnI a [(p : Int)]) i = if i = p then 1 - bitI a i else bitI a i := by
  have hin : inAll a.length [(p : Int)] := by intro q hq; simp at hq; subst hq; omega
  rw [bitI_turnI ha _ hin i hi]
  by_cases e : i = p
  · subst e; simp [oddN]
  · have e' : ¬ p = i := fun h => e h.symm
    simp [oddN, e, e']
/-- One bit flipped: not all sums are 0. -/
theorem one_flip {t p : Nat} {a x : List Int} (h1 : 1 ≤ t) (ha : IsB a) (h : IsEnc t a x) (hp : p < 8 * a.length) (h8 : 13 * t + 8 * a.length ≤ 8191) : ∃ j, j < 2 * t ∧ cf (sumsTo (wordL t (turnI a [(p : Int)]) x) (2 * t)) j ≠ 0 := by
  rcases Decidable.em (∃ j, j < 2 * t ∧ cf (sumsTo (wordL t (turnI a [(p : Int)]) x) (2 * t)) j ≠ 0) with hh | hh
  · exact hh
  · exfalso
    have hc : code t (wordL t (turnI a [(p : Int)]) x) := (sums_code t _).2 fun i hi => by
      rcases Decidable.em (cf (sumsTo (wordL t (turnI a [(p : Int)]) x) (2 * t)) i = 0) with h0 | h0
      · exact h0
      · exact absurd ⟨i, hi, h0⟩ hh
    have l1 := length_wordL t a x
    have l2 : (wordL t (turnI a [(p : Int)]) x).length = 13 * t + 8 * a.length := by rw [length_wordL, length_turnI]
    have hf : ∀ i, i < 13 * t + 8 * a.length → cf (wordL t (turnI a [(p : Int)]) x) i = cf (wordL t a x) i ^^^ (if (i == 13 * t + p) then 1 else 0) := fun i hi => by
      rw [cf_wordL, cf_wordL]
      by_cases h3 : i < 13 * t
      · have e : (i == 13 * t + p) = false := by simp; omega
        rw [if_pos h3, if_pos h3, e]
        simp
      · rw [if_neg h3, if_neg h3, cf_bts, cf_bts, bit_turn1 ha p _ hp (by omega)]
        have h01 := bitI_01 a (i - 13 * t)
        by_cases e : i = 13 * t + p
        · have e1 : (i == 13 * t + p) = true := by simpa using e
          rw [if_pos (by omega), e1]
          rcases h01 with h | h <;> simp [h]
        · have e1 : (i == 13 * t + p) = false := by simpa using e
          rw [if_neg (by omega), e1]
          simp
    have ff := flip_facts (f := fun i => i == 13 * t + p) (is01_wordL t a x) (is01_wordL t (turnI a [(p : Int)]) x) l1 l2 hf
    have hd := ff.2.1
    have h1' := (filter_one (13 * t + 8 * a.length) (13 * t + p)).1
    have hne : wordL t a x ≠ wordL t (turnI a [(p : Int)]) x := fun e => by
      have := hf (13 * t + p) (by omega)
      rw [← e] at this
      simp at this
      have h01 := (is01_wordL t a x).cf (13 * t + p)
      rcases (show cf (wordL t a x) (13 * t + p) = 0 ∨ cf (wordL t a x) (13 * t + p) = 1 by omega) with h0 | h0 <;> rw [h0] at this <;> simp at this
    have := code_apart (is01_wordL t a x) (is01_wordL t (turnI a [(p : Int)]) x) (by omega) (by omega) h.cw hc hne
    rw [l1] at this
    omega
/-- Is one of the first k not 0? -/
def anyTo (u : List Nat) (k : Nat) : Bool := (List.range k).any fun j => cf u j != 0
theorem anyTo_succ (u : List Nat) (k : Nat) : anyTo u (k + 1) = (anyTo u k || (cf u k != 0)) := by unfold anyTo; rw [List.range_succ, List.any_append]; simp
theorem anyTo_true {u : List Nat} {n : Nat} (h : ∃ j, j < n ∧ cf u j ≠ 0) : anyTo u n = true := by
  obtain ⟨j, hj, hne⟩ := h
  unfold anyTo
  rw [List.any_eq_true]
  exact ⟨j, List.mem_range.2 hj, by simpa using hne⟩

set_option maxHeartbeats 12800000 in
set_option maxRecDepth 100000 in
theorem walk_bchLinear (hB : HBitsC) (hE : HEncC) (hD : HDecC) (hS : HSumsC) (t : Int) (a c : Option Addr) (len cap len' cap' : Nat) (x m : List Int) (p : Int) (w : World) (t1 : -9223372036854775808 ≤ t) (t2 : t ≤ 9223372036854775807)
    (rx : Row .u8 w a len cap x) (bx : IsB x) (rm : Row .u8 w c len' cap' m) (bm : IsB m) (p1 : -9223372036854775808 ≤ p) (p2 : p ≤ 9223372036854775807) :
    Calls Try.prog 7 #[.int .i64 t, .slice a len cap, .slice c len' cap', .int .i64 p] w fun e w' => e = .returned (.bool true) ∧ Below w.heap.size w w' := by
  have hmax : len ≤ maxLen := Nat.le_trans rx.hcap rx.hmax
  have hmax' : len' ≤ maxLen := Nat.le_trans rm.hcap rm.hmax
  by_cases hs : len ≤ 40 ∧ len' ≤ 40
  case neg =>
    have hsm := small5_no hs
    go_enter Try.func7, Try.ntmps7
    go_wp2_with fail
    refine (small5_any _ _ _ _ _ _ _ hmax hmax').mono ?_
    rintro e w' ⟨rfl, rfl⟩
    rw [hsm]
    go_wp2_with fail
    go_ret
    exact ⟨rfl, Below.refl _ _⟩
  have hsm := small5_yes hs.1 hs.2
  obtain ⟨hs1, hs2⟩ := hs
  by_cases hg : len = 0 ∨ len ≠ len' ∨ t < 1 ∨ 8 < t ∨ p < 0 ∨ 8 * (len : Int) ≤ p
  · rcases (show len = 0 ∨ (len ≠ 0 ∧ len ≠ len') ∨ (len ≠ 0 ∧ len = len' ∧ t < 1) ∨ (len ≠ 0 ∧ len = len' ∧ 1 ≤ t ∧ 8 < t) ∨ (len ≠ 0 ∧ len = len' ∧ 1 ≤ t ∧ t ≤ 8 ∧ p < 0) ∨ (len ≠ 0 ∧ len = len' ∧ 1 ≤ t ∧ t ≤ 8 ∧ 0 ≤ p ∧ 8 * (len : Int) ≤ p) by omega) with h | ⟨h1, h2⟩ | ⟨h1, h2, h3⟩ | ⟨h1, h2, h3, h4⟩ | ⟨h1, h2, h3, h4, h5⟩ | ⟨h1, h2, h3, h4, h5, h6⟩
    · subst h
      clear hg
      go_enter Try.func7, Try.ntmps7
      go_wp2_with fail
      refine (small5_any _ _ _ _ _ _ _ hmax hmax').mono ?_
      rintro e w' ⟨rfl, rfl⟩
      rw [hsm]
      go_wp2_with fail
      go_ret
      exact ⟨rfl, Below.refl _ _⟩
    · have g1 : ((len : Int) == 0) = false := by simp; omega
      have g2 : ((len : Int) != (len' : Int)) = true := by simp; omega
      clear hg h1 h2
      go_enter Try.func7, Try.ntmps7
      go_wp2_with fail
      refine (small5_any _ _ _ _ _ _ _ hmax hmax').mono ?_
      rintro e w' ⟨rfl, rfl⟩
      rw [hsm]
      go_wp2_with fail
      go_ret
      exact ⟨rfl, Below.refl _ _⟩
    · subst h2
      have g1 : ((len : Int) == 0) = false := by simp; omega
      clear hg h1
      go_enter Try.func7, Try.ntmps7
      go_wp2_with fail
      refine (small5_any _ _ _ _ _ _ _ hmax hmax').mono ?_
      rintro e w' ⟨rfl, rfl⟩
      rw [hsm]
      go_wp2_with fail
      go_ret
      exact ⟨rfl, Below.refl _ _⟩
    · subst h2
      have g1 : ((len : Int) == 0) = false := by simp; omega
      clear hg h1
      go_enter Try.func7, Try.ntmps7
      go_wp2_with fail
      refine (small5_any _ _ _ _ _ _ _ hmax hmax').mono ?_
      rintro e w' ⟨rfl, rfl⟩
      rw [hsm]
      go_wp2_with fail
      go_ret
      exact ⟨rfl, Below.refl _ _⟩
    · subst h2
      have g1 : ((len : Int) == 0) = false := by simp; omega
      clear hg h1
      go_enter Try.func7, Try.ntmps7
      go_wp2_with fail
      refine (small5_any _ _ _ _ _ _ _ hmax hmax').mono ?_
      rintro e w' ⟨rfl, rfl⟩
      rw [hsm]
      go_wp2_with fail
      go_ret
      exact ⟨rfl, Below.refl _ _⟩
    · subst h2
      have g1 : ((len : Int) == 0) = false := by simp; omega
      clear hg h1
      go_enter Try.func7, Try.ntmps7
      go_wp2_with fail
      refine (small5_any _ _ _ _ _ _ _ hmax hmax').mono ?_
      rintro e w' ⟨rfl, rfl⟩
      rw [hsm]
      go_wp2_with fail
      go_ret
      exact ⟨rfl, Below.refl _ _⟩
  have hl0 : 1 ≤ len := by omega
  obtain rfl : len = len' := by omega
  obtain ⟨t, rfl⟩ := Int.eq_ofNat_of_zero_le (show 0 ≤ t by omega)
  obtain ⟨p, rfl⟩ := Int.eq_ofNat_of_zero_le (show 0 ≤ p by omega)
  have ht1 : 1 ≤ t := by omega
  have ht2 : t ≤ 8 := by omega
  have hp1 : p < 8 * len := by omega
  have hp2 : (p : Int) < 8 * (len : Int) := by omega
  clear hg t1 t2 p1 p2
  have g1 : ((len : Int) == 0) = false := by simp; omega
  obtain ⟨i0, hi0, hz0, hz1, hz2⟩ := info_parts Try.info5
  have HLx : Hid (x.length = len) := rx.hlen
  have HLm : Hid (m.length = len) := rm.hlen
  have HXS : Hid (turnI (List.replicate len 0) (apartTo x m (8 * len)) = xorI x m) := by show _ = _; unfold xorI; rw [HLx.out]
  have bs := isB_xorI x m
  have HLs : Hid ((xorI x m).length = len) := by show _ = _; rw [length_xorI, HLx.out]
  obtain ⟨n, hn⟩ : ∃ n, n = (13 * t + 7) / 8 := ⟨_, rfl⟩
  have HN : Hid (n = (13 * t + 7) / 8) := hn
  have hn1 : 1 ≤ n := by omega
  have hn14 : n ≤ 14 := by omega
  have HMAY : Hid (mayB t len (n : Nat) = true) := by show _ = _; unfold mayB; rw [decide_eq_true_iff]; omega
  clear hn
  have HENC : Hid (∀ d z, IsEnc t d z → z.length = n ∧ IsB z) := fun d z h => ⟨by rw [h.len, HN.out], h.isB⟩
  have HEX : Hid (∀ z z' z'', IsEnc t x z → IsEnc t m z' → IsEnc t (xorI x m) z'' → z'' = xorI z z') := fun z z' z'' h h' h'' => enc_unique ht2 h'' (enc_xor (by rw [HLx.out, HLm.out]) h h')
  have HCW : Hid (∀ z, IsEnc t x z → ∀ j, j < 2 * t → cf (sumsTo (wordL t x z) (2 * t)) j = 0) := fun z h => (sums_code t _).1 h.cw
  have HFL : Hid (∀ z, IsEnc t x z → anyTo (sumsTo (wordL t (turnI x [(p : Int)]) z) (2 * t)) (2 * t) = true) := fun z h => anyTo_true (one_flip ht1 bx h (by rw [HLx.out]; exact hp1) (by rw [HLx.out]; omega))
  have bc : IsB (turnI x [(p : Int)]) := isB_turnI bx _
  have HIN1 : Hid (inB len (apartTo x m (8 * len)) = true) := (inB_iff _ _).2 (inAll_apartTo x m len)
  have HWF1 : Hid (∀ q ∈ apartTo x m (8 * len), (Lit.int .i64 q).wf = true) := wf_of_in (inAll_apartTo x m len) (by omega)
  have HIN3 : Hid (inB len [(p : Int)] = true) := (inB_iff _ _).2 (by intro q hq; simp at hq; subst hq; omega)
  have HWF3 : Hid (∀ q ∈ [(p : Int)], (Lit.int .i64 q).wf = true) := wf_of_in (n := len) (by intro q hq; simp at hq; subst hq; omega) (by omega)
  have hmaxl : len ≤ maxLen := hmax
  have hmaxn : n ≤ maxLen := by unfold maxLen; omega
  have hmk : ∀ (N : Nat) (w0 w1 : World), N ≤ maxLen → w1.ownsRow w0.heap.size 5 1 (.slice (some ⟨w0.heap.size, 0, none⟩) N N) N (madeCells (Value.int IntKind.u8 0).cells (N * 1)).toList → w0.grownBy w1 none →
      Row .u8 w1 (some ⟨w0.heap.size, 0, none⟩) N N (List.replicate N 0) ∧ Below w0.heap.size w0 w1 := fun N w0 w1 hN h1 h2 => by
    rw [made_ints] at h1
    exact ⟨isB_of_row h1, (Below.refl _ _).grown h2 (Nat.le_refl _) (by simp)⟩
  have HMK : Hid _ := hmk
  clear hmk
  go_enter Try.func7, Try.ntmps7
  go_wp2_with fail
  refine (small5_any _ _ _ _ _ _ _ hmax hmax').mono ?_
  rintro e w' ⟨rfl, rfl⟩
  rw [hsm]
  -- l
  go_wp2_with fail
  refine (apart_yes a c len cap cap' x m _ rx bx rm bm (by omega)).mono ?_
  rintro e w1 ⟨v1, rfl, hown1, q1⟩
  obtain ⟨al, cl, rfl, rl⟩ := row_of_owns hown1
  clear hown1
  generalize hal : apartTo x m (8 * len) = ll at *
  clear hal
  generalize hll : ll.length = nl at *
  clear hll
  replace rx := rx.below q1 (Nat.le_refl _)
  replace rm := rm.below q1 (Nat.le_refl _)
  -- s
  go_wp2_with (at_make; refine wpList_make_full _ rfl _ _ 22 rfl w1.heap.size 5 i0 (.int .u8 0) 1 Try.underlying22 hi0 hz0 hz1 _ _ _ _ len rfl rfl rfl rfl (by rw [hz2]; omega) hmaxl (Nat.le_refl _) ?_; intro w2 hown2 hgrow2)
  obtain ⟨rz, q2⟩ := HMK.out len w1 w2 hmaxl hown2 hgrow2
  clear hown2 hgrow2
  replace rl := rl.below q2 (Nat.le_refl _)
  refine (turn_any _ al len len nl cl (List.replicate len 0) ll _ rz (isB_zeros len) rl HWF1.out (by omega)).mono ?_
  rintro e w3 ⟨q3, h3⟩
  rcases h3 with ⟨_, rfl, hown3⟩ | ⟨hf, _⟩
  case inr => exact absurd hf (by rw [HIN1.out]; simp)
  rw [HXS.out] at hown3
  have rs := isB_of_row hown3
  clear hown3 rz rl
  replace q1 := btrans (btrans q1 q2) q3
  replace rx := (rx.below q2 (Nat.le_refl _)).below q3 (Nat.le_refl _)
  replace rm := (rm.below q2 (Nat.le_refl _)).below q3 (Nat.le_refl _)
  clear q2 q3
  generalize w2.heap.size = g2 at *
  have HXM : Hid (∀ z z' z'', IsEnc t x z → IsEnc t m z' → IsEnc t (xorI x m) z'' → z'' = xorI z z') := HEX.out
  clear HEX
  generalize hxm : xorI x m = s at *
  clear hxm
  -- ea
  go_wp2_with fail
  refine (hE.yes t _ _ _ x _ rx (by assumption) (by omega) ht1 ht2 hl0).mono ?_
  rintro e w4 ⟨ea, hea, aea, cea, rfl, rea, q2⟩
  obtain ⟨hlea, bea⟩ := HENC.out _ _ hea
  have Hea : Hid _ := hea
  rw [hlea] at rea ⊢
  have HLea : Hid (ea.length = n) := hlea
  clear hea hlea
  replace rx := rx.below q2 (Nat.le_refl _)
  replace rm := rm.below q2 (Nat.le_refl _)
  replace rs := rs.below q2 (Nat.le_refl _)
  replace q1 := btrans q1 q2
  clear q2
  -- eb
  go_wp2_with fail
  refine (hE.yes t _ _ _ m _ rm (by assumption) (by omega) ht1 ht2 hl0).mono ?_
  rintro e w5 ⟨eb, heb, aeb, ceb, rfl, reb, q2⟩
  obtain ⟨hleb, beb⟩ := HENC.out _ _ heb
  have Heb : Hid _ := heb
  rw [hleb] at reb ⊢
  have HLeb : Hid (eb.length = n) := hleb
  clear heb hleb
  replace rx := rx.below q2 (Nat.le_refl _)
  replace rs := rs.below q2 (Nat.le_refl _)
  replace rea := rea.below q2 (Nat.le_refl _)
  replace q1 := btrans q1 q2
  clear q2
  clear rm
  -- es
  go_wp2_with fail
  refine (hE.yes t _ _ _ s _ rs (by assumption) (by omega) ht1 ht2 hl0).mono ?_
  rintro e w6 ⟨es, hes, aes, ces, rfl, res, q2⟩
  obtain ⟨hles, bes⟩ := HENC.out _ _ hes
  have Hes : Hid _ := hes
  rw [hles] at res ⊢
  have HLes : Hid (es.length = n) := hles
  clear hes hles
  replace rx := rx.below q2 (Nat.le_refl _)
  replace rea := rea.below q2 (Nat.le_refl _)
  replace reb := reb.below q2 (Nat.le_refl _)
  replace q1 := btrans q1 q2
  clear q2
  clear rs
  have HES : Hid (es = xorI ea eb) := HXM.out ea eb es Hea.out Heb.out Hes.out
  have HV : Hid (∀ j, j < 2 * t → cf (sumsTo (wordL t x ea) (2 * t)) j = 0) := HCW.out ea Hea.out
  have HU : Hid (anyTo (sumsTo (wordL t (turnI x [(p : Int)]) ea) (2 * t)) (2 * t) = true) := HFL.out ea Hea.out
  have HXW : Hid (turnI (List.replicate n 0) (apartTo ea eb (8 * n)) = es) := by show _ = _; rw [HES.out]; unfold xorI; rw [HLea.out]
  have HIN2 : Hid (inB n (apartTo ea eb (8 * n)) = true) := (inB_iff _ _).2 (inAll_apartTo ea eb n)
  have HWF2 : Hid (∀ q ∈ apartTo ea eb (8 * n), (Lit.int .i64 q).wf = true) := wf_of_in (inAll_apartTo ea eb n) (by omega)
  clear HXM HCW HFL HES Hea Heb Hes HENC
  -- m
  go_wp2_with fail
  refine (apart_yes _ _ n _ _ ea eb _ rea bea reb beb (by omega)).mono ?_
  rintro e w7 ⟨v1, rfl, hown1, q2⟩
  obtain ⟨al2, cl2, rfl, rl⟩ := row_of_owns hown1
  clear hown1 reb
  generalize hal : apartTo ea eb (8 * n) = ll2 at *
  clear hal
  generalize hll : ll2.length = nl2 at *
  clear hll
  replace rx := rx.below q2 (Nat.le_refl _)
  replace rea := rea.below q2 (Nat.le_refl _)
  replace res := res.below q2 (Nat.le_refl _)
  replace q1 := btrans q1 q2
  clear q2
  -- w
  go_wp2_with (at_make; refine wpList_make_full _ rfl _ _ 22 rfl w7.heap.size 5 i0 (.int .u8 0) 1 Try.underlying22 hi0 hz0 hz1 _ _ _ _ n rfl rfl rfl rfl (by rw [hz2]; omega) hmaxn (Nat.le_refl _) ?_; intro w8 hown2 hgrow2)
  obtain ⟨rz, q2⟩ := HMK.out n w7 w8 hmaxn hown2 hgrow2
  clear hown2 hgrow2
  replace rl := rl.below q2 (Nat.le_refl _)
  refine (turn_any _ al2 n n nl2 cl2 (List.replicate n 0) ll2 _ rz (isB_zeros n) rl HWF2.out (by omega)).mono ?_
  rintro e w9 ⟨q3, h3⟩
  rcases h3 with ⟨_, rfl, hown3⟩ | ⟨hf, _⟩
  case inr => exact absurd hf (by rw [HIN2.out]; simp)
  rw [HXW.out] at hown3
  have rw_ := isB_of_row hown3
  clear hown3 rz rl
  replace q1 := btrans (btrans q1 q2) q3
  replace rx := (rx.below q2 (Nat.le_refl _)).below q3 (Nat.le_refl _)
  replace rea := (rea.below q2 (Nat.le_refl _)).below q3 (Nat.le_refl _)
  replace res := (res.below q2 (Nat.le_refl _)).below q3 (Nat.le_refl _)
  clear q2 q3
  generalize w8.heap.size = g8 at *
  -- v
  go_wp2_with fail
  refine (hS.yes t _ _ _ _ _ _ x ea _ rx bx rea bea (by omega) (by omega) HMAY.out).mono ?_
  rintro e w10 ⟨av, cv_, rfl, rv, q2⟩
  rw [length_sumsTo] at rv ⊢
  generalize sumsTo (wordL t x ea) (2 * t) = v at *
  replace rx := rx.below q2 (Nat.le_refl _)
  replace rea := rea.below q2 (Nat.le_refl _)
  replace res := res.below q2 (Nat.le_refl _)
  replace rw_ := rw_.below q2 (Nat.le_refl _)
  replace q1 := btrans q1 q2
  clear q2
  -- c
  have rp := row_new .i64 w10 3 w10.heap.size rfl [(p : Int)] 1 rfl (by decide) #[.int .i64 (p : Int)] rfl
  have qa := below_one w10 (Obj.cells #[.int .i64 (p : Int)] 3)
  have rx2 := rx.below qa (Nat.le_refl _)
  go_wp2_with fail
  refine (turn_any _ _ len _ 1 1 x [(p : Int)] _ rx2 bx rp HWF3.out (by omega)).mono ?_
  rintro e w11 ⟨q3, h3⟩
  rcases h3 with ⟨_, rfl, hown3⟩ | ⟨hf, _⟩
  case inr => exact absurd hf (by rw [HIN3.out]; simp)
  have rc := isB_of_row hown3
  replace qa := btrans qa q3
  clear hown3 rp rx rx2 q3
  replace rea := rea.below qa (Nat.le_refl _)
  replace res := res.below qa (Nat.le_refl _)
  replace rw_ := rw_.below qa (Nat.le_refl _)
  replace rv := rv.below qa (Nat.le_refl _)
  replace q1 := btrans q1 qa
  clear qa
  generalize (w10.alloc (Obj.cells #[Value.int .i64 (p : Int)] 3)).heap.size = g10 at *
  generalize turnI x [(p : Int)] = cc at *
  -- u
  go_wp2_with fail
  refine (hS.yes t _ _ len _ _ _ cc ea _ rc bc rea bea (by omega) (by omega) HMAY.out).mono ?_
  rintro e w12 ⟨au, cu, rfl, ru, q2⟩
  rw [length_sumsTo] at ru ⊢
  generalize sumsTo (wordL t cc ea) (2 * t) = u at *
  replace res := res.below q2 (Nat.le_refl _)
  replace rw_ := rw_.below q2 (Nat.le_refl _)
  replace rv := rv.below q2 (Nat.le_refl _)
  replace q1 := btrans q1 q2
  clear q2 rc rea
  have hc1 := conv_row Try.underlying22 Try.underlying5 Try.underlying9 res
  have hc2 := conv_row Try.underlying22 Try.underlying5 Try.underlying9 rw_
  clear res rw_
  go_wp2_with fail
  clear hc1 hc2
  go_loop [29, 30] (fun o y => ∃ k : Nat, k ≤ 2 * t ∧ y = .int .i64 k ∧ o = .bool (anyTo u k)) (fun _ y => 2 * t - (intOf y).toNat)
  case atStart => exact ⟨0, Nat.zero_le _, rfl, rfl⟩
  case round =>
    obtain ⟨k, hk, rfl, rfl⟩ := hrel
    by_cases hlt : k < 2 * t
    · obtain ⟨b1, off1, rfl, hbs1, hcell1⟩ := rv.hcell (by omega)
      obtain ⟨b2, off2, rfl, hbs2, hcell2⟩ := ru.hcell (by omega)
      have hd1 := hcell1 k hlt
      have hd2 := hcell2 k hlt
      rw [ints_get] at hd1 hd2
      rw [HV.out k hlt] at hd1
      clear hcell1 hcell2
      have hkk : (k : Int) < 2 * (t : Int) := by omega
      have HA : Hid (anyTo u (k + 1) = (anyTo u k || (cf u k != 0))) := anyTo_succ u k
      cases ho : anyTo u k
      · rw [ho] at HA
        have HA2 : Hid (((cf u k : Int) != 0) = anyTo u (k + 1)) := by
          show _ = _
          rw [HA.out]
          by_cases e : cf u k = 0
          · simp [e]
          · have e2 : ((cf u k : Int) != 0) = true := by simp; omega
            have e3 : (cf u k != 0) = true := by simpa using e
            rw [e2, e3]; rfl
        clear ho
        go_wp2
        go_round
        case rel => exact ⟨k + 1, by omega, by go_num, by rw [HA2.out]⟩
        case measure => simp [intOf]; omega
      · rw [ho] at HA
        have HA2 : Hid (anyTo u (k + 1) = true) := by show _ = _; rw [HA.out]; rfl
        clear ho
        go_wp2
        go_round
        case rel => exact ⟨k + 1, by omega, by go_num, by rw [HA2.out]⟩
        case measure => simp [intOf]; omega
    · have e : k = 2 * t := by omega
      subst e
      rw [HU.out]
      have hkk : ¬ ((2 * t : Nat) : Int) < 2 * (t : Int) := by omega
      have hkk' : ¬ 2 * (t : Int) < 2 * (t : Int) := by omega
      go_wp2_with fail
      refine (awake5_any hB hE hD _).mono ?_
      rintro e w13 ⟨rfl, q2⟩
      replace q1 := btrans q1 q2
      go_wp2_with fail
      go_ret
      exact ⟨rfl, q1⟩

end Go.Proofs.Ytjiaomkjebbkpaa
