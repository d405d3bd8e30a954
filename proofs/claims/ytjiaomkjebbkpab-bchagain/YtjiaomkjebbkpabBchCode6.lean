/-
  The code of layer 5 (bch), as it landed: locator (Berlekamp's and Massey's rounds) returns what the plain rounds give.
-/
import Derived.Test.YtjiaomkjebbkpabBchCode5
namespace Go.Proofs.Ytjiaomkjebbkpab
open Go.RowKit
set_option linter.unusedVariables false

/-- The rounds' values, as they lie in a world. -/
structure BmAt (wr : World) (st : Bm) (v3 v4 v5 : Value) : Prop where
  now : ∃ a c, v3 = .slice a st.now.length c ∧ Row .i64 wr a st.now.length c (ints st.now)
  bef : ∃ a c, v4 = .slice a st.bef.length c ∧ Row .i64 wr a st.bef.length c (ints st.bef)
  len : v5 = .int .i64 (st.len : Nat)
theorem bmStep_same {s : List Nat} {n : Nat} {st : Bm} (h : gapN s st n = 0) : bmStep s n st = ⟨st.now, norm (mulL st.bef [0, 1]), st.len⟩ := by unfold bmStep; rw [if_pos h]
theorem bmStep_long {s : List Nat} {n : Nat} {st : Bm} (h : gapN s st n ≠ 0) (h2 : 2 * st.len ≤ n) : bmStep s n st = ⟨norm (addL st.now (norm (mulL (norm (mulL st.bef [0, 1])) [gapN s st n]))), norm (mulL st.now [ginv (gapN s st n)]), n + 1 - st.len⟩ := by unfold bmStep; rw [if_neg h, if_pos h2]
theorem bmStep_short {s : List Nat} {n : Nat} {st : Bm} (h : gapN s st n ≠ 0) (h2 : ¬ 2 * st.len ≤ n) : bmStep s n st = ⟨norm (addL st.now (norm (mulL (norm (mulL st.bef [0, 1])) [gapN s st n]))), norm (mulL st.bef [0, 1]), st.len⟩ := by unfold bmStep; rw [if_neg h, if_neg h2]
theorem one_row (w : World) (T : TypeId) : Row .i64 (w.alloc (.cells #[.int .i64 1] T)) (some ⟨w.heap.size, 0, none⟩) 1 1 (ints [1]) := row_new .i64 w T w.heap.size rfl (ints [1]) 1 rfl (by decide) #[.int .i64 1] rfl
theorem any_row (w : World) (T : TypeId) (g : Nat) : Row .i64 (w.alloc (.cells #[.int .i64 (g : Int)] T)) (some ⟨w.heap.size, 0, none⟩) 1 1 (ints [g]) := row_new .i64 w T w.heap.size rfl (ints [g]) 1 rfl (by decide) #[.int .i64 (g : Int)] rfl
theorem x_row (w : World) (T : TypeId) : Row .i64 (w.alloc (.cells #[.int .i64 0, .int .i64 1] T)) (some ⟨w.heap.size, 0, none⟩) 2 2 (ints [0, 1]) := row_new .i64 w T w.heap.size rfl (ints [0, 1]) 2 rfl (by decide) #[.int .i64 0, .int .i64 1] rfl

set_option maxHeartbeats 3200000 in
set_option maxRecDepth 100000 in
theorem locator_any (B g h n : Nat) (s : List Nat) (w : World) (r : RowAt 3 w B g h n s) (hs : IsP s) (hn : n ≤ 100) :
    Calls Try.prog 12 #[.pointer (some ⟨g, 0, none⟩)] w (HandsL w (bmTo s n).now) := by
  have hbox0 := (r.below (below_two w (.cells #[.int .i64 1] 3) (.cells #[.int .i64 1] 3))).box
  have hA0 : BmAt ((w.alloc (.cells #[.int .i64 1] 3)).alloc (.cells #[.int .i64 1] 3)) (bmTo s 0) (.slice (some ⟨w.heap.size, 0, none⟩) 1 1) (.slice (some ⟨w.heap.size + 1, 0, none⟩) 1 1) (.int .i64 0) := by
    refine ⟨⟨_, _, rfl, (one_row w 3).below (below_one _ _) (Nat.le_refl _)⟩, ⟨_, _, rfl, ?_⟩, rfl⟩
    have := one_row (w.alloc (.cells #[.int .i64 1] 3)) 3
    rw [show (w.alloc (.cells #[.int .i64 1] 3)).heap.size = w.heap.size + 1 from by simp] at this
    exact this
  have HA0 : Hid _ := hA0
  have HOK : Hid (∀ k, BmOk s k (bmTo s k)) := fun k => bm_ok hs k
  have HST : Hid (∀ k, bmTo s (k + 1) = bmStep s k (bmTo s k)) := fun k => rfl
  clear hA0
  go_enter Try.func12, Try.ntmps12
  go_wp2
  go_loopw [3, 4, 5, 19] (fun v3 v4 v5 y wr => ∃ i : Nat, i ≤ n ∧ y = .int .i64 i ∧ BmAt wr (bmTo s i) v3 v4 v5 ∧ Below w.heap.size w wr) (fun _ _ _ y _ => n - (intOf y).toNat)
  case atStart => exact ⟨0, Nat.zero_le _, rfl, HA0.out, below_two _ _ _⟩
  case round =>
    clear HA0
    obtain ⟨i, hi, rfl, hA, hB⟩ := hrel
    by_cases hlt : i < n
    · have hok := HOK.out i
      have HS1 : Hid (bmTo s (i + 1) = bmStep s i (bmTo s i)) := HST.out i
      clear HOK HST
      generalize hst : bmTo s i = st at *
      clear hst
      obtain ⟨⟨a1, c1, rfl, hr1⟩, ⟨a2, c2, rfl, hr2⟩, rfl⟩ := hA
      have hP1 := hok.pn
      have hP2 := hok.pb
      have hlen := hok.len
      have hln := hok.ln
      have hlb := hok.lb
      have hone := hok.one
      have HOK : Hid (BmOk s i st) := hok
      have h0 : 0 < st.now.length := by
        rcases Nat.eq_zero_or_pos st.now.length with h | h
        · rw [List.eq_nil_of_length_eq_zero h] at hone
          exact absurd hone (by decide)
        · exact h
      have hrr := r.below hB
      clear hok hone
      have HE1 : Hid (gapN s st i = 0 → bmTo s (i + 1) = ⟨st.now, norm (mulL st.bef [0, 1]), st.len⟩) := fun h => by rw [HS1.out, bmStep_same h]
      have HE2 : Hid (gapN s st i ≠ 0 → 2 * st.len ≤ i → bmTo s (i + 1) = ⟨norm (addL st.now (norm (mulL (norm (mulL st.bef [0, 1])) [gapN s st i]))), norm (mulL st.now [ginv (gapN s st i)]), i + 1 - st.len⟩) := fun h h2 => by rw [HS1.out, bmStep_long h h2]
      have HE3 : Hid (gapN s st i ≠ 0 → ¬ 2 * st.len ≤ i → bmTo s (i + 1) = ⟨norm (addL st.now (norm (mulL (norm (mulL st.bef [0, 1])) [gapN s st i]))), norm (mulL st.bef [0, 1]), st.len⟩) := fun h h2 => by rw [HS1.out, bmStep_short h h2]
      have hgl := gap_lt HOK.out i
      have HGD : Hid (cf (mulL st.now s) i = gapN s st i) := rfl
      have hPx : IsP (norm (mulL st.bef [0, 1])) := isP_norm (isP_mulL _ hP2)
      have hlx := len_x hP2 hlb
      generalize gapN s st i = gp at *
      have hcx := cproduct_any a2 (some ⟨wr.heap.size, 0, none⟩) st.bef.length c2 2 2 st.bef [0, 1] (wr.alloc (.cells #[.int .i64 0, .int .i64 1] 3)) (hr2.below (below_one _ _) (Nat.le_refl _)) (x_row wr 3) (by omega) (by decide) hP2 isP_01
      go_wp2_with fail
      refine hcx.mono ?_
      rintro e w1 ⟨a3, c3, rfl, hr3, hb1⟩
      clear hcx
      replace hb1 := btrans (below_one wr _) hb1
      generalize hbx : norm (mulL st.bef [0, 1]) = bx at *
      clear hbx
      generalize hlbx : bx.length = lx at *
      have HLX : Hid (bx.length = lx) := hlbx
      clear hlbx
      have hrr1 := hrr.below hb1
      have hr1' := hr1.below hb1 (Nat.le_refl _)
      have hB1 : Below w.heap.size w w1 := hB.trans (hb1.mono hB.size)
      clear hrr hr1 hr2 hB
      generalize hnow : st.now = now at *
      generalize hL : st.len = L at *
      clear hnow hL
      generalize hln0 : now.length = ln at *
      have HLN : Hid (now.length = ln) := hln0
      clear hln0
      have hgap := rowGap_any B g h n s a1 ln c1 now i w1 hrr1 hs hr1' hP1 (by omega) hlt (by omega) h0
      rw [HGD.out] at hgap
      go_wp2_with fail
      refine hgap.mono ?_
      rintro e w' ⟨rfl, rfl⟩
      clear hgap HGD
      by_cases hz : gp = 0
      · have HEQ : Hid (bmTo s (i + 1) = ⟨now, bx, L⟩) := HE1.out hz
        subst hz
        clear HE1 HE2 HE3
        go_wp2_with fail
        go_roundw
        case rel =>
          refine ⟨i + 1, by omega, by go_num, ?_, hB1⟩
          rw [HEQ.out]
          exact ⟨⟨a1, c1, by rw [HLN.out], by rw [HLN.out]; exact hr1'⟩, ⟨a3, c3, by rw [HLX.out], by rw [HLX.out]; exact hr3⟩, rfl⟩
        case measure => simp [intOf]; omega
      · have hq : ((gp : Int) == 0) = false := by simp; omega
        have hPg := isP_one_g hgl
        have hlc := len_const (n := lx) hPx hgl (Nat.le_of_eq HLX.out)
        have hPc : IsP (norm (mulL bx [gp])) := isP_norm (isP_mulL _ hPx)
        have hcx := cproduct_any a3 (some ⟨w1.heap.size, 0, none⟩) lx c3 1 1 bx [gp] (w1.alloc (.cells #[.int .i64 (gp : Int)] 3)) (hr3.below (below_one _ _) (Nat.le_refl _)) (any_row w1 3 gp) (by omega) (by decide) hPx hPg
        have HG0 : Hid (gp ≠ 0) := hz
        clear hz HE1
        go_wp2_with fail
        refine hcx.mono ?_
        rintro e w2 ⟨a4, c4, rfl, hr4, hb2⟩
        clear hcx
        replace hb2 := btrans (below_one w1 _) hb2
        generalize hbc : norm (mulL bx [gp]) = bc at *
        clear hbc
        generalize hlbc : bc.length = lc at *
        clear hlbc
        have hr1 := hr1'.below hb2 (Nat.le_refl _)
        replace hr3 := hr3.below hb2 (Nat.le_refl _)
        have hB2 : Below w.heap.size w w2 := hB1.trans (hb2.mono hB1.size)
        clear hB1 hb1 hr1' hrr1
        have hadd := addC.yes a1 a4 ln c1 lc c4 now bc w2 hr1 hr4 (by omega) (by omega) hP1 hPc
        go_wp2_with fail
        refine hadd.mono ?_
        rintro e w3 ⟨a5, c5, rfl, hr5, hb3⟩
        clear hadd
        generalize hnx : norm (addL now bc) = nx at *
        clear hnx
        generalize hlnx : nx.length = lnx at *
        have HLNX : Hid (nx.length = lnx) := hlnx
        clear hlnx
        replace hr1 := hr1.below hb3 (Nat.le_refl _)
        replace hr3 := hr3.below hb3 (Nat.le_refl _)
        have hB3 : Below w.heap.size w w3 := hB2.trans (hb3.mono hB2.size)
        clear hB2 hb2 hb3 hr4
        by_cases h2L : 2 * L ≤ i
        · have HEQ : Hid (bmTo s (i + 1) = ⟨nx, norm (mulL now [ginv gp]), i + 1 - L⟩) := HE2.out HG0.out h2L
          have u1 : 2 * (L : Int) ≤ (i : Int) := by omega
          have hgi := ginv_lt gp hgl
          have hinv := invC.yes gp w3 hgl HG0.out
          generalize ginv gp = gi at *
          clear HE2 HE3
          go_wp2_with fail
          refine hinv.mono ?_
          rintro e w4 ⟨rfl, hb4⟩
          clear hinv
          replace hr1 := hr1.below hb4 (Nat.le_refl _)
          replace hr5 := hr5.below hb4 (Nat.le_refl _)
          have hB4 : Below w.heap.size w w4 := hB3.trans (hb4.mono hB3.size)
          clear hB3 hb4
          have hcx := cproduct_any a1 (some ⟨w4.heap.size, 0, none⟩) ln c1 1 1 now [gi] (w4.alloc (.cells #[.int .i64 (gi : Int)] 3)) (hr1.below (below_one _ _) (Nat.le_refl _)) (any_row w4 3 gi) (by omega) (by decide) hP1 (isP_one_g hgi)
          go_wp2_with fail
          refine hcx.mono ?_
          rintro e w5 ⟨a6, c6, rfl, hr6, hb5⟩
          clear hcx
          replace hb5 := btrans (below_one w4 _) hb5
          replace hr5 := hr5.below hb5 (Nat.le_refl _)
          have hB5 : Below w.heap.size w w5 := hB4.trans (hb5.mono hB4.size)
          clear hB4 hb5 hr1 hr3
          generalize hbi : norm (mulL now [gi]) = bi at *
          clear hbi
          generalize hlbi : bi.length = li at *
          have HLI : Hid (bi.length = li) := hlbi
          clear hlbi
          go_wp2_with fail
          go_roundw
          case rel =>
            refine ⟨i + 1, by omega, by go_num, ?_, hB5⟩
            rw [HEQ.out]
            exact ⟨⟨a5, c5, by rw [HLNX.out], by rw [HLNX.out]; exact hr5⟩, ⟨a6, c6, by rw [HLI.out], by rw [HLI.out]; exact hr6⟩, by go_num⟩
          case measure => simp [intOf]; omega
        · have HEQ : Hid (bmTo s (i + 1) = ⟨nx, bx, L⟩) := HE3.out HG0.out h2L
          have u1 : (i : Int) < 2 * (L : Int) := by omega
          clear HE2 HE3
          go_wp2_with fail
          go_roundw
          case rel =>
            refine ⟨i + 1, by omega, by go_num, ?_, hB3⟩
            rw [HEQ.out]
            exact ⟨⟨a5, c5, by rw [HLNX.out], by rw [HLNX.out]; exact hr5⟩, ⟨a3, c3, by rw [HLX.out], by rw [HLX.out]; exact hr3⟩, rfl⟩
          case measure => simp [intOf]; omega
    · have e : i = n := by omega
      subst e
      obtain ⟨⟨a1, c1, rfl, hr1⟩, ⟨a2, c2, rfl, hr2⟩, rfl⟩ := hA
      go_wp2
      go_ret
      exact ⟨a1, c1, rfl, hr1, hB⟩

end Go.Proofs.Ytjiaomkjebbkpab
