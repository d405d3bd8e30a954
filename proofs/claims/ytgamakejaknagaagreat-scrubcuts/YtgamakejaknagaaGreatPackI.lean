/-
  The code of layer 5 (bch), as it landed: rowOf, Sums return what the face asks.
-/
import Derived.Test.YtgamakejaknagaaGreatPackH
namespace Go.Proofs.YtgamakejaknagaaGreat
open Go.RowKit
set_option linter.unusedVariables false
set_option maxRecDepth 8192

/-- The sums, laid down one by one. -/
def sumsUp (p : List Nat) (n k : Nat) : List Nat := (List.range n).map fun i => if i < k then evl p (gpow 2 (i + 1)) else 0
theorem length_sumsUp (p : List Nat) (n k : Nat) : (sumsUp p n k).length = n := by simp [sumsUp]
theorem sumsUp_zero (p : List Nat) (n : Nat) : sumsUp p n 0 = List.replicate n 0 := by
  apply eq_of_cf (by simp [length_sumsUp])
  intro i hi
  rw [length_sumsUp] at hi
  unfold sumsUp
  rw [cf_map_range _ _ _ hi, if_neg (by omega)]
  simp [cf, hi]
theorem sumsUp_succ (p : List Nat) (n k : Nat) (hk : k < n) : sumsUp p n (k + 1) = (sumsUp p n k).set k (evl p (gpow 2 (k + 1))) := by
  apply eq_of_cf (by simp [length_sumsUp])
  intro i hi
  rw [length_sumsUp] at hi
  rw [cf_set _ _ _ _ (by rw [length_sumsUp]; exact hk)]
  unfold sumsUp
  rw [cf_map_range _ _ _ hi, cf_map_range _ _ _ hi]
  by_cases e : i = k
  · subst e; rw [if_pos (by omega), if_pos rfl]
  · rw [if_neg e]
    by_cases h : i < k
    · rw [if_pos h, if_pos (by omega)]
    · rw [if_neg h, if_neg (by omega)]
theorem sumsUp_all (p : List Nat) (n : Nat) : sumsUp p n n = sumsTo p n := by
  unfold sumsUp sumsTo
  apply List.map_congr_left
  intro i hi
  rw [if_pos (List.mem_range.1 hi)]
theorem sumsUp_eqv {p q : List Nat} (n k : Nat) (h : ∀ i, 1 ≤ i → i ≤ n → evl p (gpow 2 i) = evl q (gpow 2 i)) : sumsUp p n k = sumsUp q n k := by
  unfold sumsUp
  apply List.map_congr_left
  intro i hi
  rw [h (i + 1) (by omega) (by have := List.mem_range.1 hi; omega)]
/-- A row of sums that was just made. -/
theorem rowAt_new {w w1 : World} {T S : TypeId} {n : Nat} (hg : w1.heap[w.heap.size]? = some (.cells ((List.replicate n (0 : Int)).map (Value.int .i64)).toArray T (0, 0))) (hb : Below w.heap.size w w1) (hm : n ≤ maxLen) :
    RowAt T (w1.alloc (.cells #[.slice (some ⟨w.heap.size, 0, none⟩) n n] S)) w.heap.size w1.heap.size w.heap.size n (List.replicate n 0) ∧ Below w.heap.size w (w1.alloc (.cells #[.slice (some ⟨w.heap.size, 0, none⟩) n n] S)) := by
  have hlt : w.heap.size < w1.heap.size := by
    rcases Nat.lt_or_ge w.heap.size w1.heap.size with h | h
    · exact h
    · rw [Array.getElem?_eq_none h] at hg; simp at hg
  refine ⟨⟨?_, ?_, by omega, Nat.le_refl _, by omega⟩, hb.alloc (by omega) _⟩
  · rw [World.cell?_alloc_at _ _ _ _ rfl]; rfl
  · have h1 : w1.ownsRow w.heap.size T 1 (.slice (some ⟨w.heap.size, 0, none⟩) n n) n ((List.replicate n (0 : Int)).map (Value.int .i64)) := owns_of_heap hg (by simp) (Nat.le_refl _) hm
    rw [ints_replicate]
    exact owns_below h1 (below_one w1 _)
set_option maxHeartbeats 1600000 in
set_option maxRecDepth 100000 in
theorem rowOf_any (t : Nat) (a c : Option Addr) (len cap len' cap' : Nat) (x m : List Int) (w : World) (hr : Row .u8 w a len cap x) (hx : IsB x) (hr' : Row .u8 w c len' cap' m) (hm : IsB m) (h1 : 1 ≤ t) (h8 : t ≤ 8) (hl : len ≤ 400) (hl' : len' = (13 * t + 7) / 8) :
    Calls Tryz.prog 147 #[.int .i64 t, .slice a len cap, .slice c len' cap'] w fun e w' => ∃ g h, e = .returned (.pointer (some ⟨g, 0, none⟩)) ∧ RowAt 3 w' w.heap.size g h (2 * t) (sumsTo (wordL t x m) (2 * t)) ∧ Below w.heap.size w w' := by
  obtain ⟨j0, hj0, hy0, hy1, hy2⟩ := info_parts Tryz.info3
  have HX : Hid (x.length = len) := hr.hlen
  have HM : Hid (m.length = len') := hr'.hlen
  have HLL : Hid (len' = (13 * t + 7) / 8) := hl'
  have hl20 : len' ≤ 20 := by omega
  clear hl'
  have HV : Hid (∀ z y s r, Raised t x z → IsLow t m y → IsMod (bts s) (genTo t) r → s = nb (addL (bts z) (bts y)) → ∀ k, sumsUp (bts (nb r)) (2 * t) k = sumsUp (wordL t x m) (2 * t) k) := fun z y s r hz hy hr hs k => by
    have h01 := is01_addL (is01_bts z) (is01_bts y)
    subst hs
    have hm' := hr.eqv ((bts_nb h01).trans (word_sum hz hy)) (Eqv.refl _) (is01_genTo t) (is01_genTo t) (Eqv.refl _) hr.hr
    apply sumsUp_eqv
    intro i i1 i2
    rw [evl_eqv _ (bts_nb hr.hr), mod_values hm' i i1 i2]
  have HRL : Hid (∀ z y s r, Raised t x z → IsLow t m y → IsMod (bts s) (genTo t) r → (nb r).length ≤ 20) := fun z y s r hz hy hr => by
    have := rest_len h8 hr
    rw [length_nb]
    omega
  have HSL : Hid (∀ z y, Raised t x z → IsLow t m y → (nb (addL (bts z) (bts y))).length ≤ 450) := fun z y hz hy => by
    have h2 := word_sum hz hy
    rw [length_nb, norm_ext h2]
    have := norm_length_le (wordL t x m)
    rw [length_wordL, HX.out] at this
    omega
  have hmax : 2 * t ≤ maxLen := by unfold maxLen; omega
  go_enter Tryz.func147, Tryz.ntmps147
  go_wp2_with fail
  refine (raised_bch t a len cap x _ hr hx h8 (by omega)).mono ?_
  rintro e w1 ⟨z, hz, a1, cp1, rfl, hrow1, hb1⟩
  have hzl := hz.len
  rw [HX.out] at hzl
  have hzB := hz.isB
  have HZ : Hid (Raised t x z) := hz
  clear hz
  generalize hlz : z.length = lz at *
  have HLZ : Hid (z.length = lz) := hlz
  clear hlz
  have hr1 := hr'.below hb1 (Nat.le_refl _)
  go_wp2_with fail
  refine (below_bch t c len' cap' m _ hr1 hm h1 h8 HLL.out).mono ?_
  rintro e w2 ⟨y, hy, a2, cp2, rfl, hrow2, hb2⟩
  have hyB := hy.isB
  have HY : Hid (IsLow t m y) := hy
  have hyl : y.length = len' := by rw [hy.len, HM.out]
  rw [hyl] at hrow2 ⊢
  clear hy hyl
  have hrow1' := hrow1.below hb2 (Nat.le_refl _)
  go_wp2_with fail
  refine (baddC _ _ _ _ _ _ z y _ hrow1' hrow2 hzB hyB (by omega) (by omega)).mono ?_
  rintro e w3 ⟨a3, cp3, rfl, hrow3, hb3⟩
  have hsl := HSL.out z y HZ.out HY.out
  have hsB : IsB (nb (addL (bts z) (bts y))) := isB_nb (is01_addL (is01_bts z) (is01_bts y))
  have hB3 : Below w.heap.size w w3 := btrans (btrans hb1 hb2) hb3
  clear hrow1 hrow1' hrow2 hb1 hb2 hb3 hr1
  have HRF := HV.out z y (nb (addL (bts z) (bts y)))
  have HRL2 := HRL.out z y (nb (addL (bts z) (bts y)))
  have HRF' : Hid _ := HRF
  have HRL' : Hid _ := HRL2
  clear HRF HRL2 HV HRL HSL
  generalize hns : nb (addL (bts z) (bts y)) = s at *
  have HNS : Hid (nb (addL (bts z) (bts y)) = s) := hns
  clear hns
  generalize hls : s.length = ls at *
  have HLS : Hid (s.length = ls) := hls
  clear hls
  go_wp2_with fail
  refine (rest_any t _ _ _ s _ hrow3 hsB h1 h8 (by omega)).mono ?_
  rintro e w4 ⟨r, hmod, a4, cp4, rfl, hrow4, hb4⟩
  have hB4 : Below w.heap.size w w4 := btrans hB3 hb4
  have HU : Hid (∀ k, sumsUp (bts (nb r)) (2 * t) k = sumsUp (wordL t x m) (2 * t) k) := fun k => HRF'.out r HZ.out HY.out hmod trivial k
  have hrl := HRL'.out r HZ.out HY.out hmod
  have hrB : IsB (nb r) := isB_nb hmod.hr
  clear HRF' HRL' hmod hrow3 hB3 hb4
  generalize nb r = left at *
  generalize hlr : left.length = lr at *
  have HLR : Hid (left.length = lr) := hlr
  clear hlr
  have hmk : ∀ w5 : World, w5.ownsRow w4.heap.size 3 1 (.slice (some ⟨w4.heap.size, 0, none⟩) (2 * t) (2 * t)) (2 * t) (madeCells (Value.int IntKind.i64 0).cells ((2 * t) * 1)).toList → w4.grownBy w5 none →
      w5.heap[w4.heap.size]? = some (.cells ((List.replicate (2 * t) (0 : Int)).map (Value.int .i64)).toArray 3 (0, 0)) ∧ Below w4.heap.size w4 w5 := fun w5 h1 h2 => by
    rw [made_ints] at h1
    exact ⟨heap_of_owns h1, (Below.refl _ _).grown h2 (Nat.le_refl _) (by simp)⟩
  go_wp2_with (at_make; refine wpList_make_full _ rfl _ _ 32 rfl w4.heap.size 3 j0 (.int .i64 0) 1 Tryz.underlying32 hj0 hy0 hy1 _ _ _ _ (2 * t) rfl rfl (by omega) (by omega) (by rw [hy2]; omega) hmax (Nat.le_refl _) ?_; intro w5 hown5 hgrow5)
  obtain ⟨hg5, hb5⟩ := hmk w5 hown5 hgrow5
  clear hmk hown5 hgrow5
  obtain ⟨r0, hb0⟩ := rowAt_new (S := 207) hg5 hb5 hmax
  rw [← sumsUp_zero (bts left) (2 * t)] at r0
  have hbox0 := r0.box
  clear hg5 hb5
  generalize hgg : w5.heap.size = g at *
  have HB4 : Hid (Below w.heap.size w w4) := hB4
  clear hB4 hgg
  go_loopw [29] (fun y wr => ∃ i : Nat, i ≤ 2 * t ∧ y = .int .i64 i ∧ RowAt 3 wr w4.heap.size g w4.heap.size (2 * t) (sumsUp (bts left) (2 * t) i) ∧ Below w4.heap.size w4 wr) (fun y _ => 2 * t - (intOf y).toNat)
  case atStart => exact ⟨0, Nat.zero_le _, rfl, r0, hb0⟩
  case round =>
    clear r0 hbox0 hb0
    obtain ⟨i, hi, rfl, r1, hb⟩ := hrel
    by_cases hlt : i < 2 * t
    · have hS := sumsUp_succ (bts left) (2 * t) i hlt
      have hbox := r1.box
      have hcl := owned_cell r1.own i hlt
      have hfz := r1.own.frozenAt i
      rw [ints_get] at hcl
      have c2 := (pow2_ok (i + 1)).1
      have c3 := evl_lt (is01_bts left).isP _ c2
      have HR : Hid _ := r1.set i (evl (bts left) (gpow 2 (i + 1)))
      rw [← hS] at HR
      have HB : Hid _ := hb.setCell (p := ⟨w4.heap.size, i, none⟩) (Nat.le_refl _) (.int .i64 ((evl (bts left) (gpow 2 (i + 1)) : Nat) : Int))
      have hrr := (hrow4.below hb (Nat.le_refl _)).drew
      clear hS r1 hb
      have u5 : (i : Int) < 2 * (t : Int) := by omega
      have u3 : (i : Int) + 1 = ((i + 1 : Nat) : Int) := by omega
      generalize hi1 : i + 1 = i1 at *
      have u2 : IntKind.i64.wrap ((i1 : Nat) : Int) = (i1 : Int) := by rw [IntKind.wrap_i64]; omega
      have HI1 : Hid (i + 1 = i1) := hi1
      clear hi1
      go_wp2
      go_region_with (first
        | (go_at_call 170; refine (exp_nat i1 _ (by have := HI1.out; omega)).mono ?_; rintro e w' ⟨rfl, rfl⟩)
        | (go_at_call 169; refine (bval_same a4 lr cp4 left (gpow 2 i1) _ ?_ hrB (by omega) c2).mono ?_; exact hrr; rintro e w' ⟨rfl, rfl⟩))
      all_goals
        go_wp2
        go_roundw
        case rel => exact ⟨i1, by have := HI1.out; omega, by go_num, HR.out.drew, HB.out.drew⟩
        case measure => have := HI1.out; simp [intOf]; omega
    · have e : i = 2 * t := by omega
      subst e
      rw [HU.out, sumsUp_all] at r1
      have u5 : ¬ ((2 * t : Nat) : Int) < 2 * (t : Int) := by omega
      have u5' : ¬ 2 * (t : Int) < 2 * (t : Int) := by omega
      go_wp2
      go_ret
      exact ⟨g, rfl, ⟨w4.heap.size, r1.base HB4.out.size⟩, HB4.out.trans (hb.mono HB4.out.size)⟩

end Go.Proofs.YtgamakejaknagaaGreat

/-
  The code of layer 5 (bch), as it landed: locator (Berlekamp's and Massey's rounds) returns what the plain rounds give.
-/
namespace Go.Proofs.YtgamakejaknagaaGreat
open Go.RowKit
set_option linter.unusedVariables false
set_option maxRecDepth 8192

/-- The rounds' values, as they lie in a world. -/
structure BmAt (wr : World) (st : Bm) (v3 v4 v5 : Value) : Prop where
  now : ∃ a c, v3 = .slice a st.now.length c ∧ Row .i64 wr a st.now.length c (ints st.now)
  bef : ∃ a c, v4 = .slice a st.bef.length c ∧ Row .i64 wr a st.bef.length c (ints st.bef)
  len : v5 = .int .i64 (st.len : Nat)
theorem bmStep_same {s : List Nat} {n : Nat} {st : Bm} (h : gapN s st n = 0) : bmStep s n st = ⟨st.now, norm (mulL st.bef [0, 1]), st.len⟩ := by unfold bmStep; rw [if_pos h]
theorem bmStep_long {s : List Nat} {n : Nat} {st : Bm} (h : gapN s st n ≠ 0) (h2 : 2 * st.len ≤ n) : bmStep s n st = ⟨norm (addL st.now (norm (mulL (norm (mulL st.bef [0, 1])) [gapN s st n]))), norm (mulL st.now [ginv (gapN s st n)]), n + 1 - st.len⟩ := by unfold bmStep; rw [if_neg h, if_pos h2]
theorem bmStep_short {s : List Nat} {n : Nat} {st : Bm} (h : gapN s st n ≠ 0) (h2 : ¬ 2 * st.len ≤ n) : bmStep s n st = ⟨norm (addL st.now (norm (mulL (norm (mulL st.bef [0, 1])) [gapN s st n]))), norm (mulL st.bef [0, 1]), st.len⟩ := by unfold bmStep; rw [if_neg h, if_neg h2]
theorem one_row (w : World) (T : TypeId) : Row .i64 (w.alloc (.cells #[.int .i64 1] T)) (some ⟨w.heap.size, 0, none⟩) 1 1 (ints [1]) := row_new .i64 w T w.heap.size rfl (ints [1]) 1 rfl (by decide) #[.int .i64 1] rfl
theorem any_row (w : World) (T : TypeId) (g : Nat) : Row .i64 (w.alloc (.cells #[.int .i64 (g : Int)] T)) (some ⟨w.heap.size, 0, none⟩) 1 1 (ints [g]) := row_new .i64 w T w.heap.size rfl (ints [g]) 1 rfl (by decide) #[.int .i64 (g : Int)] rfl
theorem x_row (w : World) (T : TypeId) : Row .i64 (w.alloc (.cells #[.int .i64 0, .int .i64 1] T)) (some ⟨w.heap.size, 0, none⟩) 2 2 (ints [0, 1]) := row_new .i64 w T w.heap.size rfl (ints [0, 1]) 2 rfl (by decide) #[.int .i64 0, .int .i64 1] rfl

set_option maxHeartbeats 3200000 in
set_option maxRecDepth 100000 in
theorem locator_any (B g h n : Nat) (s : List Nat) (w : World) (r : RowAt 3 w B g h n s) (hs : IsP s) (hn : n ≤ 100) :
    Calls Tryz.prog 148 #[.pointer (some ⟨g, 0, none⟩)] w (HandsL w (bmTo s n).now) := by
  have hbox0 := (r.below (below_two w (.cells #[.int .i64 1] 3) (.cells #[.int .i64 1] 3))).box
  have hA0 : BmAt ((w.alloc (.cells #[.int .i64 1] 3)).alloc (.cells #[.int .i64 1] 3)) (bmTo s 0) (.slice (some ⟨w.heap.size, 0, none⟩) 1 1) (.slice (some ⟨w.heap.size + 1, 0, none⟩) 1 1) (.int .i64 0) := by
    refine ⟨⟨_, _, rfl, (one_row w 3).below (below_one _ _) (Nat.le_refl _)⟩, ⟨_, _, rfl, ?_⟩, rfl⟩
    have := one_row (w.alloc (.cells #[.int .i64 1] 3)) 3
    rw [show (w.alloc (.cells #[.int .i64 1] 3)).heap.size = w.heap.size + 1 from by simp] at this
    exact this
  have HA0 : Hid _ := hA0
  have HOK : Hid (∀ k, BmOk s k (bmTo s k)) := fun k => bm_ok hs k
  have HST : Hid (∀ k, bmTo s (k + 1) = bmStep s k (bmTo s k)) := fun k => rfl
  clear hA0
  go_enter Tryz.func148, Tryz.ntmps148
  go_wp2
  go_loopw [3, 4, 5, 19] (fun v3 v4 v5 y wr => ∃ i : Nat, i ≤ n ∧ y = .int .i64 i ∧ BmAt wr (bmTo s i) v3 v4 v5 ∧ Below w.heap.size w wr) (fun _ _ _ y _ => n - (intOf y).toNat)
  case atStart => exact ⟨0, Nat.zero_le _, rfl, HA0.out, below_two _ _ _⟩
  case round =>
    clear HA0
    obtain ⟨i, hi, rfl, hA, hB⟩ := hrel
    by_cases hlt : i < n
    · have hok := HOK.out i
      have HS1 : Hid (bmTo s (i + 1) = bmStep s i (bmTo s i)) := HST.out i
      clear HOK HST
      generalize hst : bmTo s i = st at *
      clear hst
      obtain ⟨⟨a1, c1, rfl, hr1⟩, ⟨a2, c2, rfl, hr2⟩, rfl⟩ := hA
      have hP1 := hok.pn
      have hP2 := hok.pb
      have hlen := hok.len
      have hln := hok.ln
      have hlb := hok.lb
      have hone := hok.one
      have HOK : Hid (BmOk s i st) := hok
      have h0 : 0 < st.now.length := by
        rcases Nat.eq_zero_or_pos st.now.length with h | h
        · rw [List.eq_nil_of_length_eq_zero h] at hone
          exact absurd hone (by decide)
        · exact h
      have hrr := r.below hB
      clear hok hone
      have HE1 : Hid (gapN s st i = 0 → bmTo s (i + 1) = ⟨st.now, norm (mulL st.bef [0, 1]), st.len⟩) := fun h => by rw [HS1.out, bmStep_same h]
      have HE2 : Hid (gapN s st i ≠ 0 → 2 * st.len ≤ i → bmTo s (i + 1) = ⟨norm (addL st.now (norm (mulL (norm (mulL st.bef [0, 1])) [gapN s st i]))), norm (mulL st.now [ginv (gapN s st i)]), i + 1 - st.len⟩) := fun h h2 => by rw [HS1.out, bmStep_long h h2]
      have HE3 : Hid (gapN s st i ≠ 0 → ¬ 2 * st.len ≤ i → bmTo s (i + 1) = ⟨norm (addL st.now (norm (mulL (norm (mulL st.bef [0, 1])) [gapN s st i]))), norm (mulL st.bef [0, 1]), st.len⟩) := fun h h2 => by rw [HS1.out, bmStep_short h h2]
      have hgl := gap_lt HOK.out i
      have HGD : Hid (cf (mulL st.now s) i = gapN s st i) := rfl
      have hPx : IsP (norm (mulL st.bef [0, 1])) := isP_norm (isP_mulL _ hP2)
      have hlx := len_x hP2 hlb
      generalize gapN s st i = gp at *
      have hcx := cproduct_any a2 (some ⟨wr.heap.size, 0, none⟩) st.bef.length c2 2 2 st.bef [0, 1] (wr.alloc (.cells #[.int .i64 0, .int .i64 1] 3)) (hr2.below (below_one _ _) (Nat.le_refl _)) (x_row wr 3) (by omega) (by decide) hP2 isP_01
      go_wp2_with fail
      refine hcx.mono ?_
      rintro e w1 ⟨a3, c3, rfl, hr3, hb1⟩
      clear hcx
      replace hb1 := btrans (below_one wr _) hb1
      generalize hbx : norm (mulL st.bef [0, 1]) = bx at *
      clear hbx
      generalize hlbx : bx.length = lx at *
      have HLX : Hid (bx.length = lx) := hlbx
      clear hlbx
      have hrr1 := hrr.below hb1
      have hr1' := hr1.below hb1 (Nat.le_refl _)
      have hB1 : Below w.heap.size w w1 := hB.trans (hb1.mono hB.size)
      clear hrr hr1 hr2 hB
      generalize hnow : st.now = now at *
      generalize hL : st.len = L at *
      clear hnow hL
      generalize hln0 : now.length = ln at *
      have HLN : Hid (now.length = ln) := hln0
      clear hln0
      have hgap := rowGap_any B g h n s a1 ln c1 now i w1 hrr1 hs hr1' hP1 (by omega) hlt (by omega) h0
      rw [HGD.out] at hgap
      go_wp2_with fail
      refine hgap.mono ?_
      rintro e w' ⟨rfl, rfl⟩
      clear hgap HGD
      by_cases hz : gp = 0
      · have HEQ : Hid (bmTo s (i + 1) = ⟨now, bx, L⟩) := HE1.out hz
        subst hz
        clear HE1 HE2 HE3
        go_wp2_with fail
        go_roundw
        case rel =>
          refine ⟨i + 1, by omega, by go_num, ?_, hB1⟩
          rw [HEQ.out]
          exact ⟨⟨a1, c1, by rw [HLN.out], by rw [HLN.out]; exact hr1'⟩, ⟨a3, c3, by rw [HLX.out], by rw [HLX.out]; exact hr3⟩, rfl⟩
        case measure => simp [intOf]; omega
      · have hq : ((gp : Int) == 0) = false := by simp; omega
        have hPg := isP_one_g hgl
        have hlc := len_const (n := lx) hPx hgl (Nat.le_of_eq HLX.out)
        have hPc : IsP (norm (mulL bx [gp])) := isP_norm (isP_mulL _ hPx)
        have hcx := cproduct_any a3 (some ⟨w1.heap.size, 0, none⟩) lx c3 1 1 bx [gp] (w1.alloc (.cells #[.int .i64 (gp : Int)] 3)) (hr3.below (below_one _ _) (Nat.le_refl _)) (any_row w1 3 gp) (by omega) (by decide) hPx hPg
        have HG0 : Hid (gp ≠ 0) := hz
        clear hz HE1
        go_wp2_with fail
        refine hcx.mono ?_
        rintro e w2 ⟨a4, c4, rfl, hr4, hb2⟩
        clear hcx
        replace hb2 := btrans (below_one w1 _) hb2
        generalize hbc : norm (mulL bx [gp]) = bc at *
        clear hbc
        generalize hlbc : bc.length = lc at *
        clear hlbc
        have hr1 := hr1'.below hb2 (Nat.le_refl _)
        replace hr3 := hr3.below hb2 (Nat.le_refl _)
        have hB2 : Below w.heap.size w w2 := hB1.trans (hb2.mono hB1.size)
        clear hB1 hb1 hr1' hrr1
        have hadd := addC.yes a1 a4 ln c1 lc c4 now bc w2 hr1 hr4 (by omega) (by omega) hP1 hPc
        go_wp2_with fail
        refine hadd.mono ?_
        rintro e w3 ⟨a5, c5, rfl, hr5, hb3⟩
        clear hadd
        generalize hnx : norm (addL now bc) = nx at *
        clear hnx
        generalize hlnx : nx.length = lnx at *
        have HLNX : Hid (nx.length = lnx) := hlnx
        clear hlnx
        replace hr1 := hr1.below hb3 (Nat.le_refl _)
        replace hr3 := hr3.below hb3 (Nat.le_refl _)
        have hB3 : Below w.heap.size w w3 := hB2.trans (hb3.mono hB2.size)
        clear hB2 hb2 hb3 hr4
        by_cases h2L : 2 * L ≤ i
        · have HEQ : Hid (bmTo s (i + 1) = ⟨nx, norm (mulL now [ginv gp]), i + 1 - L⟩) := HE2.out HG0.out h2L
          have u1 : 2 * (L : Int) ≤ (i : Int) := by omega
          have hgi := ginv_lt gp hgl
          have hinv := invC.yes gp w3 hgl HG0.out
          generalize ginv gp = gi at *
          clear HE2 HE3
          go_wp2_with fail
          refine hinv.mono ?_
          rintro e w4 ⟨rfl, hb4⟩
          clear hinv
          replace hr1 := hr1.below hb4 (Nat.le_refl _)
          replace hr5 := hr5.below hb4 (Nat.le_refl _)
          have hB4 : Below w.heap.size w w4 := hB3.trans (hb4.mono hB3.size)
          clear hB3 hb4
          have hcx := cproduct_any a1 (some ⟨w4.heap.size, 0, none⟩) ln c1 1 1 now [gi] (w4.alloc (.cells #[.int .i64 (gi : Int)] 3)) (hr1.below (below_one _ _) (Nat.le_refl _)) (any_row w4 3 gi) (by omega) (by decide) hP1 (isP_one_g hgi)
          go_wp2_with fail
          refine hcx.mono ?_
          rintro e w5 ⟨a6, c6, rfl, hr6, hb5⟩
          clear hcx
          replace hb5 := btrans (below_one w4 _) hb5
          replace hr5 := hr5.below hb5 (Nat.le_refl _)
          have hB5 : Below w.heap.size w w5 := hB4.trans (hb5.mono hB4.size)
          clear hB4 hb5 hr1 hr3
          generalize hbi : norm (mulL now [gi]) = bi at *
          clear hbi
          generalize hlbi : bi.length = li at *
          have HLI : Hid (bi.length = li) := hlbi
          clear hlbi
          go_wp2_with fail
          go_roundw
          case rel =>
            refine ⟨i + 1, by omega, by go_num, ?_, hB5⟩
            rw [HEQ.out]
            exact ⟨⟨a5, c5, by rw [HLNX.out], by rw [HLNX.out]; exact hr5⟩, ⟨a6, c6, by rw [HLI.out], by rw [HLI.out]; exact hr6⟩, by go_num⟩
          case measure => simp [intOf]; omega
        · have HEQ : Hid (bmTo s (i + 1) = ⟨nx, bx, L⟩) := HE3.out HG0.out h2L
          have u1 : (i : Int) < 2 * (L : Int) := by omega
          clear HE2 HE3
          go_wp2_with fail
          go_roundw
          case rel =>
            refine ⟨i + 1, by omega, by go_num, ?_, hB3⟩
            rw [HEQ.out]
            exact ⟨⟨a5, c5, by rw [HLNX.out], by rw [HLNX.out]; exact hr5⟩, ⟨a3, c3, by rw [HLX.out], by rw [HLX.out]; exact hr3⟩, rfl⟩
          case measure => simp [intOf]; omega
    · have e : i = n := by omega
      subst e
      obtain ⟨⟨a1, c1, rfl, hr1⟩, ⟨a2, c2, rfl, hr2⟩, rfl⟩ := hA
      go_wp2
      go_ret
      exact ⟨a1, c1, rfl, hr1, hB⟩

end Go.Proofs.YtgamakejaknagaaGreat

/-
  The code of layer 5 (bch), as it landed: roots, parted return what they should.
-/
namespace Go.Proofs.YtgamakejaknagaaGreat
open Go.RowKit
set_option linter.unusedVariables false
set_option maxRecDepth 8192

theorem inv_pow2 (i : Nat) : gpow (ginv 2) i = ginv (gpow 2 i) := by
  show gpow (gpow 2 8190) i = gpow (gpow 2 i) 8190
  rw [← gpow_mul 2 _ _ (by decide), ← gpow_mul 2 _ _ (by decide), Nat.mul_comm]
theorem rts_hit {p : List Nat} {k : Nat} (h : evl p (gpow (ginv 2) k) = 0) : rts p (k + 1) = rts p k ++ [k] := by
  rw [inv_pow2] at h
  unfold rts
  rw [List.range_succ, List.filter_append]
  simp [h]
theorem rts_miss {p : List Nat} {k : Nat} (h : evl p (gpow (ginv 2) k) ≠ 0) : rts p (k + 1) = rts p k := by
  rw [inv_pow2] at h
  unfold rts
  rw [List.range_succ, List.filter_append]
  simp [h]
theorem rts_more (p : List Nat) (k d : Nat) : ∃ l, rts p (k + d) = rts p k ++ l := by
  induction d with
  | zero => exact ⟨[], by simp⟩
  | succ d ih =>
    obtain ⟨l, e⟩ := ih
    rcases Decidable.em (evl p (gpow (ginv 2) (k + d)) = 0) with h | h
    · exact ⟨l ++ [k + d], by rw [← Nat.add_assoc, rts_hit h, e, List.append_assoc]⟩
    · exact ⟨l, by rw [← Nat.add_assoc, rts_miss h, e]⟩
theorem rts_full {p : List Nat} {k n : Nat} (hp : IsP p) (hn : norm p = p) (hne : p ≠ []) (h8 : n ≤ 8191) (hk : k ≤ n) (h : p.length - 1 ≤ (rts p k).length) : rts p k = rts p n := by
  obtain ⟨l, e⟩ := rts_more p k (n - k)
  rw [show k + (n - k) = n from by omega] at e
  have := rts_le (n := n) hp (by rw [hn]; exact hne) h8
  rw [hn, e, List.length_append] at this
  have hl : l = [] := List.eq_nil_of_length_eq_zero (by omega)
  rw [e, hl, List.append_nil]
theorem length_rts_le (p : List Nat) (n : Nat) : (rts p n).length ≤ n := by
  have := List.length_filter_le (fun i => evl p (ginv (gpow 2 i)) == 0) (List.range n)
  rw [List.length_range] at this
  exact this

set_option maxHeartbeats 1600000 in
set_option maxRecDepth 100000 in
theorem roots_any (a : Option Addr) (len cap n : Nat) (p : List Nat) (w : World) (hr : Row .i64 w a len cap (ints p)) (hp : IsP p) (hnm : norm p = p) (hne : p ≠ []) (h8 : n ≤ 8191) (hsm : len ≤ 1000) :
    Calls Tryz.prog 149 #[.slice a len cap, .int .i64 n] w fun e w' => ∃ v, e = .returned v ∧ w'.ownsRow w.heap.size 3 1 v (rts p n).length ((ints (rts p n)).map (Value.int .i64)) ∧ Below w.heap.size w w' := by
  obtain ⟨j0, hj0, hy0, hy1, hy2⟩ := info_parts Tryz.info3
  have HL : Hid (p.length = len) := by have := hr.hlen; rwa [length_ints] at this
  have hl1 : 1 ≤ len := by have := List.length_pos_iff.2 hne; have := HL.out; omega
  have HFull : Hid (∀ k, k ≤ n → len - 1 ≤ (rts p k).length → rts p k = rts p n) := fun k hk h => rts_full hp hnm hne h8 hk (by rw [HL.out]; exact h)
  have HLE : Hid (∀ k, (rts p k).length ≤ k) := fun k => length_rts_le p k
  have HHit : Hid (∀ k, evl p (gpow (ginv 2) k) = 0 → rts p (k + 1) = rts p k ++ [k]) := fun k h => rts_hit h
  have HMiss : Hid (∀ k, evl p (gpow (ginv 2) k) ≠ 0 → rts p (k + 1) = rts p k) := fun k h => rts_miss h
  have hg2 : ginv 2 < 8192 := ginv_lt 2 (by decide)
  have HPS : Hid (∀ k, gmul (gpow (ginv 2) k) (ginv 2) = gpow (ginv 2) (k + 1)) := fun k => rfl
  have hexp := exp_same (-1) w (by decide) (by decide)
  rw [gz_neg_one] at hexp
  generalize ginv 2 = g2 at *
  go_enter Tryz.func149, Tryz.ntmps149
  go_wp2_with fail
  refine hexp.mono ?_
  rintro e w' ⟨rfl, rfl⟩
  clear hexp
  go_wp2_with fail
  go_loopw [5, 7, 8] (fun v x y wr => ∃ k : Nat, k ≤ n ∧ y = .int .i64 k ∧ x = .int .i64 (gpow g2 k : Nat) ∧ wr.ownsRow w.heap.size 3 1 v (rts p k).length ((ints (rts p k)).map (Value.int .i64)) ∧ Below w.heap.size w wr) (fun _ _ y _ => n - (intOf y).toNat)
  case atStart => exact ⟨0, Nat.zero_le _, rfl, rfl, World.ownsRow_nil _ _ _ _, Below.refl _ _⟩
  case round =>
    obtain ⟨k, hk, rfl, rfl, hown, hnx⟩ := hrel
    have hsz := hnx.size
    have hle := HLE.out k
    have hownE := hown
    have HFk : Hid (len - 1 ≤ (rts p k).length → rts p k = rts p n) := HFull.out k hk
    obtain ⟨ao, cp, rfl, _⟩ := row_of_owns hownE
    clear hownE
    by_cases hlt : k < n
    · have hkk : (k : Int) < (n : Int) := by omega
      by_cases hcnt : (rts p k).length < len - 1
      · have hrr := hr.below hnx (Nat.le_refl _)
        have c1 := gpow_lt g2 k hg2
        have HHk : Hid (evl p (gpow g2 k) = 0 → rts p (k + 1) = rts p k ++ [k]) := HHit.out k
        have HMk : Hid (evl p (gpow g2 k) ≠ 0 → rts p (k + 1) = rts p k) := HMiss.out k
        have HPk : Hid (gmul (gpow g2 k) g2 = gpow g2 (k + 1)) := HPS.out k
        have hev := evalC.yes a len cap p (gpow g2 k) wr hrr (by omega) hp c1
        generalize hx : gpow g2 k = x at *
        clear hx
        generalize hos : rts p k = os at *
        clear hos
        generalize hm : os.length = m at *
        have HM : Hid (os.length = m) := hm
        clear hm
        have hcc : (m : Int) < (len : Int) - 1 := by omega
        clear HFk HFull HLE HHit HMiss HPS
        go_wp2_with fail
        refine hev.mono ?_
        rintro e w1 ⟨rfl, hb1⟩
        clear hev hrr
        have hown1 := owns_below hown hb1
        have hB1 : Below w.heap.size w w1 := hnx.trans (hb1.mono hsz)
        have hsz1 := hB1.size
        clear hown hnx hsz hb1
        by_cases hz : evl p x = 0
        · have HS : Hid (rts p (k + 1) = os ++ [k]) := HHk.out hz
          have HSL : Hid ((rts p (k + 1)).length = m + 1) := by show _ = _; rw [HS.out, List.length_append, HM.out]; rfl
          have HSI : Hid (ints (rts p (k + 1)) = ints os ++ [(k : Int)]) := by show _ = _; rw [HS.out, ints_snoc]
          rw [hz]
          clear hz HHk HMk
          go_wp2_with (at_builtin; refine wpList_append_own _ rfl _ _ 32 rfl w.heap.size 3 j0 (.int .i64 0) 1 8 Tryz.underlying32 hj0 hy0 hy1 hy2 rfl (by decide) _ _ _ rfl (hown1.alloc _) ⟨w1.heap.size, 0, none⟩ 1 1 [.int .i64 (k : Nat)] rfl rfl (cell_one_new _ _ _) (by intro u hu; simp at hu; subst hu; rfl) (by unfold maxLen; omega) (by omega) (by simp; omega) ?_)
          intro v' w2 hown' hgrow _
          have R := rel_push hsz1 hown1 hB1 hown' hgrow
          rw [← HSI.out, ← HSL.out] at R
          clear hown' hgrow hown1 hB1
          go_wp2_with fail
          refine (ctimes_any x g2 _ c1 hg2).mono ?_
          rintro e w' ⟨rfl, rfl⟩
          rw [HPk.out]
          go_wp2_with fail
          go_roundw
          case rel => exact ⟨k + 1, by omega, by go_num, rfl, R.1, R.2⟩
          case measure => simp [intOf]; omega
        · have HS : Hid (rts p (k + 1) = os) := HMk.out hz
          have hq : (((evl p x : Nat) : Int) == 0) = false := by simp; omega
          clear hz HHk HMk
          go_wp2_with fail
          refine (ctimes_any x g2 _ c1 hg2).mono ?_
          rintro e w' ⟨rfl, rfl⟩
          rw [HPk.out]
          go_wp2_with fail
          go_roundw
          case rel => exact ⟨k + 1, by omega, by go_num, rfl, by rw [HS.out, HM.out]; exact hown1, hB1⟩
          case measure => simp [intOf]; omega
      · have hE := HFk.out (by omega)
        rw [hE] at hown hcnt ⊢
        clear hE
        generalize hos : rts p n = os at *
        have HOS : Hid (rts p n = os) := hos
        clear hos
        generalize hm : os.length = m at *
        have HM : Hid (os.length = m) := hm
        clear hm
        have hcc : ¬ (m : Int) < (len : Int) - 1 := by omega
        clear HFk HFull HLE HHit HMiss HPS
        go_wp2_with fail
        go_ret
        exact ⟨.slice ao m cp, rfl, by rw [HOS.out, HM.out]; exact hown, hnx⟩
    · have e : k = n := by omega
      subst e
      generalize hos : rts p k = os at *
      have HOS : Hid (rts p k = os) := hos
      clear hos
      generalize hm : os.length = m at *
      have HM : Hid (os.length = m) := hm
      clear hm HFk HFull HLE HHit HMiss HPS
      go_wp2_with fail
      go_ret
      exact ⟨.slice ao m cp, rfl, by rw [HOS.out, HM.out]; exact hown, hnx⟩

end Go.Proofs.YtgamakejaknagaaGreat

/-
  The code of layer 5 (bch), as it landed: parted returns what it should.
-/
namespace Go.Proofs.YtgamakejaknagaaGreat
open Go.RowKit
set_option linter.unusedVariables false
set_option maxRecDepth 8192

/-- The places of data, lessened one by one. -/
def partL (P : List Nat) (f c k : Nat) : List Nat := (List.range P.length).map fun j => if c ≤ j ∧ j < c + k then cf P j - f else cf P j
theorem length_partL (P : List Nat) (f c k : Nat) : (partL P f c k).length = P.length := by simp [partL]
theorem partL_zero (P : List Nat) (f c : Nat) : partL P f c 0 = P := eq_of_cf (length_partL _ _ _ _) fun i hi => by
  rw [length_partL] at hi
  unfold partL
  rw [cf_map_range _ _ _ hi, if_neg (by omega)]
theorem cf_partL (P : List Nat) (f c k : Nat) (h : c + k < P.length) : cf (partL P f c k) (c + k) = cf P (c + k) := by
  unfold partL
  rw [cf_map_range _ _ _ h, if_neg (by omega)]
theorem partL_succ (P : List Nat) (f c k : Nat) (h : c + k < P.length) : partL P f c (k + 1) = (partL P f c k).set (c + k) (cf P (c + k) - f) := by
  apply eq_of_cf (by simp [length_partL])
  intro i hi
  rw [length_partL] at hi
  rw [cf_set _ _ _ _ (by rw [length_partL]; exact h)]
  unfold partL
  rw [cf_map_range _ _ _ hi, cf_map_range _ _ _ hi]
  by_cases e : i = c + k
  · subst e; rw [if_pos (by omega), if_pos rfl]
  · rw [if_neg e]
    by_cases h1 : c ≤ i ∧ i < c + k
    · rw [if_pos h1, if_pos (by omega)]
    · rw [if_neg h1, if_neg (by omega)]
theorem partL_low (P : List Nat) (f c k i : Nat) (h : i < c) (hl : c ≤ P.length) : cf (partL P f c k) i = cf (P.take c) i := by
  unfold partL
  rw [cf_map_range _ _ _ (by omega), if_neg (by omega)]
  unfold cf
  rw [List.getElem?_take, if_pos h]
theorem partL_high (P : List Nat) (f c i : Nat) (h : c + i < P.length) : cf (partL P f c (P.length - c)) (c + i) = cf (lessL f (P.drop c)) i := by
  unfold partL
  rw [cf_map_range _ _ _ h, if_pos (by omega)]
  unfold lessL cf
  rw [List.getElem?_map, List.getElem?_drop, List.getElem?_eq_getElem h]
  rfl
theorem high_ge {P : List Nat} {f : Nat} (hs : P.Pairwise (· < ·)) (j : Nat) (h1 : lowCount P f ≤ j) (h2 : j < P.length) : f ≤ cf P j := by
  obtain ⟨_, e2, _⟩ := low_count P f hs
  have hm : cf P j ∈ P.drop (lowCount P f) := by
    have h3 : j - lowCount P f < (P.drop (lowCount P f)).length := by rw [List.length_drop]; omega
    have h4 := List.getElem_mem h3
    have h5 : (P.drop (lowCount P f))[j - lowCount P f]? = P[j]? := by rw [List.getElem?_drop, show lowCount P f + (j - lowCount P f) = j from by omega]
    unfold cf
    rw [← h5, List.getElem?_eq_getElem h3]
    exact h4
  rw [e2] at hm
  have := (List.mem_filter.1 hm).2
  simp at this
  omega
/-- A part of an owned row, as a row. -/
theorem part_row {w : World} {B g n cap : Nat} {T : TypeId} {Q R : List Nat} (h : w.ownsRow B T 1 (.slice (some ⟨g, 0, none⟩) n cap) n ((ints Q).map (Value.int .i64))) (off len : Nat) (hl : off + len ≤ n) (hR : R.length = len) (he : ∀ i, i < len → cf Q (off + i) = cf R i) (hm : n ≤ 1000000) :
    Row .i64 w (some ⟨g, off, none⟩) len len (ints R) := by
  refine ⟨by rw [length_ints]; exact hR, Nat.le_refl _, by unfold maxLen; omega, by simp, fun h0 => ?_⟩
  have hc0 := owned_cell h off (by omega)
  refine ⟨g, off, rfl, lt_of_cell hc0, fun i hi => ?_⟩
  rw [owned_cell h (off + i) (by omega), ints_get, ints_get, he i hi]
theorem empty_row (w : World) (a : Option Addr) (cap : Nat) (hc : cap ≤ maxLen) (hn : a = none → cap = 0) : Row .i64 w a 0 cap (ints []) := ⟨rfl, Nat.zero_le _, hc, hn, fun h => absurd h (by omega)⟩

/-- What parted hands back. -/
def Parts (w0 : World) (B : Nat) (p q : List Nat) (e : Ending) (w' : World) : Prop :=
  ∃ a c b d, e = .returned (.tuple #[.slice a p.length c, .slice b q.length d]) ∧ Row .i64 w' a p.length c (ints p) ∧ Row .i64 w' b q.length d (ints q) ∧ Below B w0 w'
set_option maxHeartbeats 1600000 in
set_option maxRecDepth 100000 in
theorem parted_any (w0 : World) (B : Nat) (ao : Option Addr) (m cp f : Nat) (P : List Nat) (w : World) (hown : w.ownsRow B 3 1 (.slice ao m cp) m ((ints P).map (Value.int .i64))) (hs : P.Pairwise (· < ·)) (hP : ∀ q ∈ P, q ≤ 100000) (hm : m ≤ 10000) (hf : f ≤ 10000) (hb : Below B w0 w) :
    Calls Tryz.prog 152 #[.slice ao m cp, .int .i64 f] w (Parts w0 B (P.take (lowCount P f)) (lessL f (P.drop (lowCount P f)))) := by
  have HL : Hid (P.length = m) := by show _ = _; have := hown.1; simpa [length_ints] using this
  have HC : Hid (lowCount P f ≤ m) := by have := (low_count P f hs).2.2; rwa [HL.out] at this
  have hrow : Row .i64 w ao m cp (ints P) := by
    obtain ⟨a', c', hv, hr⟩ := row_of_owns hown
    simp only [Value.slice.injEq, true_and] at hv
    obtain ⟨rfl, rfl⟩ := hv
    exact hr
  have HSHAPE : Hid ((ao = none ∧ cp = 0 ∧ m = 0) ∨ ∃ g, ao = some ⟨g, 0, none⟩ ∧ B ≤ g) := by
    rcases hown.2 with ⟨h1, h2⟩ | ⟨g, cap, cur, h1, h2, _⟩
    · simp only [Value.slice.injEq] at h1
      exact .inl ⟨h1.1, h1.2.2, h2⟩
    · simp only [Value.slice.injEq] at h1
      exact .inr ⟨g, h1.1, h2⟩
  have hcap := hrow.hcap
  have hmax := hrow.hmax
  unfold maxLen at hmax
  have HEX : Hid (∀ k, k ≤ m → (∀ j, j < k → cf P j < f) → ¬ (k < m ∧ cf P k < f) → k = lowCount P f) := fun k hk hlow hno => by
    by_cases h : k < m
    · exact low_end P f k (by rw [HL.out]; exact h) hlow (fun hh => hno ⟨h, hh⟩)
    · have e : k = m := by omega
      rw [low_all P f fun j hj => hlow j (by rw [HL.out] at hj; omega), HL.out, e]
  go_enter Tryz.func152, Tryz.ntmps152
  go_wp2
  go_loop [6] (fun y => ∃ k : Nat, k ≤ m ∧ y = .int .i64 k ∧ ∀ j, j < k → cf P j < f) (fun y => m - (intOf y).toNat)
  case atStart => exact ⟨0, Nat.zero_le _, rfl, fun j hj => absurd hj (by omega)⟩
  case round =>
    obtain ⟨k, hk, rfl, hlow0⟩ := hrel
    have HLOW : Hid (∀ j, j < k → cf P j < f) := hlow0
    clear hlow0
    by_cases hin : k < m ∧ cf P k < f
    · obtain ⟨b, off, rfl, hbs, hcell⟩ := hrow.hcell (by omega)
      have hc1 := hcell k hin.1
      rw [ints_get] at hc1
      clear hcell
      have u1 : (k : Int) < (m : Int) := by omega
      have u2 : (cf P k : Int) < (f : Int) := by omega
      have HIN : Hid (cf P k < f) := hin.2
      clear hin
      go_wp2
      go_round
      case rel =>
        refine ⟨k + 1, by omega, by go_num, fun j hj => ?_⟩
        by_cases e : j = k
        · subst e; exact HIN.out
        · exact HLOW.out j (by omega)
      case measure => simp [intOf]; omega
    · have HCK : Hid (k = lowCount P f) := HEX.out k hk HLOW.out hin
      clear HEX HLOW
      by_cases hkm : k < m
      · have hge : ¬ cf P k < f := fun h => hin ⟨hkm, h⟩
        clear hin
        rcases HSHAPE.out with ⟨_, _, h⟩ | ⟨g, rfl, hgB⟩
        · omega
        obtain ⟨b, off, he, hbs, hcell⟩ := hrow.hcell (by omega)
        simp only [Option.some.injEq, Addr.mk.injEq, and_true] at he
        obtain ⟨rfl, rfl⟩ := he
        have hc1 := hcell k hkm
        rw [ints_get, Nat.zero_add] at hc1
        clear hcell
        have u1 : (k : Int) < (m : Int) := by omega
        have u2 : ¬ (cf P k : Int) < (f : Int) := by omega
        go_wp2
        go_region
        clear hc1 u2 hge hbs hrow
        have HD : Hid (m - k = P.length - k) := by show _ = _; rw [HL.out]
        have HGE : Hid (∀ i, k + i < m → f ≤ cf P (k + i)) := fun i hi => high_ge hs (k + i) (by have := HCK.out; omega) (by rw [HL.out]; exact hi)
        have HBD : Hid (∀ i, k + i < m → cf P (k + i) ≤ 100000) := fun i hi => hP _ (by unfold cf; rw [List.getElem?_eq_getElem (show k + i < P.length by rw [HL.out]; exact hi)]; exact List.getElem_mem _)
        have HFIN : Hid (∀ wr : World, wr.ownsRow B 3 1 (.slice (some ⟨g, 0, none⟩) m cp) m ((ints (partL P f k (m - k))).map (Value.int .i64)) → Below B w0 wr → Parts w0 B (P.take (lowCount P f)) (lessL f (P.drop (lowCount P f))) (.returned (.tuple #[.slice (some ⟨g, 0, none⟩) k k, .slice (some ⟨g, k, none⟩) (m - k) (m - k)])) wr) := fun wr ho hb => by
          rw [← HCK.out]
          have l1 : (P.take k).length = k := by rw [List.length_take, HL.out]; omega
          have l2 : (lessL f (P.drop k)).length = m - k := by unfold lessL; rw [List.length_map, List.length_drop, HL.out]
          refine ⟨some ⟨g, 0, none⟩, k, some ⟨g, k, none⟩, m - k, by rw [l1, l2], ?_, ?_, hb⟩
          · rw [l1]
            exact part_row ho 0 k (by omega) l1 (fun i hi => by rw [Nat.zero_add, partL_low P f k _ i hi (by rw [HL.out]; omega)]) (by omega)
          · rw [l2]
            exact part_row ho k (m - k) (by omega) l2 (fun i hi => by rw [HD.out, partL_high P f k i (by rw [HL.out]; omega)]) (by omega)
        have HS : Hid (∀ i, k + i < m → partL P f k (i + 1) = (partL P f k i).set (k + i) (cf P (k + i) - f) ∧ cf (partL P f k i) (k + i) = cf P (k + i)) := fun i hi => ⟨partL_succ P f k i (by rw [HL.out]; exact hi), cf_partL P f k i (by rw [HL.out]; exact hi)⟩
        have hown0 : w.ownsRow B 3 1 (.slice (some ⟨g, 0, none⟩) m cp) m ((ints (partL P f k 0)).map (Value.int .i64)) := by rw [partL_zero]; exact hown
        clear hown hs hP HSHAPE
        go_wp2
        go_loopw [35] (fun y wr => ∃ i : Nat, i ≤ m - k ∧ y = .int .i64 i ∧ wr.ownsRow B 3 1 (.slice (some ⟨g, 0, none⟩) m cp) m ((ints (partL P f k i)).map (Value.int .i64)) ∧ Below B w0 wr) (fun y _ => m - k - (intOf y).toNat)
        case atStart => exact ⟨0, Nat.zero_le _, rfl, hown0.drew, hb.drew⟩
        case round =>
          clear hown0 hb
          obtain ⟨i, hi, rfl, ho, hb⟩ := hrel
          by_cases hlt : i < m - k
          · obtain ⟨hS1, hS2⟩ := HS.out i (by omega)
            have hcl := owned_cell ho (k + i) (by omega)
            have hfz := ho.frozenAt (k + i)
            rw [ints_get, hS2] at hcl
            have hge := HGE.out i (by omega)
            have hbd := HBD.out i (by omega)
            have R := owned_set (q := k + i) (x := ((cf P (k + i) - f : Nat) : Int)) hgB ho hb
            rw [ints_set, ← hS1] at R
            have HR : Hid _ := R
            clear R hS1 hS2 ho hb HFIN HS HGE HBD
            generalize cf P (k + i) = x at *
            have v1 : IntKind.i64.wrap ((x : Int) - (f : Int)) = ((x - f : Nat) : Int) := by rw [IntKind.wrap_i64]; omega
            have v2 : (x : Int) - (f : Int) = ((x - f : Nat) : Int) := by omega
            have v3 : (i : Int) < ((m - k : Nat) : Int) := by omega
            have v4 : (i : Int) < (m : Int) - (k : Int) := by omega
            generalize x - f = xf at *
            go_wp2
            go_roundw
            case rel => exact ⟨i + 1, by omega, by go_num, HR.out.1, HR.out.2⟩
            case measure => simp [intOf]; omega
          · have e : i = m - k := by omega
            subst e
            have HF : Hid _ := HFIN.out wr ho hb
            clear ho hb HFIN HS HGE HBD
            go_wp2
            go_ret2
            exact HF.out
      · have e : k = m := by omega
        subst e
        clear hin
        have HFIN : Hid (∀ (wr : World) (b : Option Addr) (d : Nat), d ≤ 100000 → (b = none → d = 0) → wr = w ∨ wr = w.drew → Parts w0 B (P.take (lowCount P f)) (lessL f (P.drop (lowCount P f))) (.returned (.tuple #[.slice ao k k, .slice b 0 d])) wr) := fun wr b d hd hbn hw => by
          rw [← HCK.out]
          have l1 : (P.take k).length = k := by rw [List.length_take, HL.out]; omega
          have l2 : lessL f (P.drop k) = [] := by unfold lessL; rw [List.drop_of_length_le (by rw [HL.out]; exact Nat.le_refl _)]; rfl
          have hrow2 : Row .i64 w ao k k (ints (P.take k)) := by
            rw [List.take_of_length_le (by rw [HL.out]; exact Nat.le_refl _)]
            exact ⟨by rw [length_ints, HL.out], Nat.le_refl _, by unfold maxLen; omega, fun h => by have := hrow.hnil h; omega, hrow.hcell⟩
          refine ⟨ao, k, b, d, by rw [l1, l2]; rfl, ?_, ?_, ?_⟩
          · rw [l1]; rcases hw with rfl | rfl
            · exact hrow2
            · exact hrow2.drew
          · rw [l2]; exact empty_row wr b d (by unfold maxLen; omega) hbn
          · rcases hw with rfl | rfl
            · exact hb
            · exact hb.drew
        have u1 : ¬ (k : Int) < (k : Int) := by omega
        rcases HSHAPE.out with ⟨rfl, rfl, hk0⟩ | ⟨g, rfl, hgB⟩
        · subst hk0
          have HF : Hid _ := HFIN.out w.drew none 0 (by omega) (fun _ => rfl) (.inr rfl)
          clear HFIN
          go_wp2
          go_region
          go_wp2
          go_loop [35] (fun y => y = .int .i64 0) (fun _ => 0)
          case atStart => rfl
          case round =>
            subst hrel
            go_wp2
            go_ret2
            exact HF.out
        · clear hrow HSHAPE
          have HF : Hid _ := HFIN.out w.drew (some ⟨g, 0, none⟩) 0 (by omega) (by simp) (.inr rfl)
          clear HFIN
          go_wp2
          go_region
          go_wp2
          go_loop [35] (fun y => y = .int .i64 0) (fun _ => 0)
          case atStart => rfl
          case round =>
            subst hrel
            go_wp2
            go_ret2
            exact HF.out

end Go.Proofs.YtgamakejaknagaaGreat

/-
  The code of layer 5 (bch), as it landed: Decode returns what the face asks.
-/
namespace Go.Proofs.YtgamakejaknagaaGreat
open Go.RowKit
set_option linter.unusedVariables false
set_option maxRecDepth 8192

theorem results_tmp4 {fn : Func} {t u v x : Tmp} (h : fn.results = #[.tmp t, .tmp u, .tmp v, .tmp x]) (tmps : Array Value) (P : Program) (w : World) :
    (results fn tmps).run P w = .ok (.tuple #[tmps.getD t undef, tmps.getD u undef, tmps.getD v undef, tmps.getD x undef]) w := by
  simp [results, h]
theorem gives4_nil (w w' : World) (f : Int) (hb : Below w.heap.size w w') : Gives4 w [] [] 0 f (.returned (.tuple #[.slice none 0 0, .slice none 0 0, .int .i64 0, .int .i64 f])) w' :=
  ⟨none, 0, none, 0, rfl, nil_row w', nil_row w', hb⟩
theorem wf_of_in {n : Nat} {ps : List Int} (h : inAll n ps) (hn : n ≤ 1000000) : ∀ p ∈ ps, (Lit.int .i64 p).wf = true := fun p hp => by
  have := h p hp
  simp [Lit.wf, IntKind.min, IntKind.max, IntKind.signed, IntKind.bits]
  omega
theorem take_snoc_n (P : List Nat) (i : Nat) (h : i < P.length) : P.take (i + 1) = P.take i ++ [cf P i] := by
  rw [List.take_add_one, List.getElem?_eq_getElem h]
  unfold cf
  rw [List.getElem?_eq_getElem h]
  rfl

set_option maxHeartbeats 3200000 in
set_option maxRecDepth 100000 in
theorem decC : HDecC where
  no := by
    intro t a c len cap len' cap' x m w hr hx hr' hm hsm hsm' hn h1 h2
    by_cases hd : mayD t len = true
    · have hd' : 1 ≤ t ∧ t ≤ 8 ∧ 1 ≤ len ∧ len ≤ 512 := by unfold mayD at hd; simpa using hd
      obtain ⟨t, rfl⟩ := Int.eq_ofNat_of_zero_le (show 0 ≤ t by omega)
      have hne : ¬ len' = (13 * t + 7) / 8 := by unfold mayB at hn; rw [decide_eq_false_iff_not] at hn; omega
      have hq : (((len' : Nat) : Int) != (((13 * t + 7) / 8 : Nat) : Int)) = true := by simp; omega
      have hmb := moreBytes_any t
      generalize (13 * t + 7) / 8 = nn at *
      go_enter Tryz.func135, Tryz.ntmps135
      go_wp2_with fail
      refine (mayBe_any t a len cap _ (by omega)).mono ?_
      rintro e w' ⟨rfl, rfl⟩
      rw [hd]
      go_wp2_with fail
      refine (hmb _ (by omega)).mono ?_
      rintro e w' ⟨rfl, rfl⟩
      go_wp2_with fail
      refine bodyPost_ret (results_tmp4 rfl _ _ _) rfl ?_
      exact gives4_nil _ _ _ (Below.refl _ _)
    · rw [Bool.not_eq_true] at hd
      go_enter Tryz.func135, Tryz.ntmps135
      go_wp2_with fail
      refine (mayBe_any t a len cap _ (by omega)).mono ?_
      rintro e w' ⟨rfl, rfl⟩
      rw [hd]
      go_wp2_with fail
      refine bodyPost_ret (results_tmp4 rfl _ _ _) rfl ?_
      exact gives4_nil _ _ _ (Below.refl _ _)
  yes := by
    intro t a c len cap len' cap' x m w hr hx hr' hm hsm hsm' hy
    have hy' : 1 ≤ t ∧ t ≤ 8 ∧ 1 ≤ len ∧ len ≤ 512 ∧ len' = (13 * t + 7) / 8 := by unfold mayB at hy; rw [decide_eq_true_iff] at hy; omega
    obtain ⟨h1, h8, hl1, hl2, hl'⟩ := hy'
    have HB : Hid (mayD t len = true) := by show _ = _; unfold mayD; rw [decide_eq_true_iff]; omega
    have hro := rowOf_any t a c len cap len' cap' x m w hr hx hr' hm h1 h8 (by omega) hl'
    have hmb := moreBytes_any t
    rw [← hl'] at hmb
    have HLL : Hid (len' = (13 * t + 7) / 8) := hl'
    have HX : Hid (x.length = len) := hr.hlen
    have HM : Hid (m.length = len') := hr'.hlen
    have hlen8 : 13 * t + 8 * len ≤ 8191 := by omega
    have HSL : Hid ((sumsTo (wordL t x m) (2 * t)).length = 2 * t) := length_sumsTo _ _
    have hsP : IsP (sumsTo (wordL t x m) (2 * t)) := isP_sumsTo (is01_wordL t x m).isP _
    have hok := bm_ok hsP (2 * t)
    have HFound : Hid (∀ d k n, IsDec t x m d k n → (bmTo (sumsTo (wordL t x m) (2 * t)) (2 * t)).now.length - 1 ≤ t ∧
        cleanB (turnTo (sumsTo (wordL t x m) (2 * t)) (rts (bmTo (sumsTo (wordL t x m) (2 * t)) (2 * t)).now (13 * t + 8 * len))) = true) := fun d k n h => by
      have := dec_found (by rw [HX.out]; exact hlen8) h
      rwa [HX.out] at this
    have HWords : Hid (∀ z loc, IsLow t m z → inAll len' (ints ((rts loc (13 * t + 8 * len)).take (lowCount (rts loc (13 * t + 8 * len)) (13 * t)))) ∧ inAll len (ints (lessL (13 * t) ((rts loc (13 * t + 8 * len)).drop (lowCount (rts loc (13 * t + 8 * len)) (13 * t)))))) := fun z loc hz => by
      have := dec_words h1 h8 hx (by rw [HM.out, HLL.out]) hz (f := fun i => evl loc (ginv (gpow 2 i)) == 0) (P := rts loc (13 * t + 8 * len)) (by rw [HX.out]; rfl)
      rw [hz.len, HM.out, HX.out] at this
      exact ⟨this.1, this.2.1⟩
    have HYes : Hid (∀ z loc, IsLow t m z → IsP loc → norm loc = loc → loc ≠ [] → loc.length - 1 ≤ t → cleanB (turnTo (sumsTo (wordL t x m) (2 * t)) (rts loc (13 * t + 8 * len))) = true →
        IsDec t x m (turnI x (ints (lessL (13 * t) ((rts loc (13 * t + 8 * len)).drop (lowCount (rts loc (13 * t + 8 * len)) (13 * t)))))) (turnI z (ints ((rts loc (13 * t + 8 * len)).take (lowCount (rts loc (13 * t + 8 * len)) (13 * t))))) (rts loc (13 * t + 8 * len)).length) := fun z loc hz hp hn hne hl hc => by
      have := dec_yes h1 h8 hx (by rw [HM.out, HLL.out]) hz (by rw [HX.out]; exact hlen8) hp hn hne hl (by rw [HX.out]; exact hc)
      rwa [HX.out] at this
    have hP1 := hok.pn
    have hN1 := hok.nn
    have hl3 : (bmTo (sumsTo (wordL t x m) (2 * t)) (2 * t)).now.length ≤ 2 * t + 1 := by have := hok.ln; have := hok.len; omega
    have hNE : (bmTo (sumsTo (wordL t x m) (2 * t)) (2 * t)).now ≠ [] := fun e => by have := hok.one; rw [e] at this; exact absurd this (by decide)
    clear hl' hy hok
    have hlocC : ∀ B g h w1, RowAt 3 w1 B g h (2 * t) (sumsTo (wordL t x m) (2 * t)) → Calls Tryz.prog 148 #[.pointer (some ⟨g, 0, none⟩)] w1 (HandsL w1 (bmTo (sumsTo (wordL t x m) (2 * t)) (2 * t)).now) := fun B g h w1 r => locator_any B g h (2 * t) _ w1 r hsP (by omega)
    generalize (bmTo (sumsTo (wordL t x m) (2 * t)) (2 * t)).now = loc at *
    generalize sumsTo (wordL t x m) (2 * t) = s at *
    have HN1 : Hid (norm loc = loc) := hN1
    clear hN1
    generalize hll : loc.length = ll at *
    have HLLL : Hid (loc.length = ll) := hll
    clear hll
    have hll1 : 1 ≤ ll := by have := List.length_pos_iff.2 hNE; have := HLLL.out; omega
    go_enter Tryz.func135, Tryz.ntmps135
    go_wp2_with fail
    refine (mayBe_any t a len cap _ (by omega)).mono ?_
    rintro e w' ⟨rfl, rfl⟩
    rw [HB.out]
    go_wp2_with fail
    refine (hmb _ (by omega)).mono ?_
    rintro e w' ⟨rfl, rfl⟩
    clear hmb
    go_wp2_with fail
    refine hro.mono ?_
    rintro e w1 ⟨g, h, rfl, r, hb1⟩
    clear hro
    have hl := hlocC _ _ _ _ r
    clear hlocC
    go_wp2_with fail
    refine hl.mono ?_
    rintro e w2 ⟨a2, c2, rfl, hr2, hb2⟩
    clear hl
    replace r := r.below hb2
    have hB2 : Below w.heap.size w w2 := btrans hb1 hb2
    clear hb1 hb2
    rw [HLLL.out] at hr2 ⊢
    by_cases hbig : ll - 1 > t
    · have HNO : Hid (∀ d k n, ¬ IsDec t x m d k n) := fun d k n hd => by have := (HFound.out d k n hd).1; omega
      have u1 : (t : Int) < (ll : Int) - 1 := by omega
      clear HFound HWords HYes
      go_wp2_with fail
      refine bodyPost_ret (results_tmp4 rfl _ _ _) rfl ?_
      exact .inr ⟨HNO.out, gives4_nil _ _ _ hB2⟩
    · have u1 : ¬ (t : Int) < (ll : Int) - 1 := by omega
      have hroots := roots_any a2 ll c2 (13 * t + 8 * len) loc w2 hr2 hP1 HN1.out hNE hlen8 (by omega)
      have HSORT : Hid ((rts loc (13 * t + 8 * len)).Pairwise (· < ·)) := sorted_filter _ _
      have HLOW : Hid (∀ q ∈ rts loc (13 * t + 8 * len), q ≤ 1000) := fun q hq => by have := (mem_rts.1 hq).1; omega
      have hPl : (rts loc (13 * t + 8 * len)).length ≤ 1000 := by have := length_rts_le loc (13 * t + 8 * len); omega
      have HW2 : Hid (∀ z, IsLow t m z → _) := fun z => HWords.out z loc
      have HY2 : Hid (∀ z, IsLow t m z → _) := fun z hz => HYes.out z loc hz hP1 HN1.out hNE (by rw [HLLL.out]; omega)
      have HF2 : Hid (∀ d k n, IsDec t x m d k n → cleanB (turnTo s (rts loc (13 * t + 8 * len))) = true) := fun d k n hd => (HFound.out d k n hd).2
      clear HFound HWords HYes
      generalize rts loc (13 * t + 8 * len) = P at *
      generalize hpl : P.length = pl at *
      have HPL : Hid (P.length = pl) := hpl
      clear hpl
      have u2 : IntKind.i64.wrap (13 * (t : Int)) = 13 * (t : Int) := by rw [IntKind.wrap_i64]; omega
      have u4 : 13 * (t : Int) + 8 * (len : Int) = ((13 * t + 8 * len : Nat) : Int) := by omega
      generalize hN : 13 * t + 8 * len = N at *
      clear hN
      go_wp2_with fail
      refine hroots.mono ?_
      rintro e w3 ⟨v, rfl, hownP, hb3⟩
      clear hroots
      obtain ⟨ao, cp, rfl, _⟩ := row_of_owns hownP
      have hrh := r.own.lt h rfl
      replace r := r.below hb3
      have hB3 : Below w.heap.size w w3 := btrans hB2 hb3
      have hsz23 := hb3.size
      have hsz2 := hB2.size
      clear hB2 hb3 hr2
      have HT0 : Hid (turnTo s (P.take 0) = s) := turnTo_nil s
      have HTS : Hid (∀ i, i < pl → turnPart (turnTo s (P.take i)) (cf P i) (2 * t) = turnTo s (P.take (i + 1))) := fun i hi => by
        rw [take_snoc_n P i (by rw [HPL.out]; exact hi), ← turnPart_all, HSL.out]
      have HTP : Hid (∀ i, IsP (turnTo s (P.take i))) := fun i => isP_turnTo hsP _
      have HTE : Hid (turnTo s (P.take pl) = turnTo s P) := by show _ = _; rw [List.take_of_length_le (by rw [HPL.out]; exact Nat.le_refl _)]
      have HCF : Hid (∀ i, i < pl → cf P i ≤ 1000) := fun i hi => HLOW.out _ (by
        have hi' : i < P.length := by rw [HPL.out]; exact hi
        unfold cf
        rw [List.getElem?_eq_getElem hi']
        exact List.getElem_mem hi')
      go_wp2_with fail
      go_loopw [53] (fun y wr => ∃ i : Nat, i ≤ pl ∧ y = .int .i64 i ∧ RowAt 3 wr w.heap.size g h (2 * t) (turnTo s (P.take i)) ∧ wr.ownsRow w2.heap.size 3 1 (.slice ao pl cp) pl ((ints P).map (Value.int .i64)) ∧ Below w.heap.size w wr) (fun y _ => pl - (intOf y).toNat)
      case atStart => exact ⟨0, Nat.zero_le _, rfl, by rw [HT0.out]; exact r, hownP, hB3⟩
      case round =>
        clear r hownP hB3
        obtain ⟨i, hi, rfl, r, hownP, hB⟩ := hrel
        have hszr := hB.size
        by_cases hlt : i < pl
        · obtain ⟨gp, hgp, rfl⟩ := owns_head hownP (by omega)
          have hc1 := owned_cell hownP i hlt
          rw [ints_get] at hc1
          have hcf := HCF.out i hlt
          have HTSi : Hid _ := HTS.out i hlt
          have HTPi := HTP.out i
          have u5 : (i : Int) < (pl : Int) := by omega
          go_wp2_with fail
          refine (rowTurn_any w.heap.size g h (2 * t) (cf P i) _ _ r HTPi (by omega) (by omega)).mono ?_
          rintro e w4 ⟨⟨v, rfl⟩, r4, hg4⟩
          rw [HTSi.out] at r4
          have hown4 := owns_other hownP hg4 (fun b hb => by simp at hb; omega)
          have hB4 : Below w.heap.size w w4 := hB.grown hg4 hszr (fun b hb => by simp at hb; have := r4.hh; omega)
          clear r hownP hB HTPi HTSi hc1
          go_wp2_with fail
          go_roundw
          case rel => exact ⟨i + 1, by omega, by go_num, r4, hown4, hB4⟩
          case measure => simp [intOf]; omega
        · have e : i = pl := by omega
          subst e
          rw [HTE.out] at r
          clear HTS HTP HTE HT0 HCF
          go_wp2_with fail
          refine (rowClean_any w.heap.size g h (2 * t) _ _ r (by omega)).mono ?_
          rintro e w' ⟨rfl, rfl⟩
          cases hcl : cleanB (turnTo s P)
          · have HNO : Hid (∀ d k n, ¬ IsDec t x m d k n) := fun d k n hd => by have := HF2.out d k n hd; rw [hcl] at this; simp at this
            clear HF2 HY2 HW2 hownP r
            go_wp2_with fail
            refine bodyPost_ret (results_tmp4 rfl _ _ _) rfl ?_
            exact .inr ⟨HNO.out, gives4_nil _ _ _ hB⟩
          · have HY3 : Hid (∀ z, IsLow t m z → _) := fun z hz => HY2.out z hz hcl
            clear HF2 HY2 hcl r
            have hpart := parted_any w w.heap.size ao i cp (13 * t) P _ (owns_base hownP hsz2) HSORT.out (fun q hq => by have := HLOW.out q hq; omega) (by omega) (by omega) hB
            clear hownP
            have HSORT' := HSORT.out
            clear HSORT HSORT'
            generalize hP1 : P.take (lowCount P (13 * t)) = Pm at *
            generalize hP2 : lessL (13 * t) (P.drop (lowCount P (13 * t))) = Pd at *
            clear hP1 hP2
            rw [show ((13 * t : Nat) : Int) = 13 * (t : Int) from by omega] at hpart
            go_wp2_with fail
            refine hpart.mono ?_
            rintro e w5 ⟨a5, c5, b5, d5, rfl, hrm, hrd, hB5⟩
            clear hpart hB
            generalize hlpm : Pm.length = lpm at *
            generalize hlpd : Pd.length = lpd at *
            clear hlpm hlpd
            have hr'5 := hr'.below hB5 (Nat.le_refl _)
            have hbel := below_bch t c len' cap' m w5 hr'5 hm h1 h8 HLL.out
            go_wp2_with fail
            refine hbel.mono ?_
            rintro e w6 ⟨z, hz, a6, c6, rfl, hr6, hb6⟩
            clear hbel hr'5
            have hzl : z.length = len' := by rw [hz.len, HM.out]
            have hzB := hz.isB
            have hW := HW2.out z hz
            have HIN1 : Hid (inB len' (ints Pm) = true) := (inB_iff _ _).2 hW.1
            have HIN2 : Hid (inB len (ints Pd) = true) := (inB_iff _ _).2 hW.2
            have HWF1 : Hid (∀ n ∈ ints Pm, (Lit.int .i64 n).wf = true) := wf_of_in hW.1 (by omega)
            have HWF2 : Hid (∀ n ∈ ints Pd, (Lit.int .i64 n).wf = true) := wf_of_in hW.2 (by omega)
            have HDEC : Hid _ := HY3.out z hz
            rw [hzl] at hr6 ⊢
            have HLK : Hid ((turnI z (ints Pm)).length = len') := by show _ = _; rw [length_turnI, hzl]
            have HLD : Hid ((turnI x (ints Pd)).length = len) := by show _ = _; rw [length_turnI, HX.out]
            clear hz hzl hW HY3 HW2
            replace hrm := hrm.below hb6 (Nat.le_refl _)
            replace hrd := hrd.below hb6 (Nat.le_refl _)
            have hB6 : Below w.heap.size w w6 := hB5.trans (hb6.mono hB5.size)
            clear hB5 hb6
            have hturn := turn_any a6 a5 len' c6 lpm c5 z (ints Pm) w6 hr6 hzB hrm HWF1.out (by omega)
            go_wp2_with fail
            refine hturn.mono ?_
            rintro e w7 ⟨hb7, h7⟩
            rcases h7 with ⟨_, rfl, hown7⟩ | ⟨hf7, _⟩
            case inr => exact absurd hf7 (by rw [HIN1.out]; simp)
            clear hturn hr6
            have hr7 := isB_of_row hown7
            replace hrd := hrd.below hb7 (Nat.le_refl _)
            have hB7 : Below w.heap.size w w7 := hB6.trans (hb7.mono hB6.size)
            clear hB6 hb7 hown7 hrm
            have hr1 := hr.below hB7 (Nat.le_refl _)
            have hturn := turn_any a b5 len cap lpd d5 x (ints Pd) w7 hr1 hx hrd HWF2.out (by omega)
            generalize w6.heap.size = g6 at *
            go_wp2_with fail
            refine hturn.mono ?_
            rintro e w8 ⟨hb8, h8'⟩
            rcases h8' with ⟨_, rfl, hown8⟩ | ⟨hf8, _⟩
            case inr => exact absurd hf8 (by rw [HIN2.out]; simp)
            clear hturn hr1
            have hr8 := isB_of_row hown8
            replace hr7 := hr7.below hb8 (Nat.le_refl _)
            have hB8 : Below w.heap.size w w8 := hB7.trans (hb8.mono hB7.size)
            clear hB7 hb8 hown8 hrd
            generalize w7.heap.size = g7 at *
            generalize turnI x (ints Pd) = od at *
            generalize turnI z (ints Pm) = om at *
            go_wp2_with fail
            refine bodyPost_ret (results_tmp4 rfl _ _ _) rfl ?_
            refine .inl ⟨od, om, i, HDEC.out, some ⟨g7, 0, none⟩, len, some ⟨g6, 0, none⟩, len', by rw [HLD.out, HLK.out]; rfl, by rw [HLD.out]; exact hr8, by rw [HLK.out]; exact hr7, hB8⟩

end Go.Proofs.YtgamakejaknagaaGreat
