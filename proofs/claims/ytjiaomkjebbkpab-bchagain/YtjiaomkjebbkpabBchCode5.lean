/-
  The code of layer 5 (bch), as it landed: rowOf, Sums return what the face asks.
-/
import Derived.Test.YtjiaomkjebbkpabBchCode4
namespace Go.Proofs.Ytjiaomkjebbkpab
open Go.RowKit
set_option linter.unusedVariables false

/-- The sums, laid down one by one. -/
def sumsUp (p : List Nat) (n k : Nat) : List Nat := (List.range n).map fun i => if i < k then evl p (gpow 2 (i + 1)) else 0
theorem length_sumsUp (p : List Nat) (n k : Nat) : (sumsUp p n k).length = n := by simp [sumsUp]
theorem sumsUp_zero (p : List Nat) (n : Nat) : sumsUp p n 0 = List.replicate n 0 := by
  apply eq_of_cf (by simp [length_sumsUp])
  intro i hi
  rw [length_sumsUp] at hi
  unfold sumsUp
  rw [cf_map_range _ _ _ hi, if_neg (by omega)]
  simp [cf, hi]
theorem sumsUp_succ (p : List Nat) (n k : Nat) (hk : k < n) : sumsUp p n (k + 1) = (sumsUp p n k).set k (evl p (gpow 2 (k + 1))) := by
  apply eq_of_cf (by simp [length_sumsUp])
  intro i hi
  rw [length_sumsUp] at hi
  rw [cf_set _ _ _ _ (by rw [length_sumsUp]; exact hk)]
  unfold sumsUp
  rw [cf_map_range _ _ _ hi, cf_map_range _ _ _ hi]
  by_cases e : i = k
  · subst e; rw [if_pos (by omega), if_pos rfl]
  · rw [if_neg e]
    by_cases h : i < k
    · rw [if_pos h, if_pos (by omega)]
    · rw [if_neg h, if_neg (by omega)]
theorem sumsUp_all (p : List Nat) (n : Nat) : sumsUp p n n = sumsTo p n := by
  unfold sumsUp sumsTo
  apply List.map_congr_left
  intro i hi
  rw [if_pos (List.mem_range.1 hi)]
theorem sumsUp_eqv {p q : List Nat} (n k : Nat) (h : ∀ i, 1 ≤ i → i ≤ n → evl p (gpow 2 i) = evl q (gpow 2 i)) : sumsUp p n k = sumsUp q n k := by
  unfold sumsUp
  apply List.map_congr_left
  intro i hi
  rw [h (i + 1) (by omega) (by have := List.mem_range.1 hi; omega)]
/-- A row of sums that was just made. -/
theorem rowAt_new {w w1 : World} {T S : TypeId} {n : Nat} (hg : w1.heap[w.heap.size]? = some (.cells ((List.replicate n (0 : Int)).map (Value.int .i64)).toArray T (0, 0))) (hb : Below w.heap.size w w1) (hm : n ≤ maxLen) :
    RowAt T (w1.alloc (.cells #[.slice (some ⟨w.heap.size, 0, none⟩) n n] S)) w.heap.size w1.heap.size w.heap.size n (List.replicate n 0) ∧ Below w.heap.size w (w1.alloc (.cells #[.slice (some ⟨w.heap.size, 0, none⟩) n n] S)) := by
  have hlt : w.heap.size < w1.heap.size := by
    rcases Nat.lt_or_ge w.heap.size w1.heap.size with h | h
    · exact h
    · rw [Array.getElem?_eq_none h] at hg; simp at hg
  refine ⟨⟨?_, ?_, by omega, Nat.le_refl _, by omega⟩, hb.alloc (by omega) _⟩
  · rw [World.cell?_alloc_at _ _ _ _ rfl]; rfl
  · have h1 : w1.ownsRow w.heap.size T 1 (.slice (some ⟨w.heap.size, 0, none⟩) n n) n ((List.replicate n (0 : Int)).map (Value.int .i64)) := owns_of_heap hg (by simp) (Nat.le_refl _) hm
    rw [ints_replicate]
    exact owns_below h1 (below_one w1 _)
set_option maxHeartbeats 1600000 in
set_option maxRecDepth 100000 in
theorem rowOf_any (t : Nat) (a c : Option Addr) (len cap len' cap' : Nat) (x m : List Int) (w : World) (hr : Row .u8 w a len cap x) (hx : IsB x) (hr' : Row .u8 w c len' cap' m) (hm : IsB m) (h1 : 1 ≤ t) (h8 : t ≤ 8) (hl : len ≤ 400) (hl' : len' = (13 * t + 7) / 8) :
    Calls Try.prog 11 #[.int .i64 t, .slice a len cap, .slice c len' cap'] w fun e w' => ∃ g h, e = .returned (.pointer (some ⟨g, 0, none⟩)) ∧ RowAt 3 w' w.heap.size g h (2 * t) (sumsTo (wordL t x m) (2 * t)) ∧ Below w.heap.size w w' := by
  obtain ⟨j0, hj0, hy0, hy1, hy2⟩ := info_parts Try.info3
  have HX : Hid (x.length = len) := hr.hlen
  have HM : Hid (m.length = len') := hr'.hlen
  have HLL : Hid (len' = (13 * t + 7) / 8) := hl'
  have hl20 : len' ≤ 20 := by omega
  clear hl'
  have HV : Hid (∀ z y s r, Raised t x z → IsLow t m y → IsMod (bts s) (genTo t) r → s = nb (addL (bts z) (bts y)) → ∀ k, sumsUp (bts (nb r)) (2 * t) k = sumsUp (wordL t x m) (2 * t) k) := fun z y s r hz hy hr hs k => by
    have h01 := is01_addL (is01_bts z) (is01_bts y)
    subst hs
    have hm' := hr.eqv ((bts_nb h01).trans (word_sum hz hy)) (Eqv.refl _) (is01_genTo t) (is01_genTo t) (Eqv.refl _) hr.hr
    apply sumsUp_eqv
    intro i i1 i2
    rw [evl_eqv _ (bts_nb hr.hr), mod_values hm' i i1 i2]
  have HRL : Hid (∀ z y s r, Raised t x z → IsLow t m y → IsMod (bts s) (genTo t) r → (nb r).length ≤ 20) := fun z y s r hz hy hr => by
    have := rest_len h8 hr
    rw [length_nb]
    omega
  have HSL : Hid (∀ z y, Raised t x z → IsLow t m y → (nb (addL (bts z) (bts y))).length ≤ 450) := fun z y hz hy => by
    have h2 := word_sum hz hy
    rw [length_nb, norm_ext h2]
    have := norm_length_le (wordL t x m)
    rw [length_wordL, HX.out] at this
    omega
  have hmax : 2 * t ≤ maxLen := by unfold maxLen; omega
  go_enter Try.func11, Try.ntmps11
  go_wp2_with fail
  refine (raised_bch t a len cap x _ hr hx h8 (by omega)).mono ?_
  rintro e w1 ⟨z, hz, a1, cp1, rfl, hrow1, hb1⟩
  have hzl := hz.len
  rw [HX.out] at hzl
  have hzB := hz.isB
  have HZ : Hid (Raised t x z) := hz
  clear hz
  generalize hlz : z.length = lz at *
  have HLZ : Hid (z.length = lz) := hlz
  clear hlz
  have hr1 := hr'.below hb1 (Nat.le_refl _)
  go_wp2_with fail
  refine (below_bch t c len' cap' m _ hr1 hm h1 h8 HLL.out).mono ?_
  rintro e w2 ⟨y, hy, a2, cp2, rfl, hrow2, hb2⟩
  have hyB := hy.isB
  have HY : Hid (IsLow t m y) := hy
  have hyl : y.length = len' := by rw [hy.len, HM.out]
  rw [hyl] at hrow2 ⊢
  clear hy hyl
  have hrow1' := hrow1.below hb2 (Nat.le_refl _)
  go_wp2_with fail
  refine (baddC _ _ _ _ _ _ z y _ hrow1' hrow2 hzB hyB (by omega) (by omega)).mono ?_
  rintro e w3 ⟨a3, cp3, rfl, hrow3, hb3⟩
  have hsl := HSL.out z y HZ.out HY.out
  have hsB : IsB (nb (addL (bts z) (bts y))) := isB_nb (is01_addL (is01_bts z) (is01_bts y))
  have hB3 : Below w.heap.size w w3 := btrans (btrans hb1 hb2) hb3
  clear hrow1 hrow1' hrow2 hb1 hb2 hb3 hr1
  have HRF := HV.out z y (nb (addL (bts z) (bts y)))
  have HRL2 := HRL.out z y (nb (addL (bts z) (bts y)))
  have HRF' : Hid _ := HRF
  have HRL' : Hid _ := HRL2
  clear HRF HRL2 HV HRL HSL
  generalize hns : nb (addL (bts z) (bts y)) = s at *
  have HNS : Hid (nb (addL (bts z) (bts y)) = s) := hns
  clear hns
  generalize hls : s.length = ls at *
  have HLS : Hid (s.length = ls) := hls
  clear hls
  go_wp2_with fail
  refine (rest_any t _ _ _ s _ hrow3 hsB h1 h8 (by omega)).mono ?_
  rintro e w4 ⟨r, hmod, a4, cp4, rfl, hrow4, hb4⟩
  have hB4 : Below w.heap.size w w4 := btrans hB3 hb4
  have HU : Hid (∀ k, sumsUp (bts (nb r)) (2 * t) k = sumsUp (wordL t x m) (2 * t) k) := fun k => HRF'.out r HZ.out HY.out hmod trivial k
  have hrl := HRL'.out r HZ.out HY.out hmod
  have hrB : IsB (nb r) := isB_nb hmod.hr
  clear HRF' HRL' hmod hrow3 hB3 hb4
  generalize nb r = left at *
  generalize hlr : left.length = lr at *
  have HLR : Hid (left.length = lr) := hlr
  clear hlr
  have hmk : ∀ w5 : World, w5.ownsRow w4.heap.size 3 1 (.slice (some ⟨w4.heap.size, 0, none⟩) (2 * t) (2 * t)) (2 * t) (madeCells (Value.int IntKind.i64 0).cells ((2 * t) * 1)).toList → w4.grownBy w5 none →
      w5.heap[w4.heap.size]? = some (.cells ((List.replicate (2 * t) (0 : Int)).map (Value.int .i64)).toArray 3 (0, 0)) ∧ Below w4.heap.size w4 w5 := fun w5 h1 h2 => by
    rw [made_ints] at h1
    exact ⟨heap_of_owns h1, (Below.refl _ _).grown h2 (Nat.le_refl _) (by simp)⟩
  go_wp2_with (at_make; refine wpList_make_full _ rfl _ _ 30 rfl w4.heap.size 3 j0 (.int .i64 0) 1 Try.underlying30 hj0 hy0 hy1 _ _ _ _ (2 * t) rfl rfl (by omega) (by omega) (by rw [hy2]; omega) hmax (Nat.le_refl _) ?_; intro w5 hown5 hgrow5)
  obtain ⟨hg5, hb5⟩ := hmk w5 hown5 hgrow5
  clear hmk hown5 hgrow5
  obtain ⟨r0, hb0⟩ := rowAt_new (S := 48) hg5 hb5 hmax
  rw [← sumsUp_zero (bts left) (2 * t)] at r0
  have hbox0 := r0.box
  clear hg5 hb5
  generalize hgg : w5.heap.size = g at *
  have HB4 : Hid (Below w.heap.size w w4) := hB4
  clear hB4 hgg
  go_loopw [29] (fun y wr => ∃ i : Nat, i ≤ 2 * t ∧ y = .int .i64 i ∧ RowAt 3 wr w4.heap.size g w4.heap.size (2 * t) (sumsUp (bts left) (2 * t) i) ∧ Below w4.heap.size w4 wr) (fun y _ => 2 * t - (intOf y).toNat)
  case atStart => exact ⟨0, Nat.zero_le _, rfl, r0, hb0⟩
  case round =>
    clear r0 hbox0 hb0
    obtain ⟨i, hi, rfl, r1, hb⟩ := hrel
    by_cases hlt : i < 2 * t
    · have hS := sumsUp_succ (bts left) (2 * t) i hlt
      have hbox := r1.box
      have hcl := owned_cell r1.own i hlt
      have hfz := r1.own.frozenAt i
      rw [ints_get] at hcl
      have c2 := (pow2_ok (i + 1)).1
      have c3 := evl_lt (is01_bts left).isP _ c2
      have HR : Hid _ := r1.set i (evl (bts left) (gpow 2 (i + 1)))
      rw [← hS] at HR
      have HB : Hid _ := hb.setCell (p := ⟨w4.heap.size, i, none⟩) (Nat.le_refl _) (.int .i64 ((evl (bts left) (gpow 2 (i + 1)) : Nat) : Int))
      have hrr := (hrow4.below hb (Nat.le_refl _)).drew
      clear hS r1 hb
      have u5 : (i : Int) < 2 * (t : Int) := by omega
      have u3 : (i : Int) + 1 = ((i + 1 : Nat) : Int) := by omega
      generalize hi1 : i + 1 = i1 at *
      have u2 : IntKind.i64.wrap ((i1 : Nat) : Int) = (i1 : Int) := by rw [IntKind.wrap_i64]; omega
      have HI1 : Hid (i + 1 = i1) := hi1
      clear hi1
      go_wp2
      go_region_with (first
        | (go_at_call 24; refine (exp_nat i1 _ (by have := HI1.out; omega)).mono ?_; rintro e w' ⟨rfl, rfl⟩)
        | (go_at_call 23; refine (bval_same a4 lr cp4 left (gpow 2 i1) _ ?_ hrB (by omega) c2).mono ?_; exact hrr; rintro e w' ⟨rfl, rfl⟩))
      all_goals
        go_wp2
        go_roundw
        case rel => exact ⟨i1, by have := HI1.out; omega, by go_num, HR.out.drew, HB.out.drew⟩
        case measure => have := HI1.out; simp [intOf]; omega
    · have e : i = 2 * t := by omega
      subst e
      rw [HU.out, sumsUp_all] at r1
      have u5 : ¬ ((2 * t : Nat) : Int) < 2 * (t : Int) := by omega
      have u5' : ¬ 2 * (t : Int) < 2 * (t : Int) := by omega
      go_wp2
      go_ret
      exact ⟨g, rfl, ⟨w4.heap.size, r1.base HB4.out.size⟩, HB4.out.trans (hb.mono HB4.out.size)⟩

theorem handsI_nil (w : World) (n : Int) : HandsI w [] n (.returned (.tuple #[.slice none 0 0, .int .i64 n])) w :=
  ⟨none, 0, rfl, ⟨rfl, Nat.le_refl _, Nat.zero_le _, fun _ => rfl, fun h => absurd h (by simp)⟩, Below.refl _ _⟩
set_option maxHeartbeats 1600000 in
set_option maxRecDepth 100000 in
theorem sumsC : HSumsC where
  no := by
    intro t a c len cap len' cap' x m w hr hx hr' hm hsm hsm' hn h1 h2
    by_cases hd : mayD t len = true
    · have hd' : 1 ≤ t ∧ t ≤ 8 ∧ 1 ≤ len ∧ len ≤ 512 := by unfold mayD at hd; simpa using hd
      obtain ⟨t, rfl⟩ := Int.eq_ofNat_of_zero_le (show 0 ≤ t by omega)
      have hne : ¬ len' = (13 * t + 7) / 8 := by unfold mayB at hn; rw [decide_eq_false_iff_not] at hn; omega
      have hq : (((len' : Nat) : Int) != (((13 * t + 7) / 8 : Nat) : Int)) = true := by simp; omega
      have hmb := moreBytes_any t
      generalize (13 * t + 7) / 8 = nn at *
      go_enter Try.func8, Try.ntmps8
      go_wp2_with fail
      refine (mayBe_any t a len cap _ (by omega)).mono ?_
      rintro e w' ⟨rfl, rfl⟩
      rw [hd]
      go_wp2_with fail
      refine (hmb _ (by omega)).mono ?_
      rintro e w' ⟨rfl, rfl⟩
      go_wp2_with fail
      go_ret2
      exact handsI_nil _ _
    · rw [Bool.not_eq_true] at hd
      go_enter Try.func8, Try.ntmps8
      go_wp2_with fail
      refine (mayBe_any t a len cap _ (by omega)).mono ?_
      rintro e w' ⟨rfl, rfl⟩
      rw [hd]
      go_wp2_with fail
      go_ret2
      exact handsI_nil _ _
  yes := by
    intro t a c len cap len' cap' x m w hr hx hr' hm hsm hsm' hy
    have hy' : 1 ≤ t ∧ t ≤ 8 ∧ 1 ≤ len ∧ len ≤ 512 ∧ len' = (13 * t + 7) / 8 := by unfold mayB at hy; rw [decide_eq_true_iff] at hy; omega
    obtain ⟨h1, h8, hl1, hl2, hl'⟩ := hy'
    have HB : Hid (mayD t len = true) := by show _ = _; unfold mayD; rw [decide_eq_true_iff]; omega
    have hro := rowOf_any t a c len cap len' cap' x m w hr hx hr' hm h1 h8 (by omega) hl'
    have hmb := moreBytes_any t
    rw [← hl'] at hmb
    have HSL : Hid ((sumsTo (wordL t x m) (2 * t)).length = 2 * t) := length_sumsTo _ _
    clear hl' hy
    generalize sumsTo (wordL t x m) (2 * t) = s at *
    go_enter Try.func8, Try.ntmps8
    go_wp2_with fail
    refine (mayBe_any t a len cap _ (by omega)).mono ?_
    rintro e w' ⟨rfl, rfl⟩
    rw [HB.out]
    go_wp2_with fail
    refine (hmb _ (by omega)).mono ?_
    rintro e w' ⟨rfl, rfl⟩
    clear hmb
    go_wp2_with fail
    refine hro.mono ?_
    rintro e w1 ⟨g, h, rfl, r, hb⟩
    have hbox := r.box
    have hrow := r.row
    clear r
    go_wp2_with fail
    go_ret2
    exact ⟨some ⟨h, 0, none⟩, 2 * t, by rw [HSL.out]; rfl, by rw [HSL.out]; exact hrow, hb⟩

end Go.Proofs.Ytjiaomkjebbkpab
