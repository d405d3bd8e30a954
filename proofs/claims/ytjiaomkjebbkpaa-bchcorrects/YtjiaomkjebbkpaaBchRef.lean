/-
  Layer 5's reference (casemateref05): Bytes, May, Word, Apart, Sums, Is give what the plain functions give; nothing old turns.
-/
import Derived.Test.YtjiaomkjebbkpaaBchPlain2
namespace Go.Proofs.Ytjiaomkjebbkpaa
open Go.RowKit
set_option linter.unusedVariables false

/-- What a call owns stays as it is where nothing old turns. -/
theorem owns_below {w w' : World} {base : Nat} {e : TypeId} {size : Nat} {v : Value} {n : Nat} {xs : List Value} (h : w.ownsRow base e size v n xs) (hb : Below w.heap.size w w') : w'.ownsRow base e size v n xs := by
  refine ⟨h.1, ?_⟩
  rcases h.2 with h2 | ⟨g, cap, cur, hv, hg, hh, r⟩
  · exact .inl h2
  · have hlt : g < w.heap.size := by
      rcases Nat.lt_or_ge g w.heap.size with hh' | hh'
      · exact hh'
      · rw [Array.getElem?_eq_none hh'] at hh; simp at hh
    exact .inr ⟨g, cap, cur, hv, hg, by rw [hb.block g hlt]; exact hh, r⟩

set_option maxHeartbeats 400000 in
theorem refSize_any (t : Nat) (w : World) (ht : t ≤ 8) : Calls Try.prog 18 #[.int .i64 t] w fun e w' => e = .returned (.int .i64 (((13 * t + 7) / 8 : Nat) : Int)) ∧ w = w' := by
  go_enter Try.func18, Try.ntmps18
  go_wp2
  go_ret
  exact ⟨ret_int (by omega), rfl⟩

/-- May t, so many bytes of data and so many more bytes be? -/
def mayB (t : Int) (len : Nat) (m : Int) : Bool := decide (1 ≤ t ∧ t ≤ 8 ∧ 1 ≤ len ∧ len ≤ 512 ∧ m = (13 * t + 7) / 8)
set_option maxHeartbeats 800000 in
theorem may_any (t : Int) (a : Option Addr) (len cap : Nat) (m : Int) (w : World) (hl : len ≤ maxLen) :
    Calls Try.prog 15 #[.int .i64 t, .slice a len cap, .int .i64 m] w fun e w' => e = .returned (.bool (mayB t len m)) ∧ w = w' := by
  unfold maxLen at hl
  by_cases h1 : 1 ≤ t
  · by_cases h2 : t ≤ 8
    · obtain ⟨t, rfl⟩ := Int.eq_ofNat_of_zero_le (show 0 ≤ t by omega)
      by_cases h3 : 1 ≤ len
      · by_cases h4 : len ≤ 512
        · have HB : Hid (mayB t len m = decide (m = (((13 * t + 7) / 8 : Nat) : Int))) := by
            show _ = _
            unfold mayB
            rw [decide_eq_decide]
            omega
          have h4' : (len : Int) ≤ 512 := by omega
          have h3' : (1 : Int) ≤ (len : Int) := by omega
          go_enter Try.func15, Try.ntmps15
          go_wp2_with fail
          refine (refSize_any t _ (by omega)).mono ?_
          rintro e w' ⟨rfl, rfl⟩
          go_wp2_with fail
          go_ret
          exact ⟨ret_bool (by rw [HB.out]; rfl), rfl⟩
        · have HB : Hid (mayB t len m = false) := by show _ = _; unfold mayB; rw [decide_eq_false_iff_not]; omega
          have h4' : (512 : Int) < (len : Int) := by omega
          have h3' : (1 : Int) ≤ (len : Int) := by omega
          go_enter Try.func15, Try.ntmps15
          go_wp2
          go_ret
          exact ⟨ret_bool (by rw [HB.out]; try simp), rfl⟩
      · have HB : Hid (mayB t len m = false) := by show _ = _; unfold mayB; rw [decide_eq_false_iff_not]; omega
        have h3' : (len : Int) < 1 := by omega
        go_enter Try.func15, Try.ntmps15
        go_wp2
        go_ret
        exact ⟨ret_bool (by rw [HB.out]; try simp), rfl⟩
    · have HB : Hid (mayB t len m = false) := by show _ = _; unfold mayB; rw [decide_eq_false_iff_not]; omega
      have h2' : 8 < t := by omega
      go_enter Try.func15, Try.ntmps15
      go_wp2
      go_ret
      exact ⟨ret_bool (by rw [HB.out]; try simp), rfl⟩
  · have HB : Hid (mayB t len m = false) := by show _ = _; unfold mayB; rw [decide_eq_false_iff_not]; omega
    have h1' : t < 1 := by omega
    go_enter Try.func15, Try.ntmps15
    go_wp2
    go_ret
    exact ⟨ret_bool (by rw [HB.out]; try simp), rfl⟩

theorem padB_succ (n : Nat) (p : List Nat) : padB (n + 1) p = padB n p ++ [cf p n] := by simp [padB, List.range_succ]
theorem ints_append (p q : List Nat) : ints (p ++ q) = ints p ++ ints q := by simp [ints]

set_option maxHeartbeats 1600000 in
set_option maxRecDepth 100000 in
theorem refWord_any (t : Nat) (a c : Option Addr) (len cap len' cap' : Nat) (x m : List Int) (w : World) (ht : t ≤ 8) (hr : Row .u8 w a len cap x) (hx : IsB x) (hr' : Row .u8 w c len' cap' m) (hm : IsB m) (hl : 13 * t ≤ 8 * len') (hsm : len ≤ 600) (hsm' : len' ≤ 600) :
    Calls Try.prog 24 #[.int .i64 t, .slice a len cap, .slice c len' cap'] w fun e w' => ∃ v cp, e = .returned (.slice v (13 * t + 8 * len) cp) ∧ Row .i64 w' v (13 * t + 8 * len) cp (ints (wordL t x m)) ∧ Below w.heap.size w w' := by
  obtain ⟨i0, hi0, hz0, hz1, hz2⟩ := info_parts Try.info3
  have HLx : Hid (x.length = len) := hr.hlen
  go_enter Try.func24, Try.ntmps24
  go_wp2
  go_loopw [7, 8] (fun v y wr => ∃ i : Nat, i ≤ 13 * t ∧ y = .int .i64 i ∧ wr.ownsRow w.heap.size 3 1 v i ((ints (padB i (bts m))).map (Value.int .i64)) ∧ Below w.heap.size w wr) (fun _ y _ => 13 * t - (intOf y).toNat)
  case atStart => exact ⟨0, Nat.zero_le _, rfl, World.ownsRow_nil _ _ _ _, Below.refl _ _⟩
  case round =>
    obtain ⟨i, hi, rfl, hown, hnx⟩ := hrel
    have hsz := hnx.size
    by_cases hlt : i < 13 * t
    · have hrr := hr'.below hnx (Nat.le_refl _)
      have HS : Hid (ints (padB (i + 1) (bts m)) = ints (padB i (bts m)) ++ [bitI m i]) := by show _ = _; rw [padB_succ, ints_snoc, cf_bts_int]
      go_wp2_with fail
      refine (refAt_any _ _ _ i m _ hrr hm (by omega) (by omega)).mono ?_
      rintro e w' ⟨rfl, rfl⟩
      go_wp2_with (at_builtin; refine wpList_append_own _ rfl _ _ 32 rfl w.heap.size 3 i0 (.int .i64 0) 1 8 Try.underlying32 hi0 hz0 hz1 hz2 rfl (by decide) _ _ _ rfl (hown.alloc _) ⟨wr.heap.size, 0, none⟩ 1 1 [.int .i64 (bitI m i)] rfl rfl (cell_one_new _ _ _) (by intro u hu; simp at hu; subst hu; rfl) (by unfold maxLen; omega) (by omega) (by simp; omega) ?_)
      intro v' w1 hown' hgrow _
      have R := rel_push hsz hown hnx hown' hgrow
      rw [← HS.out] at R
      clear hown' hgrow
      go_wp2
      go_roundw
      case rel => exact ⟨i + 1, by omega, by go_num, R.1, R.2⟩
      case measure => simp [intOf]; omega
    · have e : i = 13 * t := by omega
      subst e
      have hrr := hr.below hnx (Nat.le_refl _)
      have HW : Hid (ints (padB (13 * t) (bts m)) ++ ints (bts x) = ints (wordL t x m)) := by show _ = _; rw [← ints_append]; rfl
      go_wp2_with fail
      refine (all_any _ _ _ x _ hrr hx (by omega)).mono ?_
      rintro e w2 ⟨v2, rfl, hown2, q2⟩
      obtain ⟨a2, cp2, rfl, hrow2⟩ : ∃ a cap, v2 = .slice a (8 * len) cap ∧ Row .i64 w2 a (8 * len) cap (ints (bts x)) := by
        rw [ints_bts, HLx.out]
        exact row_of_owns hown2
      have hown3 := owns_below hown q2
      go_wp2_with (at_builtin; refine wpList_append_row _ rfl _ _ 32 rfl w.heap.size 3 i0 (.int .i64 0) 8 Try.underlying32 hi0 hz0 hz1 hz2 rfl _ _ _ rfl hown3 .i64 a2 (8 * len) cp2 _ rfl hrow2 (by unfold maxLen; omega) (by omega) (by have := q2.size; omega) ?_)
      intro v3 w3 hown4 hgrow
      rw [← List.map_append, HW.out] at hown4
      obtain ⟨a4, cp4, rfl, hrow4⟩ := row_of_owns hown4
      have hb3 : Below w.heap.size w w2 := hnx.trans (q2.mono hsz)
      have hb4 : Below w.heap.size w w3 := hb3.grown hgrow (by have := q2.size; omega) (fun j hj => (hown.lt j hj).1)
      go_wp2
      go_ret
      exact ⟨_, _, rfl, hrow4, hb4⟩

set_option maxHeartbeats 1600000 in
theorem refApartW_any (a c : Option Addr) (len cap cap' : Nat) (p q : List Nat) (w : World) (hr : Row .i64 w a len cap (ints p)) (hr' : Row .i64 w c len cap' (ints q)) (hsm : len ≤ 10000) :
    Calls Try.prog 23 #[.slice a len cap, .slice c len cap'] w fun e w' => e = .returned (.int .i64 (distTo p q len : Nat)) ∧ Below w.heap.size w w' := by
  go_enter Try.func23, Try.ntmps23
  go_wp2
  go_loopw [5, 6] (fun n y wr => ∃ i : Nat, i ≤ len ∧ y = .int .i64 i ∧ n = .int .i64 (distTo p q i : Nat) ∧ Below w.heap.size w wr) (fun _ y _ => len - (intOf y).toNat)
  case atStart => exact ⟨0, Nat.zero_le _, rfl, rfl, Below.refl _ _⟩
  case round =>
    obtain ⟨i, hi, rfl, rfl, hnx⟩ := hrel
    by_cases hlt : i < len
    · have hrr := hr.below hnx (Nat.le_refl _)
      have hrr' := hr'.below hnx (Nat.le_refl _)
      obtain ⟨b, off, rfl, hbs, hcell⟩ := hrr.hcell (by omega)
      obtain ⟨b', off', rfl, hbs', hcell'⟩ := hrr'.hcell (by omega)
      have hc1 := hcell i hlt
      have hc2 := hcell' i hlt
      rw [ints_get] at hc1 hc2
      clear hcell hcell' hrr hrr'
      have hii : (i : Int) < (len : Int) := by omega
      have hd := dist_le p q i
      have HS : Hid (distTo p q (i + 1) = distTo p q i + (if cf p i = cf q i then 0 else 1)) := rfl
      generalize distTo p q i = dd at *
      by_cases he : cf p i = cf q i
      · have hq : ((cf p i : Int) != (cf q i : Int)) = false := by simp [he]
        have HS' : Hid (distTo p q (i + 1) = dd) := by show _ = _; rw [HS.out, if_pos he]; rfl
        clear he HS
        go_wp2
        go_quiet (fail)
        go_wp2
        go_roundw
        case rel => exact ⟨i + 1, by omega, by go_num, by rw [HS'.out], below_drewN hnx _⟩
        case measure => simp [intOf]; omega
      · have hq : ((cf p i : Int) != (cf q i : Int)) = true := by simp; omega
        have HS' : Hid (distTo p q (i + 1) = dd + 1) := by show _ = _; rw [HS.out, if_neg he]
        clear he HS
        go_wp2
        go_quiet (fail)
        go_wp2
        go_roundw
        case rel => exact ⟨i + 1, by omega, by go_num, by rw [HS'.out]; go_num, below_drewN hnx _⟩
        case measure => simp [intOf]; omega
    · have e : i = len := by omega
      subst e
      go_wp2
      go_ret
      exact ⟨rfl, hnx⟩

/-- The sums of a word. -/
def sumsTo (p : List Nat) (n : Nat) : List Nat := (List.range n).map fun i => evl p (gpow 2 (i + 1))
theorem sumsTo_succ (p : List Nat) (n : Nat) : sumsTo p (n + 1) = sumsTo p n ++ [evl p (gpow 2 (n + 1))] := by simp [sumsTo, List.range_succ]
theorem length_sumsTo (p : List Nat) (n : Nat) : (sumsTo p n).length = n := by simp [sumsTo]
theorem cf_sumsTo (p : List Nat) (n i : Nat) (h : i < n) : cf (sumsTo p n) i = evl p (gpow 2 (i + 1)) := by simp [cf, sumsTo, h]
theorem sums_code (t : Nat) (p : List Nat) : code t p ↔ ∀ i, i < 2 * t → cf (sumsTo p (2 * t)) i = 0 := by
  constructor
  · intro h i hi
    rw [cf_sumsTo p _ i hi]
    exact h (i + 1) (by omega) (by omega)
  · intro h i h1 h2
    have := h (i - 1) (by omega)
    rwa [cf_sumsTo p _ _ (by omega), show i - 1 + 1 = i from by omega] at this

set_option maxHeartbeats 1600000 in
set_option maxRecDepth 100000 in
theorem refSums_any (t : Nat) (a c : Option Addr) (len cap len' cap' : Nat) (x m : List Int) (w : World) (ht : t ≤ 8) (hr : Row .u8 w a len cap x) (hx : IsB x) (hr' : Row .u8 w c len' cap' m) (hm : IsB m) (hl : 13 * t ≤ 8 * len') (hsm : len ≤ 600) (hsm' : len' ≤ 600) :
    Calls Try.prog 17 #[.int .i64 t, .slice a len cap, .slice c len' cap'] w fun e w' => ∃ v cp, e = .returned (.slice v (2 * t) cp) ∧ Row .i64 w' v (2 * t) cp (ints (sumsTo (wordL t x m) (2 * t))) ∧ Below w.heap.size w w' := by
  obtain ⟨i0, hi0, hz0, hz1, hz2⟩ := info_parts Try.info3
  have h01 := is01_wordL t x m
  have hW := refWord_any t a c len cap len' cap' x m w ht hr hx hr' hm hl hsm hsm'
  generalize wordL t x m = p at *
  go_enter Try.func17, Try.ntmps17
  go_wp2_with fail
  refine hW.mono ?_
  rintro e w1 ⟨a1, cp1, rfl, row1, q1⟩
  go_wp2_with fail
  go_loopw [8, 9] (fun v y wr => ∃ i : Nat, i ≤ 2 * t ∧ y = .int .i64 ((i + 1 : Nat) : Int) ∧ wr.ownsRow w1.heap.size 3 1 v i ((ints (sumsTo p i)).map (Value.int .i64)) ∧ Below w1.heap.size w1 wr) (fun _ y _ => 2 * t + 1 - (intOf y).toNat)
  case atStart => exact ⟨0, Nat.zero_le _, rfl, World.ownsRow_nil _ _ _ _, Below.refl _ _⟩
  case round =>
    obtain ⟨i, hi, rfl, hown, hnx⟩ := hrel
    have hsz := hnx.size
    by_cases hlt : i < 2 * t
    · have hrr := row1.below hnx (Nat.le_refl _)
      have HG : Hid (gz 2 ((i + 1 : Nat) : Int) = gpow 2 (i + 1)) := gz_nat 2 _ (by decide) (by decide)
      have hyl := (pow2_ok (i + 1)).1
      have HS : Hid (sumsTo p (i + 1) = sumsTo p i ++ [evl p (gpow 2 (i + 1))]) := sumsTo_succ p i
      go_wp2_with fail
      refine (refExp_any ((i + 1 : Nat) : Int) _ (by omega) (by omega)).mono ?_
      rintro e w' ⟨rfl, rfl⟩
      rw [HG.out]
      generalize gpow 2 (i + 1) = y at *
      go_wp2_with fail
      refine (refVal_any _ _ _ p y _ hrr h01 hyl (by omega)).mono ?_
      rintro e w' ⟨rfl, rfl⟩
      generalize evl p y = v at *
      go_wp2_with (at_builtin; refine wpList_append_own _ rfl _ _ 32 rfl w1.heap.size 3 i0 (.int .i64 0) 1 8 Try.underlying32 hi0 hz0 hz1 hz2 rfl (by decide) _ _ _ rfl (hown.alloc _) ⟨wr.heap.size, 0, none⟩ 1 1 [.int .i64 (v : Nat)] rfl rfl (cell_one_new _ _ _) (by intro u hu; simp at hu; subst hu; rfl) (by unfold maxLen; omega) (by omega) (by simp; omega) ?_)
      intro v' w2 hown' hgrow _
      have R := rel_push hsz hown hnx hown' hgrow
      rw [← ints_snoc, ← HS.out] at R
      clear hown' hgrow
      go_wp2
      go_roundw
      case rel => exact ⟨i + 1, by omega, by go_num, R.1, R.2⟩
      case measure => simp [intOf]; omega
    · have e : i = 2 * t := by omega
      subst e
      obtain ⟨a4, cp4, rfl, hrow4⟩ := row_of_owns hown
      replace q1 := btrans q1 hnx
      go_wp2
      go_ret
      exact ⟨_, _, rfl, hrow4, q1⟩

end Go.Proofs.Ytjiaomkjebbkpaa
