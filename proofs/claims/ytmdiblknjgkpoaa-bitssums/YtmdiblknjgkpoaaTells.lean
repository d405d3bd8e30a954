/-
  The walk of BitsTells: for every row of bytes and every number the law returns true; nothing old turns.
-/
import Derived.Test.YtmdiblknjgkpoaaSix
namespace Go.Proofs.Ytmdiblknjgkpoaa
open Go.RowKit
set_option linter.unusedVariables false

theorem lt_of_cell {w : World} {a : Addr} {v : Value} (h : w.cell? a = some v) : a.block < w.heap.size := by
  rcases Nat.lt_or_ge a.block w.heap.size with h' | h'
  · exact h'
  · simp [World.cell?, Array.getElem?_eq_none h'] at h

/-- What the frame tells of a slice of integers that came in, as a row of its elements. -/
theorem row_of_is {k : IntKind} {w : World} {a : Option Addr} {len cap : Nat} {zs : List Int}
    (h : (a = none ∧ len = 0 ∧ cap = 0 ∧ zs = []) ∨ ∃ x, a = some x ∧ len ≤ cap ∧ cap ≤ maxLen ∧ zs.length = cap ∧ (∀ i, i < zs.length → w.cell? (x.add i) = some (.int k (zs.getD i 0))) ∧ ∀ n ∈ zs, (Lit.int k n).wf = true) :
    Row k w a len cap (zs.take len) ∧ ∀ n ∈ zs.take len, (Lit.int k n).wf = true := by
  rcases h with ⟨rfl, rfl, rfl, rfl⟩ | ⟨x, rfl, hl, hm, hz, hcell, hwz⟩
  · exact ⟨⟨rfl, Nat.le_refl _, Nat.zero_le _, fun _ => rfl, fun h => absurd h (by omega)⟩, by simp⟩
  · refine ⟨⟨by simp; omega, hl, hm, by simp, fun h0 => ?_⟩, fun n hn => hwz n (List.mem_of_mem_take hn)⟩
    obtain ⟨b, off, spot⟩ := x
    have hc := hcell 0 (by omega)
    have hspot : spot = none := by simpa [Addr.add] using World.cell?_spot hc
    subst hspot
    have hb := lt_of_cell hc
    have hplain : ∀ j, (⟨b, off, none⟩ : Addr).add j = ⟨b, off + j, none⟩ := fun j => by unfold Addr.add; split <;> simp_all
    rw [hplain] at hb
    refine ⟨b, off, rfl, hb, fun i hi => ?_⟩
    have := hcell i (by omega)
    rw [hplain, List.getD_eq_getElem?_getD] at this
    rw [this, List.getElem?_take, if_pos hi]
theorem isB_of_wf {z : List Int} (h : ∀ n ∈ z, (Lit.int .u8 n).wf = true) : IsB z := fun n hn => bounds_u8 (h n hn)

set_option maxHeartbeats 1600000 in
theorem walk_tells (a : Option Addr) (len cap : Nat) (z : List Int) (i : Int) (w : World) (hr : Row .u8 w a len cap z) (hb : IsB z) (h1 : -9223372036854775808 ≤ i) (h2 : i ≤ 9223372036854775807) :
    Calls Try.prog 3 #[.slice a len cap, .int .i64 i] w fun e w' => e = .returned (.bool true) ∧ Below w.heap.size w w' := by
  have hmax : len ≤ maxLen := Nat.le_trans hr.hcap hr.hmax
  by_cases hs : len ≤ 200
  · have hsm : smallB len 0 = true := by unfold smallB; simp; omega
    have h1000 : len ≤ 1000 := by omega
    go_enter Try.func3, Try.ntmps3
    go_wp2_with (first
      | (go_at_call 9; refine (small_any _ _ _ _ _ _ _ hmax (Nat.zero_le _)).mono ?_; rintro e w' ⟨rfl, rfl⟩; rw [hsm])
      | (go_at_call 10; refine (all_any _ _ _ z _ hr hb h1000).mono ?_; rintro e w1 ⟨v, rfl, hown, hb1⟩))
    obtain ⟨ao, capo, rfl, hrow⟩ := row_of_owns hown
    clear hown
    have hc8 := hrow.hcap
    have hm8 := hrow.hmax
    unfold maxLen at hm8
    have hr1 := hr.below hb1 (Nat.le_refl _)
    go_loop [5, 7] (fun n y => ∃ k : Nat, k ≤ 8 * len ∧ y = .int .i64 k ∧ n = .int .i64 (onesTo z k)) (fun _ y => 8 * len - (intOf y).toNat)
    case atStart => exact ⟨0, Nat.zero_le _, rfl, rfl⟩
    case round =>
      obtain ⟨k, hk, rfl, rfl⟩ := hrel
      have ho := onesTo_bd z k
      by_cases hlt : k < 8 * len
      · obtain ⟨b, off, rfl, hbs, hcell⟩ := hrow.hcell (by omega)
        have hc1 := hcell k hlt
        rw [bitsTo_at z (8 * len) k hlt] at hc1
        have hbit := bitI_01 z k
        have HS : Hid (onesTo z (k + 1) = onesTo z k + bitI z k) := onesTo_succ z k
        clear hcell
        go_wp2
        go_round
        case rel => exact ⟨k + 1, by omega, by go_num, by rw [HS.out]⟩
        case measure => simp [intOf]; omega
      · have e : k = 8 * len := by omega
        subst e
        have hq : (onesTo z (8 * len) != onesTo z (8 * len)) = false := by simp
        cases hh : hasB len i
        · have hx := hasB_false hh
          go_wp2_with (first
            | (go_at_call 11; refine (at_no _ _ _ i _ hmax h1 h2 hh).mono ?_; rintro e w' ⟨rfl, rfl⟩)
            | (go_at_call 12; refine (ones_any _ _ _ z _ hr1 hb h1000).mono ?_; rintro e w' ⟨rfl, rfl⟩)
            | (go_at_call 13; refine (awake_any _).mono ?_; rintro e w2 ⟨rfl, hb2⟩))
          all_goals (go_ret; exact ⟨rfl, hb1.trans (hb2.mono hb1.size)⟩)
        · have hx := hasB_true hh
          obtain ⟨q, rfl⟩ := Int.eq_ofNat_of_zero_le hx.1
          have hq8 : q < 8 * len := by omega
          obtain ⟨b, off, rfl, hbs, hcell⟩ := hrow.hcell (by omega)
          have hc1 := hcell q hq8
          rw [bitsTo_at z (8 * len) q hq8] at hc1
          clear hcell
          have hqq : (bitI z q == bitI z q) = true := by simp
          go_wp2_with (first
            | (go_at_call 11; refine (at_yes _ _ _ q z _ hr1 hb hq8 h1000).mono ?_; rintro e w' ⟨rfl, rfl⟩)
            | (go_at_call 12; refine (ones_any _ _ _ z _ hr1 hb h1000).mono ?_; rintro e w' ⟨rfl, rfl⟩)
            | (go_at_call 13; refine (awake_any _).mono ?_; rintro e w2 ⟨rfl, hb2⟩; have hc2 := (hb2.cell (p := ⟨b, off + q, none⟩) hbs).trans hc1))
          all_goals (go_ret; exact ⟨rfl, hb1.trans (hb2.mono hb1.size)⟩)
  · have hsm : smallB len 0 = false := by unfold smallB; simp; omega
    go_enter Try.func3, Try.ntmps3
    go_wp2_with (go_at_call 9; refine (small_any _ _ _ _ _ _ _ hmax (Nat.zero_le _)).mono ?_; rintro e w' ⟨rfl, rfl⟩; rw [hsm])
    go_ret
    exact ⟨rfl, Below.refl _ _⟩

end Go.Proofs.Ytmdiblknjgkpoaa
