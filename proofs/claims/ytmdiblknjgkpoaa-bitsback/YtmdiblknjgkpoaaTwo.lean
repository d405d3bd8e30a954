/-
  The contracts of bits.Ones, the reference's In and Ints: each returns what the plain functions give; no cell turns.
-/
import Derived.Test.YtmdiblknjgkpoaaOne
import Derived.Deep.QuietTactic
import Derived.BigQuiet
namespace Go.Proofs.Ytmdiblknjgkpoaa
open Go.RowKit
set_option linter.unusedVariables false

theorem ones_step (z : List Int) (i k : Nat) (hk : k < 8) : onesTo z (8 * i + k) + bitAt (z[i]?.getD 0) k = onesTo z (8 * i + (k + 1)) := by
  rw [show 8 * i + (k + 1) = 8 * i + k + 1 from by omega, onesTo_succ]
  unfold bitI
  rw [show (8 * i + k) / 8 = i from by omega, show (8 * i + k) % 8 = k from by omega]

set_option maxHeartbeats 400000 in
theorem ones_any (a : Option Addr) (len cap : Nat) (z : List Int) (w : World) (hr : Row .u8 w a len cap z) (hb : IsB z) (hsm : len ≤ 1000) :
    Calls Try.prog 12 #[.slice a len cap] w fun e w' => e = .returned (.int .i64 (onesTo z (8 * len))) ∧ w = w' := by
  go_enter Try.func12, Try.ntmps12
  go_wp2
  go_loop [3, 9] (fun n y => ∃ i : Nat, i ≤ len ∧ y = .int .i64 i ∧ n = .int .i64 (onesTo z (8 * i))) (fun _ y => len - (intOf y).toNat)
  case atStart => exact ⟨0, Nat.zero_le _, rfl, rfl⟩
  case round =>
    obtain ⟨i, hi, rfl, rfl⟩ := hrel
    by_cases hlt : i < len
    · obtain ⟨b, off, rfl, hbs, hcell⟩ := hr.hcell (by omega)
      have hc1 := hcell i hlt
      have hz := hb.idx i
      clear hcell
      go_wp2
      go_loop [3, 13] (fun n y => ∃ k : Nat, k ≤ 8 ∧ y = .int .i64 k ∧ n = .int .i64 (onesTo z (8 * i + k))) (fun _ y => 8 - (intOf y).toNat)
      case atStart => exact ⟨0, Nat.zero_le _, rfl, rfl⟩
      case round =>
        obtain ⟨k, hk, rfl, rfl⟩ := hrel
        have ho := onesTo_bd z (8 * i + k)
        have hb1 := bitAt_01 (z[i]?.getD 0) k
        by_cases hlt2 : k < 8
        · go_wp2_with (go_at_call 22; refine (bit_any _ k _ hz.1 hz.2 hlt2).mono ?_; rintro e w' ⟨rfl, rfl⟩)
          go_round
          case rel => exact ⟨k + 1, by omega, by go_num, by rw [← ones_step z i k hlt2]⟩
          case measure => simp [intOf]; omega
        · have e : k = 8 := by omega
          subst e
          go_wp2
          go_round
          case rel => exact ⟨i + 1, by omega, by go_num, rfl⟩
          case measure => simp [intOf]; omega
    · have e : i = len := by omega
      subst e
      go_wp2
      go_ret
      exact ⟨rfl, rfl⟩

/-- Are all places there? -/
def inB (len : Nat) (ps : List Int) : Bool := ps.all (hasB len)
theorem inB_iff (len : Nat) (ps : List Int) : inB len ps = true ↔ inAll len ps := by
  unfold inB inAll hasB; simp
theorem inB_false (len : Nat) (ps : List Int) (k : Nat) (hk : k < ps.length) (h : hasB len (ps[k]?.getD 0) = false) : inB len ps = false := by
  rw [← Bool.not_eq_true, inB_iff]
  intro hin
  have := hin.idx k hk
  unfold hasB at h
  simp at h
  omega
theorem hasB_true {len : Nat} {i : Int} (h : hasB len i = true) : 0 ≤ i ∧ i < 8 * (len : Int) := by unfold hasB at h; simpa using h
theorem hasB_false {len : Nat} {i : Int} (h : hasB len i = false) : i < 0 ∨ 8 * (len : Int) ≤ i := by unfold hasB at h; simp at h; omega

set_option maxHeartbeats 400000 in
theorem in_any (a c : Option Addr) (len cap len' cap' : Nat) (ps : List Int) (w : World) (hr : Row .i64 w c len' cap' ps) (hsm : len ≤ 1000) :
    Calls Try.prog 15 #[.slice a len cap, .slice c len' cap'] w fun e w' => e = .returned (.bool (inB len ps)) ∧ w = w' := by
  have hm := hr.hmax
  have hc := hr.hcap
  have HL : Hid (ps.length = len') := hr.hlen
  unfold maxLen at hm
  go_enter Try.func15, Try.ntmps15
  go_wp2
  go_loop [5] (fun y => ∃ i : Nat, i ≤ len' ∧ y = .int .i64 i ∧ ∀ j, j < i → hasB len (ps[j]?.getD 0) = true) (fun y => len' - (intOf y).toNat)
  case atStart => exact ⟨0, Nat.zero_le _, rfl, fun j hj => absurd hj (by omega)⟩
  case round =>
    obtain ⟨i, hi, rfl, hall0⟩ := hrel
    have hall : Hid (∀ j, j < i → hasB len (ps[j]?.getD 0) = true) := hall0
    clear hall0
    by_cases hlt : i < len'
    · obtain ⟨b, off, rfl, hbs, hcell⟩ := hr.hcell (by omega)
      have hc1 := hcell i hlt
      clear hcell
      have hfn : Hid (hasB len (ps[i]?.getD 0) = false → inB len ps = false) := fun hh => inB_false len ps i (by have := HL.out; omega) hh
      generalize hp : ps[i]?.getD 0 = p at *
      have HP : Hid (ps[i]?.getD 0 = p) := hp
      clear hp
      cases hh : hasB len p
      · have hf : Hid (inB len ps = false) := hfn.out hh
        rcases hasB_false hh with hn | hn
        all_goals
          clear hh
          go_wp2
          go_ret
          exact ⟨ret_bool hf.out.symm, rfl⟩
      · have hx := hasB_true hh
        have hh' : Hid (hasB len (ps[i]?.getD 0) = true) := by show hasB len (ps[i]?.getD 0) = true; rw [HP.out]; exact hh
        clear hh
        go_wp2
        go_round
        case rel =>
          refine ⟨i + 1, by omega, by go_num, fun j hj => ?_⟩
          by_cases e : j = i
          · subst e; exact hh'.out
          · exact hall.out j (by omega)
        case measure => simp [intOf]; omega
    · have hf : Hid (inB len ps = true) := by
        show inB len ps = true
        rw [inB_iff]
        intro p hp
        obtain ⟨j, hj, rfl⟩ := List.mem_iff_getElem.1 hp
        have := hasB_true (hall.out j (by have := HL.out; omega))
        rwa [List.getElem?_eq_getElem hj] at this
      go_wp2
      go_ret
      exact ⟨ret_bool hf.out.symm, rfl⟩

set_option maxHeartbeats 400000 in
theorem ints_any (a c : Option Addr) (len cap len' cap' : Nat) (xs ys : List Int) (w : World) (hr : Row .i64 w a len cap xs) (hr' : Row .i64 w c len' cap' ys) :
    Calls Try.prog 18 #[.slice a len cap, .slice c len' cap'] w fun e w' => e = .returned (.bool (decide (xs = ys))) ∧ Below w.heap.size w w' := by
  have hm := hr.hmax
  have hc := hr.hcap
  have HL : Hid (xs.length = len) := hr.hlen
  have HL' : Hid (ys.length = len') := hr'.hlen
  unfold maxLen at hm
  by_cases hne : len = len'
  · subst hne
    have hq : ((len : Int) != (len : Int)) = false := by simp
    go_enter Try.func18, Try.ntmps18
    go_wp2
    go_loopw [5] (fun y wr => ∃ i : Nat, i ≤ len ∧ y = .int .i64 i ∧ (∀ j, j < i → xs[j]?.getD 0 = ys[j]?.getD 0) ∧ ∃ nn, wr = w.drewN nn) (fun y _ => len - (intOf y).toNat)
    case atStart => exact ⟨0, Nat.zero_le _, rfl, fun j hj => absurd hj (by omega), 0, rfl⟩
    case round =>
      obtain ⟨i, hi, rfl, hall0, nn, rfl⟩ := hrel
      have hall : Hid (∀ j, j < i → xs[j]?.getD 0 = ys[j]?.getD 0) := hall0
      clear hall0
      by_cases hlt : i < len
      · obtain ⟨b, off, rfl, hbs, hcell⟩ := hr.hcell (by omega)
        obtain ⟨b', off', rfl, hbs', hcell'⟩ := hr'.hcell (by omega)
        have hc1 := hcell i hlt
        have hc2 := hcell' i hlt
        clear hcell hcell'
        have hlt' : (i : Int) < (len : Int) := by omega
        have hfn : Hid (xs[i]?.getD 0 ≠ ys[i]?.getD 0 → decide (xs = ys) = false) := fun hn => by
          rw [decide_eq_false_iff_not]
          rintro rfl
          exact hn rfl
        generalize hp : xs[i]?.getD 0 = p at *
        have HP : Hid (xs[i]?.getD 0 = p) := hp
        clear hp
        generalize hp : ys[i]?.getD 0 = q at *
        have HQ : Hid (ys[i]?.getD 0 = q) := hp
        clear hp
        by_cases hpq : p = q
        · have hb : (p != q) = false := by simp [hpq]
          have HE : Hid (p = q) := hpq
          clear hpq
          go_wp2
          go_quiet (fail)
          go_wp2
          go_roundw
          case rel =>
            refine ⟨i + 1, by omega, by go_num, fun j hj => ?_, _, rfl⟩
            by_cases e : j = i
            · subst e; rw [HP.out, HQ.out]; exact HE.out
            · exact hall.out j (by omega)
          case measure => simp [intOf]; omega
        · have hb : (p != q) = true := by simp [hpq]
          have hf := hfn.out hpq
          have HF : Hid (decide (xs = ys) = false) := hf
          clear hpq hf
          go_wp2
          go_quiet (fail)
          go_wp2
          go_ret
          exact ⟨ret_bool HF.out.symm, below_drewN (below_drewN (Below.refl _ _) _) _⟩
      · have hf : Hid (decide (xs = ys) = true) := by
          show decide (xs = ys) = true
          rw [decide_eq_true_iff]
          apply List.ext_getElem (by rw [HL.out, HL'.out])
          intro j h1 h2
          have := hall.out j (by have := HL.out; omega)
          rwa [List.getElem?_eq_getElem h1, List.getElem?_eq_getElem h2] at this
        go_wp2
        go_ret
        exact ⟨ret_bool hf.out.symm, below_drewN (Below.refl _ _) _⟩
  · have hf : Hid (decide (xs = ys) = false) := by
      show decide (xs = ys) = false
      rw [decide_eq_false_iff_not]
      rintro rfl
      have := HL.out; have := HL'.out; omega
    have hq : ((len : Int) != (len' : Int)) = true := by simp; omega
    go_enter Try.func18, Try.ntmps18
    go_wp2
    go_ret
    exact ⟨ret_bool hf.out.symm, Below.refl _ _⟩

end Go.Proofs.Ytmdiblknjgkpoaa
