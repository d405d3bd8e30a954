/-
  The document's answer of layer 9 (casemateref09): Four, Number.
-/
import Derived.Test.YtjcfooiibgidhaaHeadPlain
import Derived.Test.YtjcfooiibgidhaaBase
namespace Go.Proofs.Ytjcfooiibgidhaa
open Go.RowKit
set_option linter.unusedVariables false
set_option maxRecDepth 8192

set_option maxHeartbeats 1600000 in
theorem refFour_any (n : Int) (w : World) (h0 : 0 ≤ n) (h1 : n < 4294967296) : Calls Try.prog 24 #[.int .i64 n] w fun e w' => ∃ v, e = .returned v ∧ w'.ownsRow w.heap.size 5 1 v 4 ((four n).map (Value.int .u8)) ∧ Below w.heap.size w w' := by
  obtain ⟨i0, hi0, hz0, hz1, hz2⟩ := info_parts Try.info5
  have HT : Hid (∀ i, i < 4 → (four n).take (i + 1) = (four n).take i ++ [n / 256 ^ i % 256]) := fun i hi => by
    rcases (show i = 0 ∨ i = 1 ∨ i = 2 ∨ i = 3 by omega) with rfl | rfl | rfl | rfl <;> simp [four]
  have HE : Hid ((four n).take 4 = four n) := rfl
  go_enter Try.func24, Try.ntmps24
  go_wp2
  go_loopw [0, 3, 4] (fun x v y wr => ∃ i : Nat, i ≤ 4 ∧ y = .int .i64 (i : Int) ∧ x = .int .i64 (n / 256 ^ i) ∧ wr.ownsRow w.heap.size 5 1 v i (((four n).take i).map (Value.int .u8)) ∧ Below w.heap.size w wr) (fun _ _ y _ => 4 - (RowKit.intOf y).toNat)
  case atStart => exact ⟨0, Nat.zero_le _, rfl, by simp, World.ownsRow_nil _ _ _ _, Below.refl _ _⟩
  case round =>
    obtain ⟨i, hi, rfl, rfl, hown, hnx⟩ := hrel
    have hsz := hnx.size
    by_cases hlt : i < 4
    · have HS : Hid ((four n).take (i + 1) = (four n).take i ++ [n / 256 ^ i % 256]) := HT.out i hlt
      have HD : Hid (n / 256 ^ i / 256 = n / 256 ^ (i + 1)) := div_step256 n i
      have hd0 : 0 ≤ n / 256 ^ i := Int.ediv_nonneg h0 (Int.pow_nonneg (by decide))
      have hd1 : n / 256 ^ i ≤ n := Int.ediv_le_self _ h0
      generalize n / 256 ^ i = x at *
      generalize (four n).take i = tk at *
      have hi4 : (i : Int) < 4 := by omega
      go_wp2_with (at_builtin; refine wpList_append_own _ rfl _ _ 24 rfl w.heap.size 5 i0 (.int .u8 0) 1 1 Try.underlying24 hi0 hz0 hz1 hz2 rfl (by decide) _ _ _ rfl (hown.alloc _) ⟨wr.heap.size, 0, none⟩ 1 1 [.int .u8 (x % 256)] rfl rfl (cell_one_new _ _ _) (by intro u hu; simp at hu; subst hu; rfl) (by unfold maxLen; omega) (by omega) (by simp; omega) ?_)
      intro v' w1 hown' hgrow _
      have RR := rel_push hsz hown hnx hown' hgrow
      rw [← HS.out] at RR
      clear hown' hgrow
      go_wp2
      go_roundw
      case rel => exact ⟨i + 1, by omega, by go_num, by rw [HD.out], RR.1, RR.2⟩
      case measure => simp [RowKit.intOf]; omega
    · obtain rfl : i = 4 := by omega
      rw [HE.out] at hown
      go_wp2
      go_ret
      exact ⟨_, rfl, hown, hnx⟩
set_option maxHeartbeats 1600000 in
theorem refNumber_any (a : Option Addr) (len cap : Nat) (z : List Int) (w : World) (hr : Row .u8 w a len cap z) (hb : IsB z) (h4 : 4 ≤ len) :
    Calls Try.prog 27 #[.slice a len cap] w fun e w' => e = .returned (.int .i64 (numAt z 0)) ∧ w = w' := by
  obtain ⟨b, off, rfl, hbs, hcell⟩ := hr.hcell (by omega)
  have hm := hr.hmax
  have hcp := hr.hcap
  unfold maxLen at hm
  have HN : Hid (hornTo z 4 = numAt z 0) := hornTo_four z
  go_enter Try.func27, Try.ntmps27
  go_wp2
  go_loop [3, 4] (fun n y => ∃ k : Nat, k ≤ 4 ∧ y = .int .i64 (3 - (k : Int)) ∧ n = .int .i64 (hornTo z k)) (fun _ y => (RowKit.intOf y + 1).toNat)
  case atStart => exact ⟨0, Nat.zero_le _, rfl, rfl⟩
  case round =>
    obtain ⟨k, hk, rfl, rfl⟩ := hrel
    by_cases hlt : k < 4
    · have hc1 := hcell (3 - k) (by omega)
      have hx := hb.idx (3 - k)
      have hn := hornTo_bd hb k
      have hp : (256 : Int) ^ k ≤ 256 ^ 4 := by exact_mod_cast Nat.pow_le_pow_right (n := 256) (by decide) (show k ≤ 4 by omega)
      have HS : Hid (hornTo z (k + 1) = 256 * hornTo z k + z[3 - k]?.getD 0) := rfl
      have hn1 : hornTo z k < 4294967296 := Int.lt_of_lt_of_le hn.2 hp
      have hn0 := hn.1
      clear hn hp
      generalize hornTo z k = nn at *
      generalize z[3 - k]?.getD 0 = x at *
      have e3 : (3 : Int) - (k : Int) = ((3 - k : Nat) : Int) := by omega
      rw [e3]
      have HK : Hid ((3 - k : Nat) = 3 - k) := rfl
      have hk3 : 3 - k ≤ 3 := by omega
      obtain ⟨kk, hkk⟩ : ∃ kk, kk = 3 - k := ⟨_, rfl⟩
      rw [← hkk] at hc1 hk3
      rw [← hkk]
      have HKK : Hid (kk = 3 - k) := hkk
      clear hkk e3
      have hk0 : (0 : Int) ≤ (kk : Int) := by omega
      go_wp2
      go_round
      case rel => exact ⟨k + 1, by omega, by have := HKK.out; go_num, by rw [HS.out]⟩
      case measure => have := HKK.out; simp [RowKit.intOf]
    · obtain rfl : k = 4 := by omega
      rw [HN.out]
      go_wp2
      go_ret
      exact ⟨rfl, rfl⟩

end Go.Proofs.Ytjcfooiibgidhaa
