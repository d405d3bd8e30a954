/-
  Layer 21's laws: the walks of KeysParse and KeysBack.
-/
import Derived.Test.YtjcfooiibgidhaaKeyFace
import Derived.Test.YtjcfooiibgidhaaKeyRef3
namespace Go.Proofs.Ytjcfooiibgidhaa.N
open Go.RowKit
set_option linter.unusedVariables false
set_option maxRecDepth 8192

theorem kparse_long {a : Option Addr} {n c : Nat} {w : World} (hn : n ≤ 9223372036854775807) (hl : 1000 < n) : Calls Try.prog 4 #[.slice a n c] w fun e w' => e = .returned (.bool true) ∧ Below w.heap.size w w' := by
  have hl' : (1000 : Int) < (n : Int) := by omega
  go_enter Try.func4, Try.ntmps4
  go_wp2_with fail
  go_ret
  exact ⟨rfl, Below.refl _ _⟩
set_option maxHeartbeats 1600000 in
theorem kparse_core {a : Option Addr} {n c : Nat} {z : List Int} {w : World} (hr : Row .u8 w a n c z) (hz : IsB z) (hl : n ≤ 1000) : Calls Try.prog 4 #[.slice a n c] w fun e w' => e = .returned (.bool true) ∧ Below w.heap.size w w' := by
  have hl' : ¬ (1000 : Int) < (n : Int) := by omega
  go_enter Try.func4, Try.ntmps4
  go_wp2_with fail
  refine (kParse_any hr hz).mono ?_
  rintro e w1 ⟨q1, h1⟩
  have href := refParse21_any (hr.below q1 (Nat.le_refl _)) hz
  have hsm := isK_same hz
  rcases h1 with ⟨hk, v1, rfl, own1⟩ | ⟨hk, rfl⟩
  · have hdk := (isK_two (m' := mR) (by decide) (by decide) hz hk).2
    have hok := decK_ok (m := mP) hz
    rw [hdk, hsm, hk] at href
    generalize decK mP z = l at *
    obtain ⟨a1, c1, rfl, r1⟩ := kRow_owns rfl hok own1
    clear own1 hk hsm hdk
    generalize hll : l.length = m at *
    clear hll
    go_wp2_with fail
    refine href.mono ?_
    rintro e w2 ⟨q2, ⟨_, v2, rfl, own2⟩ | ⟨h, _⟩⟩
    case inr => cases h
    obtain ⟨a2, c2, rfl, r2⟩ := kRow_owns r1.hlen hok own2
    replace r1 := r1.below q2 (Nat.le_refl _)
    replace q1 := btrans q1 q2
    clear own2 q2 href
    go_wp2_with fail
    refine (awake21_any w2).mono ?_
    rintro e w3 ⟨rfl, q3⟩
    have hsame := refSame21_any (r1.below q3 (Nat.le_refl _)) (r2.below q3 (Nat.le_refl _)) hok
    replace q1 := btrans q1 q3
    clear q3 r1 r2
    go_wp2_with fail
    refine hsame.mono ?_
    rintro e w4 ⟨rfl, q4⟩
    have HQ : Hid (Below w.heap.size w w4) := btrans q1 q4
    clear hsame q1 q4
    go_wp2_with fail
    go_ret
    exact ⟨rfl, HQ.out⟩
  · rw [hsm, hk] at href
    clear hk hsm
    go_wp2_with fail
    refine href.mono ?_
    rintro e w2 ⟨q2, ⟨h, _⟩ | ⟨_, rfl⟩⟩
    case inl => cases h
    replace q1 := btrans q1 q2
    clear q2 href
    go_wp2_with fail
    refine (awake21_any w2).mono ?_
    rintro e w3 ⟨rfl, q3⟩
    have HQ : Hid (Below w.heap.size w w3) := btrans q1 q3
    clear q1 q3
    go_wp2_with fail
    go_ret
    exact ⟨rfl, HQ.out⟩
theorem walk_keysParse {a : Option Addr} {n c : Nat} {z : List Int} {w : World} (hr : Row .u8 w a n c z) (hz : IsB z) : Calls Try.prog 4 #[.slice a n c] w fun e w' => e = .returned (.bool true) ∧ Below w.heap.size w w' := by
  rcases Nat.lt_or_ge 1000 n with h | h
  · exact kparse_long (by have := hr.hcap; have := hr.hmax; unfold maxLen at this; omega) h
  · exact kparse_core hr hz h
theorem kback_long {a ab : Option Addr} {n c m cb : Nat} {w : World} (hn : n ≤ 9223372036854775807) (hm : m ≤ 9223372036854775807) (hl : 100 < n ∨ 1000 < m) : Calls Try.prog 5 #[.slice a n c, .slice ab m cb] w fun e w' => e = .returned (.bool true) ∧ Below w.heap.size w w' := by
  by_cases h1 : 100 < n
  · have h1' : (100 : Int) < (n : Int) := by omega
    go_enter Try.func5, Try.ntmps5
    go_wp2_with fail
    go_ret
    exact ⟨rfl, Below.refl _ _⟩
  · have h1' : ¬ (100 : Int) < (n : Int) := by omega
    have h2' : (1000 : Int) < (m : Int) := by omega
    go_enter Try.func5, Try.ntmps5
    go_wp2_with fail
    go_ret
    exact ⟨rfl, Below.refl _ _⟩
set_option maxHeartbeats 3200000 in
theorem kback_core {a ab : Option Addr} {n c m cb : Nat} {l : List Ky} {z : List Int} {w : World} (hr : KRow w a n c l) (ho : ∀ s ∈ l, s.Ok) (rz : Row .u8 w ab m cb z) (hz : IsB z) (hn : n ≤ 100) (hm : m ≤ 1000) :
    Calls Try.prog 5 #[.slice a n c, .slice ab m cb] w fun e w' => e = .returned (.bool true) ∧ Below w.heap.size w w' := by
  have h1' : ¬ (100 : Int) < (n : Int) := by omega
  have h2' : ¬ (1000 : Int) < (m : Int) := by omega
  have HLL : Hid (l.length = n) := hr.hlen
  have HSEC : Hid (∀ W, Below w.heap.size w W → Calls Try.prog 17 #[.slice ab m cb] W fun e w' => Below W.heap.size W w' ∧ ((isK mP z = true ∧ ∃ v, e = .returned (.tuple #[v, .int .i64 0]) ∧ w'.ownsRow W.heap.size 39 34 v (decK mP z).length (kCs (decK mP z))) ∨
      (isK mP z = false ∧ e = .returned (.tuple #[.slice none 0 0, .int .i64 4])))) := fun W q => kParse_any (rz.below q (Nat.le_refl _)) hz
  have HBY : Hid (isK mP z = true → ∀ W a' c' k, KRow W a' k c' (decK mP z) → Calls Try.prog 9 #[.slice a' k c'] W fun e w' => ∃ u, e = .returned (.tuple #[u, .int .i64 0]) ∧ w'.ownsRow W.heap.size 5 1 u (8 + 37 * k) (z.map (Value.int .u8)) ∧ Below W.heap.size W w') := fun h W a' c' k row => by
    have hy := kBytes_yes row (decK_ok hz) (isK_yes h).1
    rw [(isK_yes h).2] at hy
    exact hy
  have HRZ : Hid (∀ W, Below w.heap.size w W → Row .u8 W ab m cb z) := fun W q => rz.below q (Nat.le_refl _)
  have HDO : Hid (∀ s ∈ decK mP z, s.Ok) := decK_ok hz
  clear rz
  go_enter Try.func5, Try.ntmps5
  go_wp2_with fail
  cases hmk : mayK l
  · refine (kBytes_no hr ho hmk).mono ?_
    rintro e w2 ⟨rfl, Q⟩
    clear hr hmk
    go_wp2_with fail
    refine (HSEC.out _ Q).mono ?_
    rintro e w7 ⟨q7, hcase⟩
    replace Q := btrans Q q7
    clear q7
    rcases hcase with ⟨ht, v7, rfl, own7⟩ | ⟨hf, rfl⟩
    · have hby := HBY.out ht
      have hdo := HDO.out
      generalize decK mP z = dl at *
      obtain ⟨a7, c7, rfl, r7⟩ := kRow_owns rfl hdo own7
      generalize dl.length = dn at *
      have hb := hby w7 a7 c7 dn r7
      clear own7 r7 hby ht hdo
      go_wp2_with fail
      refine hb.mono ?_
      rintro e w8 ⟨u8, rfl, own8, q8⟩
      obtain ⟨a8, c8, rfl, r8⟩ := row_of_owns own8
      replace Q := btrans Q q8
      clear own8 q8 hb
      go_wp2_with fail
      refine (awake21_any w8).mono ?_
      rintro e w9 ⟨rfl, q9⟩
      have HQ : Hid (Below w.heap.size w w9) := btrans Q q9
      have kc1 := conv_row (P := Try.prog) Try.underlying24 Try.underlying5 Try.underlying9 (r8.below q9 (Nat.le_refl _))
      have kc2 := conv_row (P := Try.prog) Try.underlying24 Try.underlying5 Try.underlying9 (HRZ.out w9 HQ.out)
      clear Q q9 r8
      go_wp2_with fail
      go_ret
      exact ⟨rfl, HQ.out⟩
    · go_wp2_with fail
      refine (awake21_any w7).mono ?_
      rintro e w9 ⟨rfl, q9⟩
      have HQ : Hid (Below w.heap.size w w9) := btrans Q q9
      clear Q q9
      go_wp2_with fail
      go_ret
      exact ⟨rfl, HQ.out⟩
  · refine (kBytes_yes hr ho hmk).mono ?_
    rintro e w2 ⟨u, rfl, own, q2⟩
    obtain ⟨au, cu, rfl, ru⟩ := row_of_owns own
    have hpa := kParse_any ru (isB_ring ho)
    have hik := isK_bytes (m := mP) (by decide) (by decide) ho hmk
    have hdk := decK_bytes (m := mP) (by decide) (by decide) ho hmk
    rw [hik, hdk, HLL.out] at hpa
    clear own hmk ru hik hdk
    go_wp2_with fail
    refine hpa.mono ?_
    rintro e w3 ⟨q3, ⟨_, v3, rfl, own3⟩ | ⟨h, _⟩⟩
    case inr => cases h
    obtain ⟨a3, c3, rfl, r3⟩ := kRow_owns HLL.out ho own3
    replace q2 := btrans q2 q3
    have hsame := refSame21_any r3 (hr.below q2 (Nat.le_refl _)) ho
    clear own3 r3 q3 hpa hr
    go_wp2_with fail
    refine hsame.mono ?_
    rintro e w4 ⟨rfl, q4⟩
    have Q := btrans q2 q4
    clear hsame q2 q4
    go_wp2_with fail
    refine (HSEC.out _ Q).mono ?_
    rintro e w7 ⟨q7, hcase⟩
    replace Q := btrans Q q7
    clear q7
    rcases hcase with ⟨ht, v7, rfl, own7⟩ | ⟨hf, rfl⟩
    · have hby := HBY.out ht
      have hdo := HDO.out
      generalize decK mP z = dl at *
      obtain ⟨a7, c7, rfl, r7⟩ := kRow_owns rfl hdo own7
      generalize dl.length = dn at *
      have hb := hby w7 a7 c7 dn r7
      clear own7 r7 hby ht hdo
      go_wp2_with fail
      refine hb.mono ?_
      rintro e w8 ⟨u8, rfl, own8, q8⟩
      obtain ⟨a8, c8, rfl, r8⟩ := row_of_owns own8
      replace Q := btrans Q q8
      clear own8 q8 hb
      go_wp2_with fail
      refine (awake21_any w8).mono ?_
      rintro e w9 ⟨rfl, q9⟩
      have HQ : Hid (Below w.heap.size w w9) := btrans Q q9
      have kc1 := conv_row (P := Try.prog) Try.underlying24 Try.underlying5 Try.underlying9 (r8.below q9 (Nat.le_refl _))
      have kc2 := conv_row (P := Try.prog) Try.underlying24 Try.underlying5 Try.underlying9 (HRZ.out w9 HQ.out)
      clear Q q9 r8
      go_wp2_with fail
      go_ret
      exact ⟨rfl, HQ.out⟩
    · go_wp2_with fail
      refine (awake21_any w7).mono ?_
      rintro e w9 ⟨rfl, q9⟩
      have HQ : Hid (Below w.heap.size w w9) := btrans Q q9
      clear Q q9
      go_wp2_with fail
      go_ret
      exact ⟨rfl, HQ.out⟩
theorem walk_keysBack {a ab : Option Addr} {n c m cb : Nat} {l : List Ky} {z : List Int} {w : World} (hr : KRow w a n c l) (ho : ∀ s ∈ l, s.Ok) (rz : Row .u8 w ab m cb z) (hz : IsB z) :
    Calls Try.prog 5 #[.slice a n c, .slice ab m cb] w fun e w' => e = .returned (.bool true) ∧ Below w.heap.size w w' := by
  have b1 : n ≤ 9223372036854775807 := by have := hr.hcap; have := hr.hmax; unfold maxLen at this; omega
  have b2 : m ≤ 9223372036854775807 := by have := rz.hcap; have := rz.hmax; unfold maxLen at this; omega
  rcases Nat.lt_or_ge 100 n with h | h
  · exact kback_long b1 b2 (.inl h)
  · rcases Nat.lt_or_ge 1000 m with h2 | h2
    · exact kback_long b1 b2 (.inr h2)
    · exact kback_core hr ho rz hz h h2
end Go.Proofs.Ytjcfooiibgidhaa.N
