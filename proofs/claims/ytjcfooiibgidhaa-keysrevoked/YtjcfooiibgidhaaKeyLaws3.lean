/-
  Layer 21's laws: the walk of KeysRevoked.
-/
import Derived.Test.YtjcfooiibgidhaaKeyFace
import Derived.Test.YtjcfooiibgidhaaKeyRef
import Derived.Test.YtjcfooiibgidhaaKeyEq
import Derived.Test.YtjcfooiibgidhaaKeyRevPlain
namespace Go.Proofs.Ytjcfooiibgidhaa.N
open Go.RowKit
set_option linter.unusedVariables false
set_option maxRecDepth 8192

theorem krev_long {a an : Option Addr} {n c m cn : Nat} {x : Int} {w : World} (hn : n ≤ 9223372036854775807) (hm : m ≤ 9223372036854775807) (hl : 100 < n ∨ 30 < m) : Calls Try.prog 6 #[.slice a n c, .slice an m cn, .int .i64 x] w fun e w' => e = .returned (.bool true) ∧ Below w.heap.size w w' := by
  by_cases h1 : 100 < n
  · have h1' : (100 : Int) < (n : Int) := by omega
    go_enter Try.func6, Try.ntmps6
    go_wp2_with fail
    go_ret
    exact ⟨rfl, Below.refl _ _⟩
  · have h1' : ¬ (100 : Int) < (n : Int) := by omega
    have h2' : (30 : Int) < (m : Int) := by omega
    go_enter Try.func6, Try.ntmps6
    go_wp2_with fail
    go_ret
    exact ⟨rfl, Below.refl _ _⟩
set_option maxHeartbeats 1600000 in
theorem krev_no {a an : Option Addr} {n c m cn : Nat} {x : Int} {l : List Ky} {w : World} (hr : KRow w a n c l) (hn : n ≤ 100) (hm : m ≤ 30) (hmk : mayK l = false) : Calls Try.prog 6 #[.slice a n c, .slice an m cn, .int .i64 x] w fun e w' => e = .returned (.bool true) ∧ Below w.heap.size w w' := by
  have h1' : ¬ (100 : Int) < (n : Int) := by omega
  have h2' : ¬ (30 : Int) < (m : Int) := by omega
  have hma := refMay21_any hr
  rw [hmk] at hma
  go_enter Try.func6, Try.ntmps6
  go_wp2_with fail
  refine hma.mono ?_
  rintro e w' ⟨rfl, rfl⟩
  clear hma
  go_wp2_with fail
  refine (awake21_any w).mono ?_
  rintro e w9 ⟨rfl, q9⟩
  go_wp2_with fail
  go_ret
  exact ⟨rfl, q9⟩
set_option maxHeartbeats 3200000 in
theorem krev_core {a an : Option Addr} {n c m cn : Nat} {x : Int} {l : List Ky} {z : List Int} {w : World} (hr : KRow w a n c l) (ho : ∀ s ∈ l, s.Ok) (rz : Row .i64 w an m cn z) (hn : n ≤ 100) (hm : m ≤ 30) (hmk : mayK l = true) :
    Calls Try.prog 6 #[.slice a n c, .slice an m cn, .int .i64 x] w fun e w' => e = .returned (.bool true) ∧ Below w.heap.size w w' := by
  have h1' : ¬ (100 : Int) < (n : Int) := by omega
  have h2' : ¬ (30 : Int) < (m : Int) := by omega
  have mz := rz.hmax
  have cz := rz.hcap
  unfold maxLen at mz
  have HLL : Hid (l.length = n) := hr.hlen
  have hma := refMay21_any hr
  rw [hmk] at hma
  have HFO := fnd_ok ho x
  have HLEN : Hid (∀ k, (revTo l z k).length = n) := fun k => by rw [revTo_len]; exact HLL.out
  have HOK : Hid (∀ k, ∀ s ∈ revTo l z k, s.Ok) := revTo_ok ho z
  have HMAY : Hid (∀ k, mayK (revTo l z k) = true) := revTo_may hmk z
  go_enter Try.func6, Try.ntmps6
  go_wp2_with fail
  refine hma.mono ?_
  rintro e w' ⟨rfl, rfl⟩
  clear hma
  go_wp2_with fail
  refine (find_yes (x := x) hr ho hmk).mono ?_
  rintro e w3 ⟨rfl, q3⟩
  have V3 := Vars.start w3
  generalize hfd : fndD l x = fd at *
  generalize hfc : fndC l x = fc at *
  have HFE : Hid (fndD l x = fd ∧ fndC l x = fc) := ⟨hfd, hfc⟩
  clear hfd hfc
  go_wp2_with (first
    | (refine wpList_allocV V3 7 28 rfl rfl rfl (dA zero32) zeroDg ?_; intro w4 g4 V4)
    | (refine wpList_storeV V4 0 rfl _ (.tmp 35) rfl rfl rfl (dA fd) rfl rfl Try.szDg (dA_size ky0_ok.len) (dA_size HFO.1) (dA_one _) ?_; intro w5 V5))
  replace V5 : Vars w3 w5 [⟨g4, 28, dA fd⟩] := V5
  refine (own21_any (hr.below (btrans q3 V5.bel) (Nat.le_refl _)) ho (by omega)).mono ?_
  rintro e w6 ⟨v6, rfl, own6, q6⟩
  obtain ⟨a6, c6, rfl, r6⟩ := kRow_owns HLL.out ho own6
  have V6 := V5.call q6
  have Q := btrans q3 V6.bel
  have HW : Hid (Below w.heap.size w w3) := q3
  clear own6 V3 V4 V5 q6 q3
  go_wp2_with fail
  go_loopw [9, 10, 11] (fun s9 s10 s11 wr => ∃ (k : Nat) (a' : Option Addr) (c' : Nat), k ≤ m ∧ s11 = .int .i64 (k : Int) ∧ s9 = .slice a' n c' ∧ s10 = .bool (hitTo z x k) ∧ KRow wr a' n c' (revTo l z k) ∧ Hid (Vars w3 wr [⟨g4, 28, dA fd⟩]) ∧ Below w.heap.size w wr) (fun _ _ s11 _ => m - (RowKit.intOf s11).toNat)
  case atStart => exact ⟨0, a6, c6, Nat.zero_le _, rfl, rfl, rfl, r6, V6, Q⟩
  case round =>
    clear V6 Q r6
    obtain ⟨k, a', c', hk, rfl, rfl, rfl, row, HV, Q⟩ := hrel
    by_cases hlt : k < m
    · obtain ⟨b, off, rfl, hbs, hcell⟩ := rz.hcell (by omega)
      have HC : Hid (∀ W, Below w.heap.size w W → ∀ j, j < m → W.cell? ⟨b, off + j, none⟩ = some (.int .i64 (z[j]?.getD 0))) := fun W q j hj => by rw [q.cell (show b < w.heap.size from hbs)]; exact hcell j hj
      clear hcell
      have hlt' : (k : Int) < (m : Int) := by omega
      have ck := HC.out wr Q k hlt
      have HX : Hid (hitTo z x (k + 1) = (hitTo z x k || (z[k]?.getD 0 == x))) := rfl
      have HGO : Hid (∀ j, j < k + 1 → fndC (revTo l z (k + 1)) (z[j]?.getD 0) = 190) := fun j hj => revTo_gone l z hj
      have hrev := revoke_yes (x := z[k]?.getD 0) row (HOK.out k) (HMAY.out k)
      have HS : Hid (revTo l z (k + 1) = revN (revTo l z k) (z[k]?.getD 0)) := rfl
      have HOK1 := HOK.out (k + 1)
      have HM1 := HMAY.out (k + 1)
      have HL1 := HLEN.out (k + 1)
      generalize hll : revTo l z k = lk at *
      generalize hl1 : revTo l z (k + 1) = l1 at *
      have HL1E : Hid (revTo l z (k + 1) = l1) := hl1
      clear hll hl1
      generalize hyk : z[k]?.getD 0 = y at *
      generalize hitTo z x k = hb at *
      have HYK : Hid (z[k]?.getD 0 = y) := hyk
      clear hyk
      go_wp2_with fail
      refine hrev.mono ?_
      rintro e w7 ⟨q7, hcase⟩
      have HV7 : Hid (Vars w3 w7 [⟨g4, 28, dA fd⟩]) := HV.out.call q7
      have Q7 := btrans Q q7
      have HH : Hid ((hb || (y == x)) = hitTo z x (k + 1)) := HX.out.symm
      clear hrev ck HX HV Q
      rcases hcase with ⟨i, v7, hi, rfl, own7⟩ | ⟨hi, rfl⟩
      · have e1 := revN_some hi
        rw [← HS.out] at e1
        rw [← e1] at own7
        obtain ⟨a7, c7, rfl, r7⟩ := kRow_owns HL1 HOK1 own7
        have ck := HC.out w7 Q7 k hlt
        rw [HYK.out] at ck
        clear own7 hi e1 HS row q7
        cases hb
        · have HT : Hid ((y == x) = hitTo z x (k + 1)) := HH.out
          clear HH
          go_wp2_with fail
          go_loopw [14] (fun s14 ws => ∃ j : Nat, j ≤ k + 1 ∧ s14 = .int .i64 (j : Int) ∧ Since w7 ws) (fun s14 _ => k + 1 - (RowKit.intOf s14).toNat)
          case atStart => exact ⟨0, Nat.zero_le _, rfl, Since.refl _⟩
          case round =>
            obtain ⟨j, hj, rfl, qs⟩ := hrel
            have HV8 : Hid (Vars w3 wr [⟨g4, 28, dA fd⟩]) := HV7.out.call qs
            have Q8 := btrans Q7 qs
            have r8 := r7.below qs (Nat.le_refl _)
            by_cases hjk : j < k + 1
            · have hjk' : (j : Int) ≤ (k : Int) := by omega
              have hjm' : (j : Int) < (m : Int) := by omega
              have cj := HC.out wr Q8 j (by omega)
              have hfi := find_yes (x := z[j]?.getD 0) r8 HOK1 HM1
              rw [HGO.out j hjk] at hfi
              have hfl := (fnd_ok HOK1 (z[j]?.getD 0)).1
              clear HV8 Q8 r8
              generalize fndD l1 (z[j]?.getD 0) = fj at *
              generalize z[j]?.getD 0 = yj at *
              go_wp2_with fail
              refine hfi.mono ?_
              rintro e w9 ⟨rfl, q9⟩
              have W9 := Vars.start w9
              clear hfi cj
              go_wp2_with (first
                | (refine wpList_allocV W9 15 28 rfl rfl rfl (dA zero32) zeroDg ?_; intro w10 g10 W10)
                | (refine wpList_storeV W10 0 rfl _ (.tmp 85) rfl rfl rfl (dA fj) rfl rfl Try.szDg (dA_size ky0_ok.len) (dA_size hfl) (dA_one _) ?_; intro w11 W11))
              have qf : Since w7 w11 := (qs.trans q9).trans W11.bel
              clear W9 W10 W11 q9
              go_roundw
              case rel => exact ⟨j + 1, by omega, by go_num, qf⟩
              case measure => simp [RowKit.intOf]; omega
            · obtain rfl : j = k + 1 := by omega
              have hjk' : ¬ ((k + 1 : Nat) : Int) ≤ (k : Int) := by omega
              have HR1 : Hid (KRow wr a7 n c7 (revTo l z (k + 1))) := by show KRow _ _ _ _ _; rw [HL1E.out]; exact r8
              clear r8 qs
              go_wp2_with fail
              go_roundw
              case rel => exact ⟨k + 1, _, _, by omega, by go_num, rfl, by rw [← HT.out], HR1.out, HV8, Q8⟩
              case measure => simp [RowKit.intOf]; omega
        · have HT : Hid (true = hitTo z x (k + 1)) := HH.out
          clear HH
          go_wp2_with fail
          go_loopw [14] (fun s14 ws => ∃ j : Nat, j ≤ k + 1 ∧ s14 = .int .i64 (j : Int) ∧ Since w7 ws) (fun s14 _ => k + 1 - (RowKit.intOf s14).toNat)
          case atStart => exact ⟨0, Nat.zero_le _, rfl, Since.refl _⟩
          case round =>
            obtain ⟨j, hj, rfl, qs⟩ := hrel
            have HV8 : Hid (Vars w3 wr [⟨g4, 28, dA fd⟩]) := HV7.out.call qs
            have Q8 := btrans Q7 qs
            have r8 := r7.below qs (Nat.le_refl _)
            by_cases hjk : j < k + 1
            · have hjk' : (j : Int) ≤ (k : Int) := by omega
              have hjm' : (j : Int) < (m : Int) := by omega
              have cj := HC.out wr Q8 j (by omega)
              have hfi := find_yes (x := z[j]?.getD 0) r8 HOK1 HM1
              rw [HGO.out j hjk] at hfi
              have hfl := (fnd_ok HOK1 (z[j]?.getD 0)).1
              clear HV8 Q8 r8
              generalize fndD l1 (z[j]?.getD 0) = fj at *
              generalize z[j]?.getD 0 = yj at *
              go_wp2_with fail
              refine hfi.mono ?_
              rintro e w9 ⟨rfl, q9⟩
              have W9 := Vars.start w9
              clear hfi cj
              go_wp2_with (first
                | (refine wpList_allocV W9 15 28 rfl rfl rfl (dA zero32) zeroDg ?_; intro w10 g10 W10)
                | (refine wpList_storeV W10 0 rfl _ (.tmp 85) rfl rfl rfl (dA fj) rfl rfl Try.szDg (dA_size ky0_ok.len) (dA_size hfl) (dA_one _) ?_; intro w11 W11))
              have qf : Since w7 w11 := (qs.trans q9).trans W11.bel
              clear W9 W10 W11 q9
              go_roundw
              case rel => exact ⟨j + 1, by omega, by go_num, qf⟩
              case measure => simp [RowKit.intOf]; omega
            · obtain rfl : j = k + 1 := by omega
              have hjk' : ¬ ((k + 1 : Nat) : Int) ≤ (k : Int) := by omega
              have HR1 : Hid (KRow wr a7 n c7 (revTo l z (k + 1))) := by show KRow _ _ _ _ _; rw [HL1E.out]; exact r8
              clear r8 qs
              go_wp2_with fail
              go_roundw
              case rel => exact ⟨k + 1, _, _, by omega, by go_num, rfl, by rw [← HT.out], HR1.out, HV8, Q8⟩
              case measure => simp [RowKit.intOf]; omega
      · have e1 := revN_none hi
        rw [← HS.out] at e1
        subst e1
        have r7 := row.below q7 (Nat.le_refl _)
        have ck := HC.out w7 Q7 k hlt
        rw [HYK.out] at ck
        clear hi HS row q7
        cases hb
        · have HT : Hid ((y == x) = hitTo z x (k + 1)) := HH.out
          clear HH
          go_wp2_with fail
          go_loopw [14] (fun s14 ws => ∃ j : Nat, j ≤ k + 1 ∧ s14 = .int .i64 (j : Int) ∧ Since w7 ws) (fun s14 _ => k + 1 - (RowKit.intOf s14).toNat)
          case atStart => exact ⟨0, Nat.zero_le _, rfl, Since.refl _⟩
          case round =>
            obtain ⟨j, hj, rfl, qs⟩ := hrel
            have HV8 : Hid (Vars w3 wr [⟨g4, 28, dA fd⟩]) := HV7.out.call qs
            have Q8 := btrans Q7 qs
            have r8 := r7.below qs (Nat.le_refl _)
            by_cases hjk : j < k + 1
            · have hjk' : (j : Int) ≤ (k : Int) := by omega
              have hjm' : (j : Int) < (m : Int) := by omega
              have cj := HC.out wr Q8 j (by omega)
              have hfi := find_yes (x := z[j]?.getD 0) r8 HOK1 HM1
              rw [HGO.out j hjk] at hfi
              have hfl := (fnd_ok HOK1 (z[j]?.getD 0)).1
              clear HV8 Q8 r8
              generalize fndD l1 (z[j]?.getD 0) = fj at *
              generalize z[j]?.getD 0 = yj at *
              go_wp2_with fail
              refine hfi.mono ?_
              rintro e w9 ⟨rfl, q9⟩
              have W9 := Vars.start w9
              clear hfi cj
              go_wp2_with (first
                | (refine wpList_allocV W9 15 28 rfl rfl rfl (dA zero32) zeroDg ?_; intro w10 g10 W10)
                | (refine wpList_storeV W10 0 rfl _ (.tmp 85) rfl rfl rfl (dA fj) rfl rfl Try.szDg (dA_size ky0_ok.len) (dA_size hfl) (dA_one _) ?_; intro w11 W11))
              have qf : Since w7 w11 := (qs.trans q9).trans W11.bel
              clear W9 W10 W11 q9
              go_roundw
              case rel => exact ⟨j + 1, by omega, by go_num, qf⟩
              case measure => simp [RowKit.intOf]; omega
            · obtain rfl : j = k + 1 := by omega
              have hjk' : ¬ ((k + 1 : Nat) : Int) ≤ (k : Int) := by omega
              have HR1 : Hid (KRow wr a' n c' (revTo l z (k + 1))) := by show KRow _ _ _ _ _; rw [HL1E.out]; exact r8
              clear r8 qs
              go_wp2_with fail
              go_roundw
              case rel => exact ⟨k + 1, _, _, by omega, by go_num, rfl, by rw [← HT.out], HR1.out, HV8, Q8⟩
              case measure => simp [RowKit.intOf]; omega
        · have HT : Hid (true = hitTo z x (k + 1)) := HH.out
          clear HH
          go_wp2_with fail
          go_loopw [14] (fun s14 ws => ∃ j : Nat, j ≤ k + 1 ∧ s14 = .int .i64 (j : Int) ∧ Since w7 ws) (fun s14 _ => k + 1 - (RowKit.intOf s14).toNat)
          case atStart => exact ⟨0, Nat.zero_le _, rfl, Since.refl _⟩
          case round =>
            obtain ⟨j, hj, rfl, qs⟩ := hrel
            have HV8 : Hid (Vars w3 wr [⟨g4, 28, dA fd⟩]) := HV7.out.call qs
            have Q8 := btrans Q7 qs
            have r8 := r7.below qs (Nat.le_refl _)
            by_cases hjk : j < k + 1
            · have hjk' : (j : Int) ≤ (k : Int) := by omega
              have hjm' : (j : Int) < (m : Int) := by omega
              have cj := HC.out wr Q8 j (by omega)
              have hfi := find_yes (x := z[j]?.getD 0) r8 HOK1 HM1
              rw [HGO.out j hjk] at hfi
              have hfl := (fnd_ok HOK1 (z[j]?.getD 0)).1
              clear HV8 Q8 r8
              generalize fndD l1 (z[j]?.getD 0) = fj at *
              generalize z[j]?.getD 0 = yj at *
              go_wp2_with fail
              refine hfi.mono ?_
              rintro e w9 ⟨rfl, q9⟩
              have W9 := Vars.start w9
              clear hfi cj
              go_wp2_with (first
                | (refine wpList_allocV W9 15 28 rfl rfl rfl (dA zero32) zeroDg ?_; intro w10 g10 W10)
                | (refine wpList_storeV W10 0 rfl _ (.tmp 85) rfl rfl rfl (dA fj) rfl rfl Try.szDg (dA_size ky0_ok.len) (dA_size hfl) (dA_one _) ?_; intro w11 W11))
              have qf : Since w7 w11 := (qs.trans q9).trans W11.bel
              clear W9 W10 W11 q9
              go_roundw
              case rel => exact ⟨j + 1, by omega, by go_num, qf⟩
              case measure => simp [RowKit.intOf]; omega
            · obtain rfl : j = k + 1 := by omega
              have hjk' : ¬ ((k + 1 : Nat) : Int) ≤ (k : Int) := by omega
              have HR1 : Hid (KRow wr a' n c' (revTo l z (k + 1))) := by show KRow _ _ _ _ _; rw [HL1E.out]; exact r8
              clear r8 qs
              go_wp2_with fail
              go_roundw
              case rel => exact ⟨k + 1, _, _, by omega, by go_num, rfl, by rw [← HT.out], HR1.out, HV8, Q8⟩
              case measure => simp [RowKit.intOf]; omega
    · obtain rfl : k = m := by omega
      have hfi := find_yes (x := x) row (HOK.out k) (HMAY.out k)
      have HHT : Hid ((hitTo z x k = true → fndC (revTo l z k) x = 190) ∧ (hitTo z x k = false → fndD (revTo l z k) x = fd ∧ fndC (revTo l z k) x = fc)) := ⟨fun h => revTo_hit h, fun h => by rw [← HFE.out.1, ← HFE.out.2]; exact revTo_miss h⟩
      have HFO2 := fnd_ok (HOK.out k) x
      have V8 := HV.out
      clear HV HFE
      generalize fndD (revTo l z k) x = fd2 at *
      generalize fndC (revTo l z k) x = fc2 at *
      generalize hitTo z x k = hb at *
      go_wp2_with fail
      refine hfi.mono ?_
      rintro e w8 ⟨rfl, q8⟩
      have V9 := V8.call q8
      replace Q := btrans Q q8
      clear hfi V8 q8
      go_wp2_with (first
        | (refine wpList_allocV V9 17 28 rfl rfl rfl (dA zero32) zeroDg ?_; intro w10 g10 V10)
        | (refine wpList_storeV V10 0 rfl _ (.tmp 93) rfl rfl rfl (dA fd2) rfl rfl Try.szDg (dA_size ky0_ok.len) (dA_size HFO2.1) (dA_one _) ?_; intro w11 V11))
      refine (awake21_any w11).mono ?_
      rintro e w12 ⟨rfl, q12⟩
      have V12 : Vars w3 w12 [⟨g10, 28, dA fd2⟩, ⟨g4, 28, dA fd⟩] := V11.call q12
      have HQ : Hid (Below w.heap.size w w12) := btrans (btrans HW.out V11.bel) q12
      cases hb
      · obtain ⟨rfl, rfl⟩ := HHT.out.2 rfl
        clear V9 V10 V11 Q q12 HHT
        go_wp2_with (first
          | (refine wpList_loadV V12 0 rfl 111 _ (by rfl) rfl rfl rfl Try.underlying28 Try.szDg (dA_size HFO2.1) ?_)
          | (refine wpList_loadV V12 1 rfl 112 _ (by rfl) rfl rfl rfl Try.underlying28 Try.szDg (dA_size HFO2.1) ?_)
          | (refine wpList_exec (by rfl) (exec_eqlD _ HFO2.1 HFO2.2 _ _ rfl rfl rfl) ?_))
        go_ret
        exact ⟨rfl, HQ.out⟩
      · have e2 := HHT.out.1 rfl
        clear V9 V10 V11 Q q12 HHT
        go_wp2_with fail
        go_ret
        exact ⟨rfl, HQ.out⟩
theorem walk_keysRevoked {a an : Option Addr} {n c m cn : Nat} {x : Int} {l : List Ky} {z : List Int} {w : World} (hr : KRow w a n c l) (ho : ∀ s ∈ l, s.Ok) (rz : Row .i64 w an m cn z) :
    Calls Try.prog 6 #[.slice a n c, .slice an m cn, .int .i64 x] w fun e w' => e = .returned (.bool true) ∧ Below w.heap.size w w' := by
  have b1 : n ≤ 9223372036854775807 := by have := hr.hcap; have := hr.hmax; unfold maxLen at this; omega
  have b2 : m ≤ 9223372036854775807 := by have := rz.hcap; have := rz.hmax; unfold maxLen at this; omega
  rcases Nat.lt_or_ge 100 n with h | h
  · exact krev_long b1 b2 (.inl h)
  · rcases Nat.lt_or_ge 30 m with h2 | h2
    · exact krev_long b1 b2 (.inr h2)
    · cases hm : mayK l
      · exact krev_no hr h h2 hm
      · exact krev_core hr ho rz h h2 hm
end Go.Proofs.Ytjcfooiibgidhaa.N
