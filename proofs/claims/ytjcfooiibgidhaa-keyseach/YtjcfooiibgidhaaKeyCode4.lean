/-
  The code of layer 21 (keys), as it landed: Parse.
-/
import Derived.Test.YtjcfooiibgidhaaKeyOwn
namespace Go.Proofs.Ytjcfooiibgidhaa.N
open Go.RowKit
set_option linter.unusedVariables false
set_option maxRecDepth 8192

set_option maxHeartbeats 3200000 in
theorem kParse_any {w : World} {a : Option Addr} {n c : Nat} {z : List Int} (hr : Row .u8 w a n c z) (hz : IsB z) :
    Calls Try.prog 17 #[.slice a n c] w fun e w' => Below w.heap.size w w' ∧ ((isK mP z = true ∧ ∃ v, e = .returned (.tuple #[v, .int .i64 0]) ∧ w'.ownsRow w.heap.size 39 34 v (decK mP z).length (kCs (decK mP z))) ∨
      (isK mP z = false ∧ e = .returned (.tuple #[.slice none 0 0, .int .i64 4]))) := by
  have hcap := hr.hcap
  have hmax := hr.hmax
  have HL : Hid (z.length = n) := hr.hlen
  unfold maxLen at hmax
  by_cases h304 : n ≤ 304
  case neg =>
    have h304' : (304 : Int) < (n : Int) := by omega
    have HF : Hid (isK mP z = false) := by
      show _ = _
      cases h : isK mP z
      · rfl
      · have := isK_len hz h
        have := HL.out
        omega
    go_enter Try.func17, Try.ntmps17
    go_wp2
    go_ret2
    exact ⟨Below.refl _ _, .inr ⟨HF.out, rfl⟩⟩
  have h304' : ¬ (304 : Int) < (n : Int) := by omega
  obtain ⟨i0, hi0, hz0, hz1, hz2⟩ := ky_info
  have HC : Hid (kCnt z = (n - 8) / 37) := by show _ = _; unfold kCnt; rw [HL.out]
  go_enter Try.func17, Try.ntmps17
  go_wp2_with fail
  go_loopw [4, 5] (fun v i wr => ∃ k : Nat, k ≤ (n - 8) / 37 ∧ i = .int .i64 ((8 + 37 * k : Nat) : Int) ∧ wr.ownsRow w.heap.size 39 34 v k (kCs (kysTo mP z k)) ∧ Below w.heap.size w wr) (fun _ i _ => n + 400 - (RowKit.intOf i).toNat)
  case atStart => exact ⟨0, Nat.zero_le _, rfl, World.ownsRow_nil _ _ _ _, Below.refl _ _⟩
  case round =>
    obtain ⟨k, hk, rfl, own, q⟩ := hrel
    have hrw := hr.below q (Nat.le_refl _)
    have hsz := q.size
    by_cases hlt : 8 + 37 * k + 37 ≤ n
    · obtain ⟨b, off, rfl, hbs, hcell⟩ := hr.hcell (by omega)
      clear hcell
      have HS : Hid (kCs (kysTo mP z (k + 1)) = kCs (kysTo mP z k) ++ kCs [kyAt mP z (8 + 37 * k)]) := by show _ = _; rw [kysTo_succ, kCs_app]
      have hkey := key_any (row_drop hrw (8 + 37 * k) (by omega)) (isB_drop hz _) (by omega)
      rw [kyAt_from, Nat.add_zero] at hkey
      have hok := kyAt_ok (m := mP) hz (o := 8 + 37 * k) (by rw [HL.out]; exact hlt)
      have hk1 : k + 1 ≤ (n - 8) / 37 := by omega
      generalize kyAt mP z (8 + 37 * k) = s at *
      generalize hat : 8 + 37 * k = at0 at *
      have hlt' : (at0 : Int) + 37 ≤ (n : Int) := by omega
      have had : ¬ c = at0 := by omega
      go_wp2_with fail
      refine hkey.mono ?_
      rintro e w1 ⟨rfl, q1⟩
      have own1 := (own_below own q1).alloc (.cells (kA s) 39)
      have rn := kRow_one w1 hok 39
      have hms := fun w => made_ky hok w
      have hs1 := q1.size
      have q2 := btrans (btrans q q1) (below_one w1 (.cells (kA s) 39))
      clear own q1 hkey
      dsimp only
      go_step
      refine wpList_madeK 23 22 1 _ rfl rfl rfl 39 (kA s) hms ?_
      refine wpList_append_krow _ rfl _ _ 22 rfl w.heap.size 39 i0 (.agg (kA ky0)) Try.underlying22 hi0 hz0 hz1 hz2 (kA_size ky0_ok) _ k _ rfl own1 (some ⟨w1.heap.size, 0, none⟩) 1 1 [s] rfl rn (fun x hx => by rw [List.mem_singleton.1 hx]; exact hok) (by omega) (by simp; omega) ?_
      intro v2 w2 own2 qo
      rw [← HS.out] at own2
      have q3 := q2.trans qo
      clear own1 rn qo q2
      go_wp2_with fail
      go_roundw
      case rel => exact ⟨k + 1, hk1, by rw [← hat]; go_num, own2, q3⟩
      case measure => simp [RowKit.intOf]; omega
    · obtain rfl : k = (n - 8) / 37 := by omega
      rw [← HC.out] at own
      replace own : wr.ownsRow w.heap.size 39 34 _ (kCnt z) (kCs (decK mP z)) := own
      obtain ⟨a2, c2, rfl, kr⟩ := kRow_owns (kysTo_len mP z (kCnt z)) (decK_ok hz) own
      have HKO : Hid (wr.ownsRow w.heap.size 39 34 (.slice a2 (kCnt z) c2) (decK mP z).length (kCs (decK mP z))) := by
        show World.ownsRow _ _ _ _ _ _ _
        rw [show (decK mP z).length = kCnt z from kysTo_len mP z (kCnt z)]
        exact own
      have hkn := kr.hlen
      have hko := decK_ok (m := mP) hz
      have hlt' : ¬ ((8 + 37 * ((n - 8) / 37) : Nat) : Int) + 37 ≤ (n : Int) := by omega
      have hkc : kCnt z = (n - 8) / 37 := HC.out
      replace kr : KRow wr a2 (kCnt z) c2 (decK mP z) := kr
      have hat1 : 8 + 37 * ((n - 8) / 37) ≤ n + 8 := by omega
      rw [← hkc] at hlt' hat1
      rw [← hkc]
      have HY : Hid (isK mP z = (mayK (decK mP z) && decide (rBytes (decK mP z) = z))) := rfl
      clear own hlt hk hkc HC HL h304
      generalize hld : decK mP z = l at *
      have HLD : Hid (decK mP z = l) := hld
      clear hld
      generalize 8 + 37 * kCnt z = at0 at *
      generalize kCnt z = m at *
      cases hm : mayK l
      · have hb := kBytes_no kr hko hm
        have HF : Hid (isK mP z = false) := by show _ = _; rw [HY.out, hm, Bool.false_and]
        clear HY hm
        go_wp2_with fail
        refine hb.mono ?_
        rintro e w3 ⟨rfl, q3⟩
        have Q3 := btrans q q3
        clear hb q q3
        go_wp2_with fail
        go_ret2
        exact ⟨Q3, .inr ⟨HF.out, rfl⟩⟩
      · have hb := kBytes_yes kr hko hm
        go_wp2_with fail
        refine hb.mono ?_
        rintro e w3 ⟨u, rfl, own3, q3⟩
        have Q3 := btrans q q3
        obtain ⟨a3, c3, rfl, r3⟩ := row_of_owns own3
        have he := kEqual_any r3 (hr.below Q3 (Nat.le_refl _)) (isB_ring hko) hz
        have HKO3 : Hid (w3.ownsRow w.heap.size 39 34 (.slice a2 m c2) l.length (kCs l)) := own_below HKO.out q3
        have HF : Hid (isK mP z = decide (rBytes l = z)) := by show _ = _; rw [HY.out, hm, Bool.true_and]
        clear HY hm hb q q3 own3 r3 HKO hkn kr
        generalize decide (rBytes l = z) = bb at *
        cases bb
        · go_wp2_with fail
          refine he.mono ?_
          rintro e w' ⟨rfl, rfl⟩
          go_wp2_with fail
          go_ret2
          exact ⟨Q3, .inr ⟨HF.out, rfl⟩⟩
        · go_wp2_with fail
          refine he.mono ?_
          rintro e w' ⟨rfl, rfl⟩
          go_wp2_with fail
          go_ret2
          exact ⟨Q3, .inl ⟨HF.out, _, rfl, by rw [HLD.out]; exact HKO3.out⟩⟩
end Go.Proofs.Ytjcfooiibgidhaa.N
