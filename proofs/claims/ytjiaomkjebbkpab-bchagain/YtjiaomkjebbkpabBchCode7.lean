/-
  The code of layer 5 (bch), as it landed: roots, parted return what they should.
-/
import Derived.Test.YtjiaomkjebbkpabBchCode6
namespace Go.Proofs.Ytjiaomkjebbkpab
open Go.RowKit
set_option linter.unusedVariables false

theorem inv_pow2 (i : Nat) : gpow (ginv 2) i = ginv (gpow 2 i) := by
  show gpow (gpow 2 8190) i = gpow (gpow 2 i) 8190
  rw [← gpow_mul 2 _ _ (by decide), ← gpow_mul 2 _ _ (by decide), Nat.mul_comm]
theorem rts_hit {p : List Nat} {k : Nat} (h : evl p (gpow (ginv 2) k) = 0) : rts p (k + 1) = rts p k ++ [k] := by
  rw [inv_pow2] at h
  unfold rts
  rw [List.range_succ, List.filter_append]
  simp [h]
theorem rts_miss {p : List Nat} {k : Nat} (h : evl p (gpow (ginv 2) k) ≠ 0) : rts p (k + 1) = rts p k := by
  rw [inv_pow2] at h
  unfold rts
  rw [List.range_succ, List.filter_append]
  simp [h]
theorem rts_more (p : List Nat) (k d : Nat) : ∃ l, rts p (k + d) = rts p k ++ l := by
  induction d with
  | zero => exact ⟨[], by simp⟩
  | succ d ih =>
    obtain ⟨l, e⟩ := ih
    rcases Decidable.em (evl p (gpow (ginv 2) (k + d)) = 0) with h | h
    · exact ⟨l ++ [k + d], by rw [← Nat.add_assoc, rts_hit h, e, List.append_assoc]⟩
    · exact ⟨l, by rw [← Nat.add_assoc, rts_miss h, e]⟩
theorem rts_full {p : List Nat} {k n : Nat} (hp : IsP p) (hn : norm p = p) (hne : p ≠ []) (h8 : n ≤ 8191) (hk : k ≤ n) (h : p.length - 1 ≤ (rts p k).length) : rts p k = rts p n := by
  obtain ⟨l, e⟩ := rts_more p k (n - k)
  rw [show k + (n - k) = n from by omega] at e
  have := rts_le (n := n) hp (by rw [hn]; exact hne) h8
  rw [hn, e, List.length_append] at this
  have hl : l = [] := List.eq_nil_of_length_eq_zero (by omega)
  rw [e, hl, List.append_nil]
theorem length_rts_le (p : List Nat) (n : Nat) : (rts p n).length ≤ n := by
  have := List.length_filter_le (fun i => evl p (ginv (gpow 2 i)) == 0) (List.range n)
  rw [List.length_range] at this
  exact this

set_option maxHeartbeats 1600000 in
set_option maxRecDepth 100000 in
theorem roots_any (a : Option Addr) (len cap n : Nat) (p : List Nat) (w : World) (hr : Row .i64 w a len cap (ints p)) (hp : IsP p) (hnm : norm p = p) (hne : p ≠ []) (h8 : n ≤ 8191) (hsm : len ≤ 1000) :
    Calls Try.prog 13 #[.slice a len cap, .int .i64 n] w fun e w' => ∃ v, e = .returned v ∧ w'.ownsRow w.heap.size 3 1 v (rts p n).length ((ints (rts p n)).map (Value.int .i64)) ∧ Below w.heap.size w w' := by
  obtain ⟨j0, hj0, hy0, hy1, hy2⟩ := info_parts Try.info3
  have HL : Hid (p.length = len) := by have := hr.hlen; rwa [length_ints] at this
  have hl1 : 1 ≤ len := by have := List.length_pos_iff.2 hne; have := HL.out; omega
  have HFull : Hid (∀ k, k ≤ n → len - 1 ≤ (rts p k).length → rts p k = rts p n) := fun k hk h => rts_full hp hnm hne h8 hk (by rw [HL.out]; exact h)
  have HLE : Hid (∀ k, (rts p k).length ≤ k) := fun k => length_rts_le p k
  have HHit : Hid (∀ k, evl p (gpow (ginv 2) k) = 0 → rts p (k + 1) = rts p k ++ [k]) := fun k h => rts_hit h
  have HMiss : Hid (∀ k, evl p (gpow (ginv 2) k) ≠ 0 → rts p (k + 1) = rts p k) := fun k h => rts_miss h
  have hg2 : ginv 2 < 8192 := ginv_lt 2 (by decide)
  have HPS : Hid (∀ k, gmul (gpow (ginv 2) k) (ginv 2) = gpow (ginv 2) (k + 1)) := fun k => rfl
  have hexp := exp_same (-1) w (by decide) (by decide)
  rw [gz_neg_one] at hexp
  generalize ginv 2 = g2 at *
  go_enter Try.func13, Try.ntmps13
  go_wp2_with fail
  refine hexp.mono ?_
  rintro e w' ⟨rfl, rfl⟩
  clear hexp
  go_wp2_with fail
  go_loopw [5, 7, 8] (fun v x y wr => ∃ k : Nat, k ≤ n ∧ y = .int .i64 k ∧ x = .int .i64 (gpow g2 k : Nat) ∧ wr.ownsRow w.heap.size 3 1 v (rts p k).length ((ints (rts p k)).map (Value.int .i64)) ∧ Below w.heap.size w wr) (fun _ _ y _ => n - (intOf y).toNat)
  case atStart => exact ⟨0, Nat.zero_le _, rfl, rfl, World.ownsRow_nil _ _ _ _, Below.refl _ _⟩
  case round =>
    obtain ⟨k, hk, rfl, rfl, hown, hnx⟩ := hrel
    have hsz := hnx.size
    have hle := HLE.out k
    have hownE := hown
    have HFk : Hid (len - 1 ≤ (rts p k).length → rts p k = rts p n) := HFull.out k hk
    obtain ⟨ao, cp, rfl, _⟩ := row_of_owns hownE
    clear hownE
    by_cases hlt : k < n
    · have hkk : (k : Int) < (n : Int) := by omega
      by_cases hcnt : (rts p k).length < len - 1
      · have hrr := hr.below hnx (Nat.le_refl _)
        have c1 := gpow_lt g2 k hg2
        have HHk : Hid (evl p (gpow g2 k) = 0 → rts p (k + 1) = rts p k ++ [k]) := HHit.out k
        have HMk : Hid (evl p (gpow g2 k) ≠ 0 → rts p (k + 1) = rts p k) := HMiss.out k
        have HPk : Hid (gmul (gpow g2 k) g2 = gpow g2 (k + 1)) := HPS.out k
        have hev := evalC.yes a len cap p (gpow g2 k) wr hrr (by omega) hp c1
        generalize hx : gpow g2 k = x at *
        clear hx
        generalize hos : rts p k = os at *
        clear hos
        generalize hm : os.length = m at *
        have HM : Hid (os.length = m) := hm
        clear hm
        have hcc : (m : Int) < (len : Int) - 1 := by omega
        clear HFk HFull HLE HHit HMiss HPS
        go_wp2_with fail
        refine hev.mono ?_
        rintro e w1 ⟨rfl, hb1⟩
        clear hev hrr
        have hown1 := owns_below hown hb1
        have hB1 : Below w.heap.size w w1 := hnx.trans (hb1.mono hsz)
        have hsz1 := hB1.size
        clear hown hnx hsz hb1
        by_cases hz : evl p x = 0
        · have HS : Hid (rts p (k + 1) = os ++ [k]) := HHk.out hz
          have HSL : Hid ((rts p (k + 1)).length = m + 1) := by show _ = _; rw [HS.out, List.length_append, HM.out]; rfl
          have HSI : Hid (ints (rts p (k + 1)) = ints os ++ [(k : Int)]) := by show _ = _; rw [HS.out, ints_snoc]
          rw [hz]
          clear hz HHk HMk
          go_wp2_with (at_builtin; refine wpList_append_own _ rfl _ _ 30 rfl w.heap.size 3 j0 (.int .i64 0) 1 8 Try.underlying30 hj0 hy0 hy1 hy2 rfl (by decide) _ _ _ rfl (hown1.alloc _) ⟨w1.heap.size, 0, none⟩ 1 1 [.int .i64 (k : Nat)] rfl rfl (cell_one_new _ _ _) (by intro u hu; simp at hu; subst hu; rfl) (by unfold maxLen; omega) (by omega) (by simp; omega) ?_)
          intro v' w2 hown' hgrow _
          have R := rel_push hsz1 hown1 hB1 hown' hgrow
          rw [← HSI.out, ← HSL.out] at R
          clear hown' hgrow hown1 hB1
          go_wp2_with fail
          refine (ctimes_any x g2 _ c1 hg2).mono ?_
          rintro e w' ⟨rfl, rfl⟩
          rw [HPk.out]
          go_wp2_with fail
          go_roundw
          case rel => exact ⟨k + 1, by omega, by go_num, rfl, R.1, R.2⟩
          case measure => simp [intOf]; omega
        · have HS : Hid (rts p (k + 1) = os) := HMk.out hz
          have hq : (((evl p x : Nat) : Int) == 0) = false := by simp; omega
          clear hz HHk HMk
          go_wp2_with fail
          refine (ctimes_any x g2 _ c1 hg2).mono ?_
          rintro e w' ⟨rfl, rfl⟩
          rw [HPk.out]
          go_wp2_with fail
          go_roundw
          case rel => exact ⟨k + 1, by omega, by go_num, rfl, by rw [HS.out, HM.out]; exact hown1, hB1⟩
          case measure => simp [intOf]; omega
      · have hE := HFk.out (by omega)
        rw [hE] at hown hcnt ⊢
        clear hE
        generalize hos : rts p n = os at *
        have HOS : Hid (rts p n = os) := hos
        clear hos
        generalize hm : os.length = m at *
        have HM : Hid (os.length = m) := hm
        clear hm
        have hcc : ¬ (m : Int) < (len : Int) - 1 := by omega
        clear HFk HFull HLE HHit HMiss HPS
        go_wp2_with fail
        go_ret
        exact ⟨.slice ao m cp, rfl, by rw [HOS.out, HM.out]; exact hown, hnx⟩
    · have e : k = n := by omega
      subst e
      generalize hos : rts p k = os at *
      have HOS : Hid (rts p k = os) := hos
      clear hos
      generalize hm : os.length = m at *
      have HM : Hid (os.length = m) := hm
      clear hm HFk HFull HLE HHit HMiss HPS
      go_wp2_with fail
      go_ret
      exact ⟨.slice ao m cp, rfl, by rw [HOS.out, HM.out]; exact hown, hnx⟩

end Go.Proofs.Ytjiaomkjebbkpab
