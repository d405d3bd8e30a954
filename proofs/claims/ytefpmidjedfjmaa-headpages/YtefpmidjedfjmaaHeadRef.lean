/-
  The document's answer of layer 9 (casemateref09): Cap, Pages, Four, Number. (Written by tools/gen/head_ref.py.)
-/
import Derived.Test.YtefpmidjedfjmaaHeadCode
namespace Go.Proofs.Ytefpmidjedfjmaa
open Go.RowKit
set_option linter.unusedVariables false
set_option maxRecDepth 8192

set_option maxHeartbeats 800000 in
theorem refCap9_any {b p : Int} {s n : Nat} {f : Int} {R C : Nat} (G : GMay b p s n f R C) (w : World) : Calls Try.prog 13 #[.agg #[.int .i64 b, .int .i64 p, .int .i64 ((s : Nat)), .int .i64 ((n : Nat)), .int .i64 f]] w fun e w' => e = .returned (.int .i64 (C : Int)) ∧ Below w.heap.size w w' := by
  have hroom := refRoom_any b p f s n R G.hR G.hs G.hn
  have HC : Hid ((p - 1) * (R : Int) = C) := G.hC
  have hR := G.hR1
  have hp := G.hp
  have hC := G.hC1
  clear G
  go_enter Try.func13, Try.ntmps13
  go_wp2_with fail
  have gb := gbox_new w 23 b p s n f
  have q1 := below_one w (.cells #[.int .i64 b, .int .i64 p, .int .i64 s, .int .i64 n, .int .i64 f] 23)
  generalize w.alloc (.cells #[.int .i64 b, .int .i64 p, .int .i64 s, .int .i64 n, .int .i64 f] 23) = w0 at *
  generalize hgg : w.heap.size = g at gb
  go_wp2_with fail
  refine held_begin (by kernel_rfl) ?_
  refine held_reads (rs := [0, 1, 2, 3]) (fuel := 3) (by kernel_rfl) (fun c d v a w h => by cases d <;> exact h) (by kernel_rfl) (Since.drew _) (fun K hK => ?_)
  refine calm_do (.pointer (some ⟨g, 1, none⟩)) rfl (by rfl) (fun w' hw' => ?_) ?_
  · skip
    go_simp
  go_simp
  refine calm_do (.int .i64 p) rfl (by rfl) (fun w' hw' => ?_) ?_
  · have gb' := gb.below hw' (Nat.le_refl _)
    obtain ⟨_, c0, c1, c2, c3, c4⟩ := gb'
    go_simp
  go_simp
  refine calm_do (.int .i64 (p - 1)) rfl (by rfl) (fun w' hw' => ?_) ?_
  · skip
    go_simp
    all_goals (rw [IntKind.wrap_i64]; omega)
  go_simp
  refine calm_do (.agg #[.int .i64 b, .int .i64 p, .int .i64 s, .int .i64 n, .int .i64 f]) rfl (by rfl) (fun w' hw' => ?_) ?_
  · have gb' := gb.below hw' (Nat.le_refl _)
    obtain ⟨_, c0, c1, c2, c3, c4⟩ := gb'
    go_simp
  go_simp
  refine calm_nil (hK.out _ ?_)
  clear hK K
  refine held_call (i := 4) (fuel := 2) (by kernel_rfl) rfl (by rfl) (fun K hK => ?_)
  go_simp
  have qd := Since.drew w0
  replace gb := gb.below qd (Nat.le_refl _)
  replace q1 := btrans q1 qd
  clear qd
  refine (hroom _).mono ?_
  rintro e w1 ⟨rfl, qq0⟩
  refine hK _ _ (Since.trans (Since.drew _) qq0) ?_
  have qq : Since _ _ := qq0
  clear hK K qq0
  replace gb := gb.below qq (Nat.le_refl _)
  replace q1 := btrans q1 qq
  clear qq
  refine held_reads (rs := [5, 6]) (fuel := 0) (by kernel_rfl) (fun c d v a w h => by cases d <;> exact h) (by kernel_rfl) (Since.refl _) (fun K hK => ?_)
  go_simp
  refine calm_do (.int .i64 C) rfl (by rfl) (fun w' hw' => ?_) ?_
  · skip
    go_simp
    all_goals (rw [HC.out, IntKind.wrap_i64]; omega)
  go_simp
  refine calm_assign _ rfl (by rfl) rfl ?_
  go_simp
  refine calm_nil (hK.out _ ?_)
  clear hK K
  refine wpAnyH_done (by kernel_rfl) ?_ _
  go_wp2
  go_ret
  exact ⟨rfl, q1⟩
set_option maxHeartbeats 1600000 in
theorem refPages9_any {b p : Int} {s n : Nat} {f : Int} {R C : Nat} (G : GMay b p s n f R C) (m : Nat) (w : World) (hm : m ≤ C) : Calls Try.prog 14 #[.agg #[.int .i64 b, .int .i64 p, .int .i64 ((s : Nat)), .int .i64 ((n : Nat)), .int .i64 f], .int .i64 (m : Nat)] w fun e w' => e = .returned (.int .i64 (pagesOf R m : Nat)) ∧ Below w.heap.size w w' := by
  have hroom := refRoom_any b p f s n R G.hR G.hs G.hn
  have hR := G.hR1
  have hC := G.hC1
  clear G
  have HP : Hid (∀ k, k < pagesOf R m ↔ k * R < m) := fun k => pagesOf_lt (by omega)
  have HB : Hid (∀ k, k ≤ pagesOf R m → k * R ≤ m + R) := fun k hk => by
    rcases Nat.eq_zero_or_pos k with rfl | h0
    · omega
    · have h1 := (HP.out (k - 1)).1 (by omega)
      have h2 : k * R = (k - 1) * R + R := by rw [← Nat.add_one_mul]; congr 1; omega
      omega
  have hPb : pagesOf R m ≤ m + R := Nat.le_trans (Nat.div_le_self _ _) (by omega)
  go_enter Try.func14, Try.ntmps14
  go_wp2_with fail
  have gb := gbox_new w 23 b p s n f
  have q0 := below_one w (.cells #[.int .i64 b, .int .i64 p, .int .i64 s, .int .i64 n, .int .i64 f] 23)
  generalize w.alloc (.cells #[.int .i64 b, .int .i64 p, .int .i64 s, .int .i64 n, .int .i64 f] 23) = w0 at *
  generalize hgg : w.heap.size = g at gb
  have HGB : Hid (GBox w0 g b p s n f) := gb
  generalize hPP : pagesOf R m = PP at *
  clear gb
  go_loopw [5] (fun y wr => ∃ k : Nat, k ≤ PP ∧ y = .int .i64 (k : Int) ∧ Below w0.heap.size w0 wr) (fun y _ => PP - (intOf y).toNat)
  case atStart => exact ⟨0, Nat.zero_le _, rfl, Below.refl _ _⟩
  case round =>
    obtain ⟨k, hk, rfl, q⟩ := hrel
    obtain ⟨_, c0, c1, c2, c3, c4⟩ := HGB.out.below q (Nat.le_refl _)
    have hkR := HB.out k hk
    have HI : Hid (k < PP ↔ k * R < m) := HP.out k
    have HKR : Hid ((k : Int) * (R : Int) = ((k * R : Nat) : Int)) := (Int.natCast_mul k R).symm
    go_wp2_with fail
    refine (hroom _).mono ?_
    rintro e w2 ⟨rfl, q2⟩
    replace q := btrans q q2
    clear c0 c1 c2 c3 c4 q2
    have hw : wrap64 ((k : Int) * (R : Int)) = ((k * R : Nat) : Int) := by rw [HKR.out]; unfold wrap64; omega
    by_cases hlt : k < PP
    · have h1 := HI.out.1 hlt
      generalize k * R = KR at *
      have hl : (KR : Int) < (m : Int) := Int.ofNat_lt.2 h1
      clear HI HKR HP HB
      go_wp2_with fail
      go_roundw
      case rel => exact ⟨k + 1, hlt, rfl, q⟩
      case measure =>
        show PP - (k + 1) < PP - k
        omega
    · have h1 : ¬ k * R < m := fun h => hlt (HI.out.2 h)
      have hkP : PP = k := Nat.le_antisymm (Nat.not_lt.1 hlt) hk
      generalize k * R = KR at *
      have hl : ¬ (KR : Int) < (m : Int) := fun h => h1 (Int.ofNat_lt.1 h)
      clear HI HKR HP HB
      have HPP : Hid (pagesOf R m = k) := hPP.trans hkP
      clear hPP hkP
      go_wp2_with fail
      go_ret
      exact ⟨ret_int (by rw [HPP.out]), btrans q0 q⟩
set_option maxHeartbeats 1600000 in
theorem refFour_any (n : Int) (w : World) (h0 : 0 ≤ n) (h1 : n < 4294967296) : Calls Try.prog 25 #[.int .i64 n] w fun e w' => ∃ v, e = .returned v ∧ w'.ownsRow w.heap.size 5 1 v 4 ((four n).map (Value.int .u8)) ∧ Below w.heap.size w w' := by
  obtain ⟨i0, hi0, hz0, hz1, hz2⟩ := info_parts Try.info5
  have HT : Hid (∀ i, i < 4 → (four n).take (i + 1) = (four n).take i ++ [n / 256 ^ i % 256]) := fun i hi => by
    rcases (show i = 0 ∨ i = 1 ∨ i = 2 ∨ i = 3 by omega) with rfl | rfl | rfl | rfl <;> simp [four]
  have HE : Hid ((four n).take 4 = four n) := rfl
  go_enter Try.func25, Try.ntmps25
  go_wp2
  go_loopw [0, 3, 4] (fun x v y wr => ∃ i : Nat, i ≤ 4 ∧ y = .int .i64 (i : Int) ∧ x = .int .i64 (n / 256 ^ i) ∧ wr.ownsRow w.heap.size 5 1 v i (((four n).take i).map (Value.int .u8)) ∧ Below w.heap.size w wr) (fun _ _ y _ => 4 - (intOf y).toNat)
  case atStart => exact ⟨0, Nat.zero_le _, rfl, by simp, World.ownsRow_nil _ _ _ _, Below.refl _ _⟩
  case round =>
    obtain ⟨i, hi, rfl, rfl, hown, hnx⟩ := hrel
    have hsz := hnx.size
    by_cases hlt : i < 4
    · have HS : Hid ((four n).take (i + 1) = (four n).take i ++ [n / 256 ^ i % 256]) := HT.out i hlt
      have HD : Hid (n / 256 ^ i / 256 = n / 256 ^ (i + 1)) := div_step n i
      have hd0 : 0 ≤ n / 256 ^ i := Int.ediv_nonneg h0 (Int.pow_nonneg (by decide))
      have hd1 : n / 256 ^ i ≤ n := Int.ediv_le_self _ h0
      generalize n / 256 ^ i = x at *
      generalize (four n).take i = tk at *
      have hi4 : (i : Int) < 4 := by omega
      go_wp2_with (at_builtin; refine wpList_append_own _ rfl _ _ 30 rfl w.heap.size 5 i0 (.int .u8 0) 1 1 Try.underlying30 hi0 hz0 hz1 hz2 rfl (by decide) _ _ _ rfl (hown.alloc _) ⟨wr.heap.size, 0, none⟩ 1 1 [.int .u8 (x % 256)] rfl rfl (cell_one_new _ _ _) (by intro u hu; simp at hu; subst hu; rfl) (by unfold maxLen; omega) (by omega) (by simp; omega) ?_)
      intro v' w1 hown' hgrow _
      have RR := rel_push hsz hown hnx hown' hgrow
      rw [← HS.out] at RR
      clear hown' hgrow
      go_wp2
      go_roundw
      case rel => exact ⟨i + 1, by omega, by go_num, by rw [HD.out], RR.1, RR.2⟩
      case measure => simp [intOf]; omega
    · obtain rfl : i = 4 := by omega
      rw [HE.out] at hown
      go_wp2
      go_ret
      exact ⟨_, rfl, hown, hnx⟩
set_option maxHeartbeats 1600000 in
theorem refNumber_any (a : Option Addr) (len cap : Nat) (z : List Int) (w : World) (hr : Row .u8 w a len cap z) (hb : IsB z) (h4 : 4 ≤ len) :
    Calls Try.prog 28 #[.slice a len cap] w fun e w' => e = .returned (.int .i64 (numAt z 0)) ∧ w = w' := by
  obtain ⟨b, off, rfl, hbs, hcell⟩ := hr.hcell (by omega)
  have hm := hr.hmax
  have hcp := hr.hcap
  unfold maxLen at hm
  have HN : Hid (hornTo z 4 = numAt z 0) := hornTo_four z
  go_enter Try.func28, Try.ntmps28
  go_wp2
  go_loop [3, 4] (fun n y => ∃ k : Nat, k ≤ 4 ∧ y = .int .i64 (3 - (k : Int)) ∧ n = .int .i64 (hornTo z k)) (fun _ y => (intOf y + 1).toNat)
  case atStart => exact ⟨0, Nat.zero_le _, rfl, rfl⟩
  case round =>
    obtain ⟨k, hk, rfl, rfl⟩ := hrel
    by_cases hlt : k < 4
    · have hc1 := hcell (3 - k) (by omega)
      have hx := hb.idx (3 - k)
      have hn := hornTo_bd hb k
      have hp : (256 : Int) ^ k ≤ 256 ^ 4 := by exact_mod_cast Nat.pow_le_pow_right (n := 256) (by decide) (show k ≤ 4 by omega)
      have HS : Hid (hornTo z (k + 1) = 256 * hornTo z k + z[3 - k]?.getD 0) := rfl
      have hn1 : hornTo z k < 4294967296 := Int.lt_of_lt_of_le hn.2 hp
      have hn0 := hn.1
      clear hn hp
      generalize hornTo z k = nn at *
      generalize z[3 - k]?.getD 0 = x at *
      have e3 : (3 : Int) - (k : Int) = ((3 - k : Nat) : Int) := by omega
      rw [e3]
      have HK : Hid ((3 - k : Nat) = 3 - k) := rfl
      have hk3 : 3 - k ≤ 3 := by omega
      obtain ⟨kk, hkk⟩ : ∃ kk, kk = 3 - k := ⟨_, rfl⟩
      rw [← hkk] at hc1 hk3
      rw [← hkk]
      have HKK : Hid (kk = 3 - k) := hkk
      clear hkk e3
      have hk0 : (0 : Int) ≤ (kk : Int) := by omega
      go_wp2
      go_round
      case rel => exact ⟨k + 1, by omega, by have := HKK.out; go_num, by rw [HS.out]⟩
      case measure => have := HKK.out; simp [intOf]
    · obtain rfl : k = 4 := by omega
      rw [HN.out]
      go_wp2
      go_ret
      exact ⟨rfl, rfl⟩

end Go.Proofs.Ytefpmidjedfjmaa
