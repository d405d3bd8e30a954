/-
  Layer 21's laws: the walk of KeysEach.
-/
import Derived.Test.YtjcfooiibgidhaaKeyFace
import Derived.Test.YtjcfooiibgidhaaKeyRef
import Derived.Test.YtjcfooiibgidhaaKeyEq
import Derived.Deep.CutRange
namespace Go.Proofs.Ytjcfooiibgidhaa.N
open Go.RowKit
set_option linter.unusedVariables false
set_option maxRecDepth 8192

/-- Is the number among those of the first k keys? -/
def inTo (l : List Ky) (x : Int) : Nat → Bool
  | 0 => false
  | k + 1 => inTo l x k || ((kyI l k).num == x)
theorem inTo_no {l : List Ky} {x : Int} : ∀ {k : Nat}, inTo l x k = false → ∀ i, i < k → (kyI l i).num ≠ x
  | 0, _, _, h => absurd h (Nat.not_lt_zero _)
  | k + 1, h, i, hi => by
    have h : (inTo l x k || ((kyI l k).num == x)) = false := h
    rw [Bool.or_eq_false_iff] at h
    rcases Nat.lt_or_ge i k with h1 | h1
    · exact inTo_no h.1 i h1
    · obtain rfl : i = k := by omega
      exact fun e => by rw [e] at h; simp at h
theorem kC_revs {k : Ky} (h : k.Ok) (b : Bool) : (kA k).setIfInBounds 33 (.bool b) = kA { k with rev := b } := by
  unfold kA kC
  rw [List.setIfInBounds_toArray, show 33 = 32 + 1 by rfl, List.set_cons_succ, List.set_append_right _ _ (by rw [dC_len h.len]; exact Nat.le_refl _), dC_len h.len]
  rfl
theorem each_long {a : Option Addr} {n c : Nat} {x : Int} {w : World} (hn : n ≤ 9223372036854775807) (hl : 100 < n) : Calls Try.prog 7 #[.slice a n c, .int .i64 x] w fun e w' => e = .returned (.bool true) ∧ Below w.heap.size w w' := by
  have hl' : (100 : Int) < (n : Int) := by omega
  go_enter Try.func7, Try.ntmps7
  go_wp2_with fail
  go_ret
  exact ⟨rfl, Below.refl _ _⟩
theorem each_no {a : Option Addr} {n c : Nat} {l : List Ky} {x : Int} {w : World} (hr : KRow w a n c l) (ho : ∀ s ∈ l, s.Ok) (hl : n ≤ 100) (hm : mayK l = false) : Calls Try.prog 7 #[.slice a n c, .int .i64 x] w fun e w' => e = .returned (.bool true) ∧ Below w.heap.size w w' := by
  have hl' : ¬ (100 : Int) < (n : Int) := by omega
  go_enter Try.func7, Try.ntmps7
  go_wp2_with fail
  refine (kBytes_no hr ho hm).mono ?_
  rintro e w2 ⟨rfl, q2⟩
  go_wp2_with fail
  refine (awake21_any w2).mono ?_
  rintro e w9 ⟨rfl, q9⟩
  have HQ : Hid (Below w.heap.size w w9) := btrans q2 q9
  clear q2 q9
  go_wp2_with fail
  go_ret
  exact ⟨rfl, HQ.out⟩
set_option maxHeartbeats 3200000 in
theorem each_core {a : Option Addr} {n c : Nat} {l : List Ky} {x : Int} {w : World} (hr : KRow w a n c l) (ho : ∀ s ∈ l, s.Ok) (hl : n ≤ 100) (hm : mayK l = true) : Calls Try.prog 7 #[.slice a n c, .int .i64 x] w fun e w' => e = .returned (.bool true) ∧ Below w.heap.size w w' := by
  have hl' : ¬ (100 : Int) < (n : Int) := by omega
  have mm := hr.hmax
  have mc := hr.hcap
  unfold maxLen at mm
  have HLL : Hid (l.length = n) := hr.hlen
  have HM : Hid (mayK l = true) := hm
  go_enter Try.func7, Try.ntmps7
  go_wp2_with fail
  refine (kBytes_yes hr ho hm).mono ?_
  rintro e w2 ⟨u2, rfl, own2, q2⟩
  obtain ⟨a2, c2, rfl, r2⟩ := row_of_owns own2
  clear own2 r2 hm
  go_wp2_with fail
  go_loopw [7, 8] (fun s7 s8 wr => ∃ k : Nat, k ≤ n ∧ s8 = .int .i64 (k : Int) ∧ s7 = .bool (inTo l x k) ∧ Below w.heap.size w wr) (fun _ s8 _ => n - (RowKit.intOf s8).toNat)
  case atStart => exact ⟨0, Nat.zero_le _, rfl, rfl, q2⟩
  case round =>
    clear q2
    obtain ⟨k, hk, rfl, rfl, Q⟩ := hrel
    by_cases hlt : k < n
    · obtain ⟨b, off, rfl, hbs, hcell⟩ := hr.hcell (by omega)
      have hlt' : (k : Int) < (n : Int) := by omega
      have HX : Hid (∀ W, Below w.heap.size w W → ∀ j, j < n → W.rangeAt b (off + j * 34) (kC (kyI l j))) := fun W q j hj => range_block (hcell j hj) (q.block b hbs)
      clear hcell
      have hkl : k < l.length := by rw [HLL.out]; exact hlt
      have hk0 := kyI_ok ho k
      have hpl := placeK_at HM.out hkl rfl
      have c0 := kr_num (HX.out wr Q k hlt)
      have hfi := find_yes (x := (kyI l k).num) (hr.below Q (Nat.le_refl _)) ho HM.out
      have HFX : Hid (((kyI l k).rev = true → fndD l (kyI l k).num = zero32 ∧ fndC l (kyI l k).num = 190) ∧ ((kyI l k).rev = false → fndD l (kyI l k).num = (kyI l k).dig ∧ fndC l (kyI l k).num = 0)) := ⟨fun h => fnd_rev hpl h, fun h => fnd_some hpl h⟩
      have HIN : Hid (inTo l x (k + 1) = (inTo l x k || ((kyI l k).num == x))) := rfl
      have HREV : Hid (∀ W, Below w.heap.size w W → Calls Try.prog 11 #[.slice (some ⟨b, off, none⟩) n c, .int .i64 (kyI l k).num] W fun e w' => Below W.heap.size W w' ∧ ∃ a' c', e = .returned (.tuple #[.slice a' n c', .int .i64 0]) ∧ KRow w' a' n c' (revK l k)) := fun W q => by
        refine (revoke_yes (x := (kyI l k).num) (hr.below q (Nat.le_refl _)) ho HM.out).mono ?_
        rintro e w' ⟨q', ⟨i, v, hi, rfl, own⟩ | ⟨hn, _⟩⟩
        · rw [hpl] at hi
          cases hi
          obtain ⟨a', c', rfl, r'⟩ := kRow_owns (by rw [revK_len]; exact HLL.out) (revK_ok ho k) own
          exact ⟨q', a', c', rfl, r'⟩
        · rw [hpl] at hn; cases hn
      have HSAME : Hid (∀ j, j < n → kyI (revK l k) j = { kyI l j with rev := ((kyI l j).rev || decide (j = k)) }) := fun j hj => by
        rw [revK_at l k (by rw [HLL.out]; exact hj)]
        by_cases e : k = j
        · subst e; simp
        · rw [if_neg e, decide_eq_false (fun e' => e e'.symm), Bool.or_false]
      have hfl := fnd_ok ho (kyI l k).num
      have HKO : Hid (∀ j, (kyI l j).Ok) := kyI_ok ho
      clear hpl hkl
      generalize hky : kyI l k = s at *
      generalize inTo l x k = ib at *
      have HKY : Hid (kyI l k = s) := hky
      clear hky
      generalize fndD l s.num = fd at *
      generalize fndC l s.num = fc at *
      go_wp2_with fail
      refine hfi.mono ?_
      rintro e w3 ⟨rfl, q3⟩
      have V3 := Vars.start w3
      clear hfi c0
      go_wp2_with (first
        | (refine wpList_allocV V3 9 28 rfl rfl rfl (dA zero32) zeroDg ?_; intro w4 g4 V4)
        | (refine wpList_storeV V4 0 rfl _ (.tmp 42) rfl rfl rfl (dA fd) rfl rfl Try.szDg (dA_size ky0_ok.len) (dA_size hfl.1) (dA_one _) ?_; intro w5 V5))
      replace V5 : Vars w3 w5 [⟨g4, 28, dA fd⟩] := V5
      replace Q := btrans (btrans Q q3) V5.bel
      have hdl := hk0.len
      have hdb := hk0.byt
      replace V5 := V5.drew
      replace Q := Q.drew
      clear V3 V4 q3
      have c33 : ∀ w', Since w5.drew w' → w'.cell? ⟨b, off + k * 34 + 33, none⟩ = some (.bool s.rev) := fun w' q => by have := kr_rev (HKO.out k) (HX.out w' (btrans Q q) k hlt); rw [HKY.out] at this; exact this
      have hd1 : ∀ w', Since w5.drew w' → w'.rangeAt b (off + k * 34 + 1) (dC s.dig) := fun w' q => by have := kr_dig (HKO.out k) (HX.out w' (btrans Q q) k hlt); rw [HKY.out] at this; exact this
      go_cut [73] from 44 to 73 (fun s73 wq => s73 = .bool false ∧ wq = w5.drew)
      case first =>
        refine av_open (Since w5.drew) (by kernel_rfl) ?_
        cases hrev : s.rev
        · obtain ⟨rfl, rfl⟩ := HFX.out.2 hrev
          rw [hrev] at c33
          refine held_reads (rs := [0, 1, 2, 3, 4, 5, 6, 7, 8, 9, 10, 11, 12, 13, 14, 15, 16, 17, 18, 19, 20, 21, 22, 23, 24, 25, 26, 27, 28, 29]) (fuel := 0) (by kernel_rfl) (fun c d v a w h => by cases d <;> exact h) (by kernel_rfl) (Since.refl _) (fun K hK => ?_)
          iterate 30 (first
            | (refine calm_move _ rfl (by rfl) rfl ?_; go_simp)
            | (refine calm_skip rfl (by rfl) ?_; go_simp)
            | (refine calm_do (.agg (dA s.dig)) rfl (by rfl) (fun w' hw' => exec_loadD hdl _ rfl g4 0 rfl (range_all ((V5.call hw').at 0 rfl))) ?_; go_simp)
            | (refine calm_do (.agg (dA s.dig)) rfl (by rfl) (fun w' hw' => exec_loadD hdl _ rfl b (off + k * 34 + 1) rfl (hd1 w' hw')) ?_; go_simp)
            | (refine calm_do (.bool false) rfl (by rfl) (fun w' hw' => exec_neqD _ hdl hdb _ _ rfl rfl rfl) ?_; go_simp)
            | (apply calm_do _ rfl (by rfl) (fun w' hw' => by (have h33 := c33 w' hw'); go_simp; rfl); go_simp))
          refine calm_nil (hK.out _ ?_)
          clear hK K
          refine wpAnyH_done (by kernel_rfl) ?_ _
          go_wp2_with fail
          go_meet
          exact ⟨rfl, rfl⟩
        · obtain ⟨rfl, rfl⟩ := HFX.out.1 hrev
          rw [hrev] at c33
          refine held_reads (rs := [0, 1, 2, 3, 4, 5, 6, 7, 8, 9, 10, 11, 12, 13, 14, 15, 16, 17, 18, 19, 20, 21, 22, 23, 24, 25, 26, 27, 28, 29]) (fuel := 0) (by kernel_rfl) (fun c d v a w h => by cases d <;> exact h) (by kernel_rfl) (Since.refl _) (fun K hK => ?_)
          iterate 30 (first
            | (refine calm_move _ rfl (by rfl) rfl ?_; go_simp)
            | (refine calm_skip rfl (by rfl) ?_; go_simp)
            | (apply calm_do _ rfl (by rfl) (fun w' hw' => by (have h33 := c33 w' hw'); go_simp; rfl); go_simp))
          refine calm_nil (hK.out _ ?_)
          clear hK K
          refine wpAnyH_done (by kernel_rfl) ?_ _
          go_wp2_with fail
          go_meet
          exact ⟨rfl, rfl⟩
      obtain ⟨rfl, rfl⟩ := hcut
      have c0 : w5.drew.cell? ⟨b, off + k * 34, none⟩ = some (.int .i64 s.num) := by have := kr_num (HX.out _ Q k hlt); rw [HKY.out] at this; exact this
      have hrv := HREV.out _ Q
      have HIB : Hid (inTo l x (k + 1) = (ib || (s.num == x))) := HIN.out
      clear HFX HIN V5 c33 hd1
      generalize w5.drew = w6 at *
      go_upto_region 13 with fail
      go_cut [7] from 74 to 83 (fun s7 wq => s7 = .bool (inTo l x (k + 1)) ∧ wq = w6)
      case first =>
        cases ib
        · have HIT : Hid (inTo l x (k + 1) = (s.num == x)) := HIB.out
          clear HIB
          go_wp2_with fail
          go_meet
          exact ⟨by rw [HIT.out], rfl⟩
        · have HIT : Hid (inTo l x (k + 1) = true) := HIB.out
          clear HIB
          go_wp2_with fail
          go_meet
          exact ⟨by rw [HIT.out], rfl⟩
      obtain ⟨rfl, rfl⟩ := hcut
      clear HIB
      go_wp2_with fail
      refine hrv.mono ?_
      rintro e w7 ⟨q7, a7, c7, rfl, r7⟩
      have Q7 := btrans Q q7
      obtain ⟨b7, off7, rfl, hbs7, hcell7⟩ := r7.hcell (by omega)
      have H7 : Hid (∀ W, Since w7 W → ∀ j, j < n → W.rangeAt b7 (off7 + j * 34) (kC (kyI (revK l k) j))) := fun W q j hj => range_block (hcell7 j hj) (q.block b7 hbs7)
      have m7 := r7.hmax
      have n7 := r7.hcap
      unfold maxLen at m7
      clear hrv c0 q7 hcell7
      go_wp2_with fail
      go_loopw [13] (fun s13 ws => ∃ j : Nat, j ≤ n ∧ s13 = .int .i64 (j : Int) ∧ Since w7 ws) (fun s13 _ => n - (RowKit.intOf s13).toNat)
      case atStart => exact ⟨0, Nat.zero_le _, rfl, Since.refl _⟩
      case round =>
        obtain ⟨j, hj, rfl, qs⟩ := hrel
        by_cases hjn : j < n
        · have hjn' : (j : Int) < (n : Int) := by omega
          have hxj := HX.out wr (btrans Q7 qs) j hjn
          have hyo := HKO.out j
          have HSJ := HSAME.out j hjn
          generalize kyI l j = y at *
          generalize hy2e : kyI (revK l k) j = y2 at *
          have HY2 : Hid (kyI (revK l k) j = y2) := hy2e
          clear hy2e
          have hy2 : y2.Ok := by rw [HSJ]; exact ⟨hyo.len, hyo.byt⟩
          have HSV : Hid ((y.rev = true → kA ⟨y.num, y.dig, true⟩ = kA y2) ∧ (y.rev = false → kA ⟨y.num, y.dig, ((j : Int) == (k : Int))⟩ = kA y2)) := by
            refine ⟨fun h => by rw [HSJ, h]; rfl, fun h => ?_⟩
            rw [HSJ, h, show ((j : Int) == (k : Int)) = decide (j = k) by
              by_cases e : j = k
              · subst e; simp
              · rw [decide_eq_false e]; simp; omega]
            rfl
          have W0 := Vars.start wr
          clear HSJ
          go_upto_region 21 with (first
            | (refine wpList_load_mid rfl 39 _ rfl b (off + j * 34) rfl (kC y) _ hxj Try.underlying39 rfl (by rw [kC_len hyo]; exact Try.szKy) ?_)
            | (refine wpList_allocV W0 14 39 rfl rfl rfl (kA ky0) zeroKy ?_; intro w9 g9 W9)
            | (refine wpList_storeV W9 0 rfl _ (.tmp 112) rfl rfl rfl (kA y) rfl rfl Try.szKy (kA_size ky0_ok) (kA_size hyo) (kA_one y) ?_; intro w10 W10))
          simp only [Act.put, List.setIfInBounds_toArray, List.set_cons_zero, List.set_cons_succ]
          go_cut [] from 113 to 120 (fun wq => Vars wr wq [⟨g9, 39, kA y2⟩])
          case first =>
            have d33 := ky_rev hyo (W10.at 0 rfl)
            have f33 := arr_unfrozen (W10.at 0 rfl) 33
            cases hry : y.rev
            · have W11 := W10.put 0 rfl 33 (.bool ((j : Int) == (k : Int)))
              rw [kC_revs hyo, HSV.out.2 hry] at W11
              have HW : Hid (Vars wr (w10.setCell ⟨g9, 33, none⟩ (.bool ((j : Int) == (k : Int)))) [⟨g9, 39, kA y2⟩]) := W11
              rw [hry] at d33
              clear W11 W10 W9 W0
              go_wp2_with fail
              go_meet
              exact HW.out
            · have W11 := W10.put 0 rfl 33 (.bool true)
              rw [kC_revs hyo, HSV.out.1 hry] at W11
              have HW : Hid (Vars wr (w10.setCell ⟨g9, 33, none⟩ (.bool true)) [⟨g9, 39, kA y2⟩]) := W11
              rw [hry] at d33
              clear W11 W10 W9 W0
              go_wp2_with fail
              go_meet
              exact HW.out
          have W11 := Vars.drew hcut
          have qs2 := qs.trans W11.bel
          have hlj : ∀ w', Since wc.drew w' → w'.rangeAt b7 (off7 + j * 34) (kC y2) := fun w' q => by
            have := H7.out w' (qs2.trans q) j hjn
            rw [HY2.out] at this
            exact this
          clear W0 W9 W10 hxj hcut
          go_wp2_with fail
          refine av_open (Since wc.drew) (by kernel_rfl) ?_
          refine held_reads (rs := [0, 1, 2, 3, 4, 5]) (fuel := 0) (by kernel_rfl) (fun c d v a w h => by cases d <;> exact h) (by kernel_rfl) (Since.refl _) (fun K hK => ?_)
          iterate 6 (first
            | (refine calm_move _ rfl (by rfl) rfl ?_; go_simp)
            | (refine calm_do (.agg (kA y2)) rfl (by rfl) (fun w' hw' => exec_loadKy hy2 _ rfl b7 (off7 + j * 34) rfl (hlj w' hw')) ?_; go_simp)
            | (refine calm_do (.agg (kA y2)) rfl (by rfl) (fun w' hw' => exec_loadKy hy2 _ rfl g9 0 rfl (range_all ((W11.call hw').at 0 rfl))) ?_; go_simp)
            | (refine calm_do (.bool false) rfl (by rfl) (fun w' hw' => exec_neqKy hy2 _ _ rfl rfl rfl) ?_; go_simp)
            | (apply calm_do _ rfl (by rfl) (fun w' hw' => by go_simp; rfl); go_simp))
          refine calm_nil (hK.out _ ?_)
          clear hK K W11 hlj
          refine wpAnyH_done (by kernel_rfl) ?_ _
          go_wp2_with fail
          go_roundw
          case rel => exact ⟨j + 1, by omega, by go_num, qs2⟩
          case measure => simp [RowKit.intOf]; omega
        · obtain rfl : j = n := by omega
          have QQ := btrans Q7 qs
          clear qs r7
          go_wp2_with fail
          go_roundw
          case rel => exact ⟨k + 1, by omega, by go_num, rfl, QQ⟩
          case measure => simp [RowKit.intOf]; omega
    · obtain rfl : k = n := by omega
      have hnf : fndC l x = 190 ∨ inTo l x k = true := by
        cases hi : inTo l x k
        · left
          exact (fnd_none (placeK_all (by rw [HLL.out]; exact inTo_no hi))).2
        · exact .inr rfl
      have HNF : Hid _ := hnf
      have hfi := find_yes (x := x) (hr.below Q (Nat.le_refl _)) ho HM.out
      have hfl := (fnd_ok ho x).1
      clear hnf
      generalize fndD l x = fd at *
      generalize fndC l x = fc at *
      generalize inTo l x k = ib at *
      go_wp2_with fail
      refine hfi.mono ?_
      rintro e w3 ⟨rfl, q3⟩
      have V3 := Vars.start w3
      replace Q := btrans Q q3
      clear hfi q3
      go_wp2_with (first
        | (refine wpList_allocV V3 15 28 rfl rfl rfl (dA zero32) zeroDg ?_; intro w4 g4 V4)
        | (refine wpList_storeV V4 0 rfl _ (.tmp 131) rfl rfl rfl (dA fd) rfl rfl Try.szDg (dA_size ky0_ok.len) (dA_size hfl) (dA_one _) ?_; intro w5 V5))
      refine (awake21_any w5).mono ?_
      rintro e w6 ⟨rfl, q6⟩
      have HQ : Hid (Below w.heap.size w w6) := btrans (btrans Q V5.bel) q6
      clear V3 V4 V5 Q q6
      cases ib
      · obtain rfl : fc = 190 := by
          rcases HNF.out with h | h
          · exact h
          · cases h
        go_wp2_with fail
        go_ret
        exact ⟨rfl, HQ.out⟩
      · go_wp2_with fail
        go_ret
        exact ⟨rfl, HQ.out⟩
theorem walk_keysEach {a : Option Addr} {n c : Nat} {l : List Ky} {x : Int} {w : World} (hr : KRow w a n c l) (ho : ∀ s ∈ l, s.Ok) : Calls Try.prog 7 #[.slice a n c, .int .i64 x] w fun e w' => e = .returned (.bool true) ∧ Below w.heap.size w w' := by
  rcases Nat.lt_or_ge 100 n with h | h
  · exact each_long (by have := hr.hcap; have := hr.hmax; unfold maxLen at this; omega) h
  · cases hm : mayK l
    · exact each_no hr ho h hm
    · exact each_core hr ho h hm
end Go.Proofs.Ytjcfooiibgidhaa.N
