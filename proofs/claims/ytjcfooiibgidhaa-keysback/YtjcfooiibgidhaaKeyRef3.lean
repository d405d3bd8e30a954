/-
  The document's answer of layer 21 (casemateref21): Parse.
-/
import Derived.Test.YtjcfooiibgidhaaKeyRef2
namespace Go.Proofs.Ytjcfooiibgidhaa.N
open Go.RowKit
set_option linter.unusedVariables false
set_option maxRecDepth 8192

/-- So many bytes of a key's are laid. -/
def digTo (D : List Int) (j : Nat) : List Int := D.take j ++ List.replicate (32 - j) 0
theorem digTo_zero (D : List Int) : digTo D 0 = zero32 := by simp [digTo, zero32]
theorem digTo_all {D : List Int} (h : 32 ≤ D.length) : digTo D 32 = D.take 32 := by simp [digTo]
theorem digTo_len {D : List Int} {j : Nat} (h : 32 ≤ D.length) (hj : j ≤ 32) : (digTo D j).length = 32 := by
  unfold digTo
  rw [List.length_append, List.length_take, List.length_replicate]; omega
theorem digTo_set {D : List Int} {j : Nat} (h : 32 ≤ D.length) (hj : j < 32) : (digTo D j).set j (D[j]?.getD 0) = digTo D (j + 1) := by
  have hl : (D.take j).length = j := by rw [List.length_take]; omega
  unfold digTo
  rw [List.set_append_right _ _ (by omega), hl, Nat.sub_self, show 32 - j = (32 - (j + 1)) + 1 by omega, List.replicate_succ, List.set_cons_zero, List.take_succ_eq_append_getElem (by omega), List.getElem?_eq_getElem (by omega), List.append_assoc]
  rfl
theorem kA_set (x : Int) (d : List Int) (r : Bool) (j : Nat) (hj : j < d.length) (v : Int) : (kA ⟨x, d, r⟩).setIfInBounds (1 + j) (.int .u8 v) = kA ⟨x, d.set j v, r⟩ := by
  unfold kA kC dC
  rw [List.setIfInBounds_toArray, show 1 + j = j + 1 by omega, List.set_cons_succ, List.set_append_left _ _ (by simpa using hj), List.map_set]
theorem numTakeK (z : List Int) (k : Nat) : numAt ((z.drop k).take 4) 0 = numAt z k := by
  simp [numAt, List.getElem?_drop]
/-- Bytes of another length are no ring's. -/
theorem isK_no {z : List Int} (hz : IsB z) (h : z.length < 8 ∨ (z.length - 8) % 37 ≠ 0 ∨ 304 < z.length) : isK mR z = false := by
  cases hk : isK mR z
  · rfl
  · have := isK_len hz hk
    omega
theorem built_kyR (x : Int) (r : Bool) : Try.prog.built 39 [(0, .int .i64 x), (2, .bool r)] = some (kA ⟨x, zero32, r⟩) := by kernel_rfl
set_option maxHeartbeats 3200000 in
theorem refParse21_any {w : World} {a : Option Addr} {n c : Nat} {z : List Int} (hr : Row .u8 w a n c z) (hz : IsB z) :
    Calls Try.prog 18 #[.slice a n c] w fun e w' => Below w.heap.size w w' ∧ ((isK mR z = true ∧ ∃ v, e = .returned (.tuple #[v, .bool true]) ∧ w'.ownsRow w.heap.size 39 34 v (decK mR z).length (kCs (decK mR z))) ∨
      (isK mR z = false ∧ e = .returned (.tuple #[.slice none 0 0, .bool false]))) := by
  have hcap := hr.hcap
  have hmax := hr.hmax
  have HL : Hid (z.length = n) := hr.hlen
  unfold maxLen at hmax
  by_cases h8 : n < 8
  · have HF : Hid (isK mR z = false) := isK_no hz (.inl (by rw [HL.out]; exact h8))
    have h8' : (n : Int) < 8 := by omega
    go_enter Try.func18, Try.ntmps18
    go_wp2
    go_ret2
    exact ⟨Below.refl _ _, .inr ⟨HF.out, rfl⟩⟩
  have h8' : ¬ (n : Int) < 8 := by omega
  by_cases h37 : (n - 8) % 37 = 0
  case neg =>
    have HF : Hid (isK mR z = false) := isK_no hz (.inr (.inl (by rw [HL.out]; exact h37)))
    have e8 : (n : Int) - 8 = ((n - 8 : Nat) : Int) := by omega
    have e37 : ((n - 8 : Nat) : Int).tmod 37 = (((n - 8) % 37 : Nat) : Int) := by rw [Int.tmod_eq_emod_of_nonneg (by omega)]; omega
    generalize (n - 8) % 37 = r at *
    have hr0 : ¬ (r : Int) = 0 := by omega
    generalize n - 8 = m at *
    go_enter Try.func18, Try.ntmps18
    go_wp2
    go_ret2
    exact ⟨Below.refl _ _, .inr ⟨HF.out, rfl⟩⟩
  have e8 : (n : Int) - 8 = ((n - 8 : Nat) : Int) := by omega
  have e37 : ((n - 8 : Nat) : Int).tmod 37 = 0 := by rw [Int.tmod_eq_emod_of_nonneg (by omega)]; omega
  by_cases h304 : n ≤ 304
  case neg =>
    have HF : Hid (isK mR z = false) := isK_no hz (.inr (.inr (by rw [HL.out]; omega)))
    have h304' : (304 : Int) < (n : Int) := by omega
    generalize n - 8 = m at *
    go_enter Try.func18, Try.ntmps18
    go_wp2
    go_ret2
    exact ⟨Below.refl _ _, .inr ⟨HF.out, rfl⟩⟩
  have h304' : ¬ (304 : Int) < (n : Int) := by omega
  obtain ⟨i0, hi0, hz0, hz1, hz2⟩ := ky_info
  obtain ⟨kk, hkk⟩ : ∃ kk, n = 8 + 37 * kk := ⟨(n - 8) / 37, by omega⟩
  have HC : Hid (kCnt z = kk) := by show _ = _; unfold kCnt; rw [HL.out]; omega
  have HKK : Hid (n = 8 + 37 * kk) := hkk
  have hk9 : kk ≤ 100 := by omega
  generalize hmm : n - 8 = m at *
  clear hmm hkk
  go_enter Try.func18, Try.ntmps18
  go_wp2_with fail
  go_loopw [4, 5] (fun v i wr => ∃ k : Nat, k ≤ kk ∧ i = .int .i64 ((8 + 37 * k : Nat) : Int) ∧ wr.ownsRow w.heap.size 39 34 v k (kCs (kysTo mR z k)) ∧ Below w.heap.size w wr) (fun _ i _ => n + 400 - (RowKit.intOf i).toNat)
  case atStart => exact ⟨0, Nat.zero_le _, rfl, World.ownsRow_nil _ _ _ _, Below.refl _ _⟩
  case round =>
    clear e8 e37 h37
    obtain ⟨k, hk, rfl, own, q⟩ := hrel
    have hrw := hr.below q (Nat.le_refl _)
    have hsz := q.size
    by_cases hlt : k < kk
    · have hat0 : 8 + 37 * k + 37 ≤ n := by have := HKK.out; omega
      obtain ⟨b, off, rfl, hbs, hcell⟩ := hrw.hcell (by omega)
      have HS : Hid (kCs (kysTo mR z (k + 1)) = kCs (kysTo mR z k) ++ kCs [kyAt mR z (8 + 37 * k)]) := by show _ = _; rw [kysTo_succ, kCs_app]
      have hok := kyAt_ok (m := mR) hz (o := 8 + 37 * k) (by rw [HL.out]; exact hat0)
      have HK : Hid (kyAt mR z (8 + 37 * k) = ⟨numAt z (8 + 37 * k), (z.drop (8 + 37 * k + 4)).take 32, mR (z[8 + 37 * k + 36]?.getD 0)⟩) := rfl
      have c36 := hcell (8 + 37 * k + 36) (by omega)
      have HCL : Hid (∀ i, i < n → wr.cell? ⟨b, off + i, none⟩ = some (.int .u8 (z[i]?.getD 0))) := hcell
      have hnum : ∀ W, Below wr.heap.size wr W → Calls Try.prog 27 #[.slice (some ⟨b, off + (8 + 37 * k), none⟩) 4 (c - (8 + 37 * k))] W fun e w' => e = .returned (.int .i64 (numAt z (8 + 37 * k))) ∧ W = w' := fun W Q => by
        have h := refNumber_any _ 4 _ _ W (row_take (row_drop (hrw.below Q (Nat.le_refl _)) (8 + 37 * k) (by omega)) 4 (by omega)) (isB_take (isB_drop hz _) _) (by decide)
        rw [numTakeK] at h
        exact h
      have HN : Hid _ := hnum
      have HIX : Hid (∀ j, (z.drop (8 + 37 * k + 4))[j]?.getD 0 = z[8 + 37 * k + 4 + j]?.getD 0) := fun j => by rw [List.getElem?_drop]
      have HDL : Hid (32 ≤ (z.drop (8 + 37 * k + 4)).length) := by show _ ≤ _; rw [List.length_drop, HL.out]; omega
      have hbz := isB_drop hz (8 + 37 * k + 4)
      clear hcell hnum
      have HAT : Hid (8 + 37 * (k + 1) = 8 + 37 * k + 37) := by show _ = _; omega
      generalize kyAt mR z (8 + 37 * k) = s at *
      generalize 8 + 37 * k = at0 at *
      generalize z.drop (at0 + 4) = D at *
      have hk1 : k + 1 ≤ kk := hlt
      have hlt' : (at0 : Int) < (n : Int) := by omega
      generalize numAt z at0 = x at *
      generalize z[at0 + 36]?.getD 0 = y at *
      go_wp2_with fail
      have V0 := (Vars.start wr).drew
      have HR9 : Hid (∀ W, Below wr.heap.size wr W → ∀ j, j < 32 → W.cell? ⟨b, off + (at0 + 4 + j), none⟩ = some (.int .u8 (D[j]?.getD 0))) := fun W Q j hj => by
        rw [Q.cell (show b < wr.heap.size from hbs), HCL.out (at0 + 4 + j) (by omega), HIX.out]
      clear HCL HIX
      have u4 : IntKind.i64.wrap ((at0 : Int) + 4) = (at0 : Int) + 4 := by rw [IntKind.wrap_i64]; omega
      have u36 : IntKind.i64.wrap ((at0 : Int) + 36) = (at0 : Int) + 36 := by rw [IntKind.wrap_i64]; omega
      have t4 : ((at0 : Int) + 4).toNat = at0 + 4 := by omega
      have t36 : ((at0 : Int) + 36).toNat = at0 + 36 := by omega
      refine av_open (fun _ => True) (by kernel_rfl) ?_
      refine fl_begin (fuel := 14) (m := 1) (stop := marked [0, 1, 2, 3, 4, 5, 6, 7, 8, 9, 10, 11, 12, 13] (Array.replicate 15 false)) (fun _ _ => trivial) V0 ?_
      refine fl_float (fuel := 13) (i := 13) 6 39 (kA ky0) (by kernel_rfl) (by kernel_rfl) (fun c d v a w h => by cases d <;> exact h) zeroKy (by kernel_rfl) ?_
      refine fl_reads (rs := [0, 1, 2, 3, 4, 6, 7, 8, 9, 10, 11]) (fuel := 2) (by kernel_rfl) (fun c d v a w h => by cases d <;> exact h) (by kernel_rfl) (fun K hK => ?_)
      refine calm_move _ rfl (by rfl) rfl ?_
      go_simp
      refine calm_move _ rfl (by rfl) rfl ?_
      go_simp
      refine calm_move _ rfl (by rfl) rfl ?_
      go_simp
      refine calm_do (.int .i64 ((at0 : Int) + 4)) rfl (by rfl) (fun w' hw' => ?_) ?_
      · go_simp
      go_simp
      refine calm_do (.slice (some ⟨b, off + at0, none⟩) 4 (c - at0)) rfl (by rfl) (fun w' hw' => ?_) ?_
      · go_simp
        rw [if_pos (by omega), if_neg (by omega)]
      go_simp
      refine calm_move _ rfl (by rfl) rfl ?_
      go_simp
      refine calm_move _ rfl (by rfl) rfl ?_
      go_simp
      refine calm_do (.int .i64 ((at0 : Int) + 36)) rfl (by rfl) (fun w' hw' => ?_) ?_
      · go_simp
      go_simp
      refine calm_do (.pointer (some ⟨b, off + (at0 + 36), none⟩)) rfl (by rfl) (fun w' hw' => ?_) ?_
      · go_simp
        intro h
        have := h (by omega)
        omega
      go_simp
      refine calm_do (.int .u8 y) rfl (by rfl) (fun w' hw' => ?_) ?_
      · have d36 : w'.cell? ⟨b, off + (at0 + 36), none⟩ = some (.int .u8 y) := by rw [hw'.cell (show b < wr.heap.size from hbs)]; exact c36
        go_simp
      go_simp
      refine calm_do (.bool (mR y)) rfl (by rfl) (fun w' hw' => ?_) ?_
      · go_simp
        by_cases h : y = 1 <;> simp [mR, h]
      go_simp
      refine calm_nil (hK.out _ ?_)
      clear hK K
      refine fl_op (i := 5) (fuel := 1) (by kernel_rfl) (by kernel_rfl) rfl (by rfl) (fun w3 q3 V3 K hK => ?_)
      go_simp
      refine (HN.out w3 ((Since.drew wr).trans q3)).mono ?_
      rintro e w4 ⟨rfl, rfl⟩
      refine hK [] _ _ (Since.refl _) (Fresh.nil _ _) ?_
      clear hK K V3
      refine fl_reads (rs := [12]) (fuel := 0) (by kernel_rfl) (fun c d v a w h => by cases d <;> exact h) (by kernel_rfl) (fun K hK => ?_)
      go_simp
      refine calm_do (.agg (kA ⟨x, zero32, mR y⟩)) rfl (by rfl) (fun w' hw' => ?_) ?_
      · refine exec_buildV 39 _ rfl (kA ⟨x, zero32, mR y⟩) ?_
        exact built_kyR x (mR y)
      go_simp
      refine calm_nil (hK.out _ ?_)
      clear hK K
      refine fl_end1 (by kernel_rfl) (fun w6 g6 q6 V6 => ?_)
      generalize mR y = r at *
      have hk0 : (⟨x, zero32, r⟩ : Ky).Ok := ⟨ky0_ok.len, ky0_ok.byt⟩
      refine av_op (i := 14) (fuel := 0) (by kernel_rfl) rfl (by rfl) (fun K hK => ?_)
      refine wp_storeV V6 0 rfl _ _ rfl rfl (kA ⟨x, zero32, r⟩) rfl rfl Try.szKy (kA_size ky0_ok) (kA_size hk0) (kA_one _) (fun w7 V7 => ?_)
      refine hK _ _ trivial ?_
      clear hK K V6 q6 q3 V0 HN hk0 u4 u36 t4 t36
      refine wpAnyH_done (by kernel_rfl) ?_ _
      go_wp2_with fail
      have HV9 : Hid (Vars wr w7 [⟨g6, 39, kA ⟨x, digTo D 0, r⟩⟩]) := by
        show Vars _ _ _
        rw [digTo_zero]
        exact V7
      clear V7 c36
      obtain ⟨wo, hwo⟩ : ∃ q, q = wr := ⟨_, rfl⟩
      subst hwo
      go_loopw [7] (fun y' ws => ∃ j : Nat, j ≤ 32 ∧ y' = .int .i64 (j : Int) ∧ Hid (Vars wo ws [⟨g6, 39, kA ⟨x, digTo D j, r⟩⟩])) (fun y' _ => 32 - (RowKit.intOf y').toNat)
      case atStart => exact ⟨0, Nat.zero_le _, rfl, HV9⟩
      case round =>
        clear HV9
        obtain ⟨j, hj, rfl, HV⟩ := hrel
        by_cases hj32 : j < 32
        · have hjI : (j : Int) < 32 := by omega
          have cx := HR9.out wr HV.out.bel j hj32
          have hsz34 := digTo_len HDL.out hj
          have cs : (wr.cell? ⟨g6, 1 + j, none⟩).isSome = true := by
            rw [man_c (HV.out.at 0 rfl) (1 + j), kA, List.getElem?_toArray, kC_dig ⟨hsz34, by
              intro u hu
              rcases List.mem_append.1 hu with h1 | h1
              · exact hbz u (List.mem_of_mem_take h1)
              · rw [(List.mem_replicate.1 h1).2]; decide⟩ j hj32]
            rfl
          obtain ⟨vc, hvc⟩ := Option.isSome_iff_exists.1 cs
          have fs := arr_unfrozen (HV.out.at 0 rfl) (1 + j)
          have HV2 := HV.out.put 0 rfl (1 + j) (.int .u8 (D[j]?.getD 0))
          rw [kA_set _ _ _ _ (by rw [hsz34]; exact hj32), digTo_set HDL.out hj32] at HV2
          have HV3 : Hid (Vars wo (wr.setCell ⟨g6, 1 + j, none⟩ (.int .u8 (D[j]?.getD 0))) [⟨g6, 39, kA ⟨x, digTo D (j + 1), r⟩⟩]) := HV2
          clear cs HV2 HV
          generalize D[j]?.getD 0 = xb at *
          go_wp2_with fail
          go_roundw
          case rel => exact ⟨j + 1, by omega, by go_num, HV3⟩
          case measure => simp [RowKit.intOf]; omega
        · have e32 : j = 32 := by omega
          have HV4 := HV.out
          rw [e32, digTo_all HDL.out, ← HK.out] at HV4
          have hj33 : ¬ (j : Int) < 32 := by omega
          clear hj hj32 e32 HV
          have own1 := (own_below own HV4.bel).alloc (.cells (kA s) 39)
          have rn := kRow_one wr hok 39
          have hms := fun w => made_ky hok w
          have q2 := btrans (btrans q HV4.bel) (below_one wr (.cells (kA s) 39))
          have hs1 := q2.size
          have hg6 := range_all (HV4.at 0 rfl)
          clear HV4 own
          go_upto_region 12 with fail
          iterate 4 go_step
          refine wpList_load_mid rfl 39 _ rfl g6 0 rfl (kC s) _ hg6 Try.underlying39 rfl (by rw [kC_len hok]; exact Try.szKy) ?_
          refine wpList_madeK 58 22 1 _ rfl rfl rfl 39 (kA s) hms ?_
          refine wpList_append_krow _ rfl _ _ 22 rfl w.heap.size 39 i0 (.agg (kA ky0)) Try.underlying22 hi0 hz0 hz1 hz2 (kA_size ky0_ok) _ k _ rfl own1 (some ⟨wr.heap.size, 0, none⟩) 1 1 [s] rfl rn (fun x hx => by rw [List.mem_singleton.1 hx]; exact hok) (by omega) hs1 ?_
          intro v2 w2 own2 qo
          rw [← HS.out] at own2
          have q3 := q2.trans qo
          clear own1 rn qo q2 hg6
          go_wp2_with fail
          go_roundw
          case rel => exact ⟨k + 1, hk1, by rw [HAT.out]; go_num, own2, q3⟩
          case measure => simp [RowKit.intOf]; omega
    · obtain rfl : k = kk := by omega
      rw [← HC.out] at own
      replace own : wr.ownsRow w.heap.size 39 34 _ (kCnt z) (kCs (decK mR z)) := own
      obtain ⟨a2, c2, rfl, kr⟩ := kRow_owns (kysTo_len mR z (kCnt z)) (decK_ok hz) own
      have HKO : Hid (wr.ownsRow w.heap.size 39 34 (.slice a2 (kCnt z) c2) (decK mR z).length (kCs (decK mR z))) := by
        show World.ownsRow _ _ _ _ _ _ _
        rw [show (decK mR z).length = kCnt z from kysTo_len mR z (kCnt z)]
        exact own
      have hko := decK_ok (m := mR) hz
      have hlt' : ¬ ((8 + 37 * k : Nat) : Int) < (n : Int) := by have := HKK.out; omega
      replace kr : KRow wr a2 (kCnt z) c2 (decK mR z) := kr
      have HY : Hid (isK mR z = (mayK (decK mR z) && decide (rBytes (decK mR z) = z))) := rfl
      have hat1 : 8 + 37 * k ≤ n + 8 := by have := HKK.out; omega
      clear own hlt hk HC HL h304 HKK
      generalize hld : decK mR z = l at *
      have HLD : Hid (decK mR z = l) := hld
      clear hld
      generalize 8 + 37 * k = at0 at *
      generalize kCnt z = kc at *
      have krd : KRow wr.drew a2 kc c2 l := kr.below (Since.drew wr) (Nat.le_refl _)
      have rzd : Row .u8 wr.drew a n c z := hr.below q.drew (Nat.le_refl _)
      have hmay := refMay21_any krd
      have HQD : Hid (Below w.heap.size w wr.drew) := q.drew
      go_wp2_with fail
      refine av_open (fun w' => Since wr.drew w') (by kernel_rfl) ?_
      refine held_reads (rs := [0]) (fuel := 10) (by kernel_rfl) (fun c d v a w h => by cases d <;> exact h) (by kernel_rfl) (Since.refl _) (fun K hK => ?_)
      refine calm_move _ rfl (by rfl) rfl ?_
      go_simp
      refine calm_nil (hK.out _ ?_)
      clear hK K
      refine av_op (i := 1) (fuel := 9) (by kernel_rfl) rfl (by rfl) (fun K hK => ?_)
      go_simp
      refine hmay.mono ?_
      rintro e w3 ⟨rfl, rfl⟩
      refine hK _ _ (Since.refl _) ?_
      clear hK K hmay
      cases hm : mayK l
      · have HF : Hid (isK mR z = false) := by show _ = _; rw [HY.out, hm, Bool.false_and]
        refine held_reads (rs := [2, 3]) (fuel := 7) (by kernel_rfl) (fun c d v a w h => by cases d <;> exact h) (by kernel_rfl) (Since.refl _) (fun K hK => ?_)
        go_simp
        refine calm_do (.bool true) rfl (by rfl) (fun w' hw' => ?_) ?_
        · go_simp
        go_simp
        refine calm_move _ rfl (by rfl) rfl ?_
        go_simp
        refine calm_nil (hK.out _ ?_)
        clear hK K
        refine held_reads (rs := [4, 5, 6, 7, 8, 9, 10]) (fuel := 0) (by kernel_rfl) (fun c d v a w h => by cases d <;> exact h) (by kernel_rfl) (Since.refl _) (fun K hK => ?_)
        iterate 6 (refine calm_skip rfl (by rfl) ?_; go_simp)
        refine calm_do (.bool true) rfl (by rfl) (fun w' hw' => ?_) ?_
        · go_simp
        go_simp
        refine calm_nil (hK.out _ ?_)
        clear hK K HY hm HKO kr krd q
        refine wpAnyH_done (by kernel_rfl) ?_ _
        go_wp2_with fail
        go_ret2
        exact ⟨HQD.out, .inr ⟨HF.out, rfl⟩⟩
      · have hby := refBytes21_any krd hko hm
        have HF : Hid (isK mR z = decide (rBytes l = z)) := by show _ = _; rw [HY.out, hm, Bool.true_and]
        refine held_reads (rs := [2, 3, 4, 7, 8]) (fuel := 4) (by kernel_rfl) (fun c d v a w h => by cases d <;> exact h) (by kernel_rfl) (Since.refl _) (fun K hK => ?_)
        go_simp
        refine calm_do (.bool false) rfl (by rfl) (fun w' hw' => ?_) ?_
        · go_simp
        go_simp
        refine calm_move _ rfl (by rfl) rfl ?_
        go_simp
        refine calm_move _ rfl (by rfl) rfl ?_
        go_simp
        refine calm_move _ rfl (by rfl) rfl ?_
        go_simp
        refine calm_do (.string (strOfNums z)) rfl (by rfl) (fun w' hw' => ?_) ?_
        · have kc1 := conv_row (P := Try.prog) Try.underlying24 Try.underlying5 Try.underlying9 (rzd.below hw' (Nat.le_refl _))
          go_simp
        go_simp
        refine calm_nil (hK.out _ ?_)
        clear hK K
        refine held_call (i := 5) (fuel := 3) (by kernel_rfl) rfl (by rfl) (fun K hK => ?_)
        go_simp
        refine hby.mono ?_
        rintro e w4 ⟨u, rfl, own4, q4⟩
        obtain ⟨a4, c4, rfl, r4⟩ := row_of_owns own4
        refine hK _ _ q4 ?_
        clear hK K hby
        have HE : Hid (((strOfNums (rBytes l)).toList == (strOfNums z).toList) = decide (rBytes l = z)) := str_beqK (isB_ring hko) hz
        have HKO4 : Hid (w4.ownsRow w.heap.size 39 34 (.slice a2 kc c2) l.length (kCs l)) := own_below HKO.out ((Since.drew wr).trans q4)
        have HQ4 : Hid (Below w.heap.size w w4) := btrans HQD.out q4
        obtain ⟨r, hr0⟩ : ∃ r, r = decide (rBytes l = z) := ⟨_, rfl⟩
        have HR : Hid (decide (rBytes l = z) = r) := hr0.symm
        clear hr0
        refine held_reads (rs := [6, 9, 10]) (fuel := 0) (by kernel_rfl) (fun c d v a w h => by cases d <;> exact h) (by kernel_rfl) (Since.refl _) (fun K hK => ?_)
        go_simp
        refine calm_do (.string (strOfNums (rBytes l))) rfl (by rfl) (fun w' hw' => ?_) ?_
        · have kc1 := conv_row (P := Try.prog) Try.underlying24 Try.underlying5 Try.underlying9 (r4.below hw' (Nat.le_refl _))
          go_simp
        go_simp
        refine calm_do (.bool !r) rfl (by rfl) (fun w' hw' => ?_) ?_
        · go_simp
          simp [HE.out, HR.out]
        go_simp
        refine calm_do (.bool !r) rfl (by rfl) (fun w' hw' => ?_) ?_
        · go_simp
        go_simp
        refine calm_nil (hK.out _ ?_)
        clear hK K
        refine wpAnyH_done (by kernel_rfl) ?_ _
        clear HY hm HKO kr krd q own4 r4 q4
        cases r
        · have HF2 : Hid (isK mR z = false) := by show _ = _; rw [HF.out, HR.out]
          go_wp2_with fail
          go_ret2
          exact ⟨HQ4.out, .inr ⟨HF2.out, rfl⟩⟩
        · have HF2 : Hid (isK mR z = true) := by show _ = _; rw [HF.out, HR.out]
          go_wp2_with fail
          go_ret2
          exact ⟨HQ4.out, .inl ⟨HF2.out, _, rfl, by rw [HLD.out]; exact HKO4.out⟩⟩
end Go.Proofs.Ytjcfooiibgidhaa.N
