/-
  The document's answer of layer 20 (casemateref20): in, May.
-/
import Derived.Test.YtennmhenlhaliaaManBase
namespace Go.Proofs.Ytennmhenlhaliaa.N
open Go.RowKit
set_option linter.unusedVariables false
set_option maxRecDepth 8192

theorem refIn_any (n : Int) (w : World) : Calls Try.prog 18 #[.int .i64 n] w fun e w' => e = .returned (.bool (in31 n)) ∧ w = w' := by
  by_cases h : 0 ≤ n
  · go_enter Try.func18, Try.ntmps18
    go_wp2
    go_ret
    exact ⟨ret_bool (by unfold in31 within; simp [h]), rfl⟩
  · go_enter Try.func18, Try.ntmps18
    go_wp2
    go_ret
    exact ⟨ret_bool (by unfold in31 within; symm; rw [decide_eq_false_iff_not]; omega), rfl⟩
set_option maxHeartbeats 3200000 in
theorem refMay_any {v s k e : Int} {a : Option Addr} {n cap : Nat} {l : List Sg} {w : World} (hr : SegRow w a n cap l) (ho : ∀ s ∈ l, s.Ok) : Calls Try.prog 9 #[.agg #[.int .i64 v, .int .i64 s, .int .i64 k, .int .i64 e, .slice a n cap]] w fun e' w' => e' = .returned (.bool (mayM ⟨v, s, k, e, l⟩)) ∧ Below w.heap.size w w' := by
  have hm := hr.hmax
  have hc := hr.hcap
  unfold maxLen at hm
  have HM : Hid (mayM ⟨v, s, k, e, l⟩ = ((in31 v && (in31 s && (in31 k && in31 e))) && (decide (n ≤ 8) && okTo l n))) := by
    show _ = _
    rw [← hr.hlen]
    rfl
  have V1 := (Vars.start w).new 24 #[.int .i64 v, .int .i64 s, .int .i64 k, .int .i64 e, .slice a n cap]
  have q0 := V1.bel
  have hg := V1.at 0 rfl
  clear V1
  go_enter Try.func9, Try.ntmps9
  go_wp2_with fail
  have hsz : (w.alloc (.cells #[.int .i64 v, .int .i64 s, .int .i64 k, .int .i64 e, .slice a n cap] 24)).heap.size = w.heap.size + 1 := by simp
  generalize w.alloc (.cells #[.int .i64 v, .int .i64 s, .int .i64 k, .int .i64 e, .slice a n cap] 24) = w1 at *
  have c1 : w1.cell? ⟨w.heap.size, 1, none⟩ = some (.int .i64 s) := man_c hg 1
  have c2 : w1.cell? ⟨w.heap.size, 2, none⟩ = some (.int .i64 k) := man_c hg 2
  have c3 : w1.cell? ⟨w.heap.size, 3, none⟩ = some (.int .i64 e) := man_c hg 3
  have c4 : w1.cell? ⟨w.heap.size, 4, none⟩ = some (.slice a n cap) := man_c hg 4
  have hi0 := refIn_any v w1
  cases h0 : in31 v
  · rw [h0] at hi0 HM
    have HF : Hid (mayM ⟨v, s, k, e, l⟩ = false) := by show _ = _; rw [HM.out]; simp
    clear HM
    refine hi0.mono ?_
    rintro e' w' ⟨rfl, rfl⟩
    go_wp2_with fail
    go_ret
    exact ⟨ret_bool HF.out.symm, q0⟩
  rw [h0] at hi0 HM
  rw [Bool.true_and] at HM
  refine hi0.mono ?_
  rintro e' w' ⟨rfl, rfl⟩
  clear hi0 h0
  go_wp2_with fail
  have hi1 := refIn_any s w1
  cases h1 : in31 s
  · rw [h1] at hi1 HM
    have HF : Hid (mayM ⟨v, s, k, e, l⟩ = false) := by show _ = _; rw [HM.out]; simp
    clear HM
    refine hi1.mono ?_
    rintro e' w' ⟨rfl, rfl⟩
    go_wp2_with fail
    go_ret
    exact ⟨ret_bool HF.out.symm, q0⟩
  rw [h1] at hi1 HM
  rw [Bool.true_and] at HM
  refine hi1.mono ?_
  rintro e' w' ⟨rfl, rfl⟩
  clear hi1 h1
  go_wp2_with fail
  have hi2 := refIn_any k w1
  cases h2 : in31 k
  · rw [h2] at hi2 HM
    have HF : Hid (mayM ⟨v, s, k, e, l⟩ = false) := by show _ = _; rw [HM.out]; simp
    clear HM
    refine hi2.mono ?_
    rintro e' w' ⟨rfl, rfl⟩
    go_wp2_with fail
    go_ret
    exact ⟨ret_bool HF.out.symm, q0⟩
  rw [h2] at hi2 HM
  rw [Bool.true_and] at HM
  refine hi2.mono ?_
  rintro e' w' ⟨rfl, rfl⟩
  clear hi2 h2
  go_wp2_with fail
  have hi3 := refIn_any e w1
  cases h3 : in31 e
  · rw [h3] at hi3 HM
    have HF : Hid (mayM ⟨v, s, k, e, l⟩ = false) := by show _ = _; rw [HM.out]; simp
    clear HM
    refine hi3.mono ?_
    rintro e' w' ⟨rfl, rfl⟩
    go_wp2_with fail
    go_ret
    exact ⟨ret_bool HF.out.symm, q0⟩
  rw [h3] at hi3 HM
  rw [Bool.true_and] at HM
  refine hi3.mono ?_
  rintro e' w' ⟨rfl, rfl⟩
  clear hi3 h3
  by_cases h8 : n ≤ 8
  case neg =>
    have HF : Hid (mayM ⟨v, s, k, e, l⟩ = false) := by show _ = _; rw [HM.out, decide_eq_false h8, Bool.false_and]
    have h8' : (8 : Int) < (n : Int) := by omega
    clear HM
    go_wp2_with fail
    go_ret
    exact ⟨ret_bool HF.out.symm, q0⟩
  have HM2 : Hid (mayM ⟨v, s, k, e, l⟩ = okTo l n) := by show _ = _; rw [HM.out, decide_eq_true h8, Bool.true_and]
  have h8' : ¬ (8 : Int) < (n : Int) := by omega
  clear HM
  go_wp2_with fail
  clear c1 c2 c3 c4
  go_loopw [3, 4] (fun en i wr => ∃ j : Nat, j ≤ n ∧ i = .int .i64 (j : Int) ∧ en = .int .i64 (endAt l j) ∧ Hid (okTo l j = true) ∧ Below w1.heap.size w1 wr) (fun _ i _ => n - (RowKit.intOf i).toNat)
  case atStart => exact ⟨0, Nat.zero_le _, rfl, rfl, okTo_zero l, Below.refl _ _⟩
  case round =>
    obtain ⟨j, hj, rfl, rfl, HO, q⟩ := hrel
    have hg' : wr.heap[w.heap.size]? = some (.cells #[.int .i64 v, .int .i64 s, .int .i64 k, .int .i64 e, .slice a n cap] 24 (0, 0)) := by rw [q.block _ (lt_of_heap hg)]; exact hg
    have c4 : wr.cell? ⟨w.heap.size, 4, none⟩ = some (.slice a n cap) := man_c hg' 4
    have hr' := (hr.below q0 (Nat.le_refl _)).below q (Nat.le_refl _)
    have he := endAt_bd HO.out
    have qw : Below w.heap.size w wr := btrans q0 q
    by_cases hlt : j < n
    · obtain ⟨b, off, rfl, hbs, hcell⟩ := hr'.hcell (by omega)
      have hx := hcell j hlt
      have hs := sgI_ok ho j
      have HS : Hid (okTo l (j + 1) = (within (sgI l j).size 0 1048576 && within (sgI l j).load (endAt l j) (2147483647 - (sgI l j).size))) := by
        show _ = _
        rw [okTo_succ, HO.out, Bool.true_and]
        rfl
      have HF : Hid (okTo l (j + 1) = false → mayM ⟨v, s, k, e, l⟩ = false) := fun h => by
        rw [okTo_succ, HO.out, Bool.true_and] at h
        rw [HM2.out]
        exact okTo_of_no h hlt
      have HE : Hid (endAt l (j + 1) = (sgI l j).load + (sgI l j).size) := rfl
      clear hcell hr' hg'
      generalize sgI l j = x at *
      generalize endAt l j = en at *
      have hlt' : (j : Int) < (n : Int) := by omega
      have V0 := Vars.start wr
      go_wp2_with (first
        | (refine wpList_load_mid rfl 45 _ rfl b (off + j * 34) rfl (sC x) _ hx Try.underlying45 rfl (by rw [sC_len hs]; exact Try.szSg) ?_)
        | (refine wpList_allocV V0 5 45 rfl rfl rfl (sA sg0) zeroSg ?_; intro w3 g3 V3)
        | (refine wpList_storeV V3 0 rfl _ (.tmp 45) rfl rfl rfl (sA x) rfl rfl Try.szSg (sA_size sg0_ok) (sA_size hs) (sA_one x) ?_; intro w4 V4; have d0 := sg_c0 (V4.at 0 rfl); have d1 := sg_c1 (V4.at 0 rfl)))
      have q2 := btrans q V4.bel
      have qw2 := btrans qw V4.bel
      clear V0 V3 V4 q qw c4 hx
      have hNO : ¬ (0 ≤ x.size ∧ x.size ≤ 1048576 ∧ en ≤ x.load ∧ x.load ≤ 2147483647 - x.size) → mayM ⟨v, s, k, e, l⟩ = false := fun h => HF.out (by
        rw [HS.out]
        cases h1 : within x.size 0 1048576
        · rfl
        · cases h2 : within x.load en (2147483647 - x.size)
          · rfl
          · exfalso
            have k1 := within_yes h1
            have k2 := within_yes h2
            omega)
      have HNO : Hid _ := hNO
      clear hNO HF
      have hin := refIn_any x.load w4
      cases h1 : in31 x.load
      · rw [h1] at hin
        have HN : Hid (mayM ⟨v, s, k, e, l⟩ = false) := HNO.out (by have := within_no h1; omega)
        clear HNO h1 HS HE
        refine hin.mono ?_
        rintro e' w' ⟨rfl, rfl⟩
        go_wp2_with fail
        go_ret
        exact ⟨ret_bool HN.out.symm, qw2⟩
      rw [h1] at hin
      have hb1 := within_yes h1
      clear h1
      refine hin.mono ?_
      rintro e' w' ⟨rfl, rfl⟩
      clear hin
      by_cases b0 : x.size < 0
      · have HN : Hid (mayM ⟨v, s, k, e, l⟩ = false) := HNO.out (by omega)
        clear HNO HS HE
        go_wp2_with fail
        go_ret
        exact ⟨ret_bool HN.out.symm, qw2⟩
      by_cases b1 : 1048576 < x.size
      · have HN : Hid (mayM ⟨v, s, k, e, l⟩ = false) := HNO.out (by omega)
        clear HNO HS HE
        go_wp2_with fail
        go_ret
        exact ⟨ret_bool HN.out.symm, qw2⟩
      by_cases b2 : 2147483647 < x.load + x.size
      · have HN : Hid (mayM ⟨v, s, k, e, l⟩ = false) := HNO.out (by omega)
        clear HNO HS HE
        go_wp2_with fail
        go_ret
        exact ⟨ret_bool HN.out.symm, qw2⟩
      by_cases b3 : x.load < en
      · have HN : Hid (mayM ⟨v, s, k, e, l⟩ = false) := HNO.out (by omega)
        clear HNO HS HE
        go_wp2_with fail
        go_ret
        exact ⟨ret_bool HN.out.symm, qw2⟩
      have HN : Hid (okTo l (j + 1) = true) := by
        show _ = _
        rw [HS.out]
        unfold within
        rw [decide_eq_true (show 0 ≤ x.size ∧ x.size ≤ 1048576 by omega), decide_eq_true (show en ≤ x.load ∧ x.load ≤ 2147483647 - x.size by omega)]
        rfl
      clear HNO HS
      go_wp2_with fail
      go_roundw
      case rel => exact ⟨j + 1, by omega, by go_num, by rw [HE.out], HN, q2⟩
      case measure => simp [RowKit.intOf]; omega
    · obtain rfl : j = n := by omega
      clear hr' hg'
      go_wp2_with fail
      go_ret
      exact ⟨ret_bool (by rw [HM2.out, HO.out]), qw⟩
end Go.Proofs.Ytennmhenlhaliaa.N
