/-
  Layer 20's laws: the walk of ManifestBack.
-/
import Derived.Test.YtennmhenlhaliaaManFace
namespace Go.Proofs.Ytennmhenlhaliaa.N
open Go.RowKit
set_option linter.unusedVariables false
set_option maxRecDepth 8192

theorem back_yes {w : World} {v s k e : Int} {l : List Sg} (ho : ∀ s ∈ l, s.Ok) (hm : mayM ⟨v, s, k, e, l⟩ = true) {n : Nat} (hl : l.length = n) {a : Option Addr} {c : Nat} {z : List Int} (hz : z = mfBytes ⟨v, s, k, e, l⟩) {len : Nat} (hr : Row .u8 w a len c z) :
    Calls Try.prog 12 #[.slice a len c] w fun e' w' => ∃ sa sc, e' = .returned (.tuple #[.agg #[.int .i64 v, .int .i64 s, .int .i64 k, .int .i64 e, .slice sa n sc], .int .i64 0]) ∧ SegRow w' sa n sc l ∧ Below w.heap.size w w' := by
  subst hz hl
  have h := dec_bytes (m := ⟨v, s, k, e, l⟩) ho hm
  exact parse_yes hr (isB_mf (m := ⟨v, s, k, e, l⟩) ho) h.2 ⟨v, s, k, e, l⟩ h.1
/-- The second half: bytes that are read, laid down. -/
theorem may_dec {z : List Int} (h : isMf z = true) : mayM (dec z) = true := (isMf_yes h).2.2
set_option maxHeartbeats 1600000 in
theorem back_long {v s k e : Int} {a ab : Option Addr} {n cap len cb : Nat} {w : World} (hn : n ≤ 9223372036854775807) (hh : 100 < n ∨ 1000 < len) : Calls Try.prog 5 #[.agg #[.int .i64 v, .int .i64 s, .int .i64 k, .int .i64 e, .slice a n cap], .slice ab len cb] w fun e' w' => e' = .returned (.bool true) ∧ Below w.heap.size w w' := by
  by_cases h1 : 100 < n
  · have h1' : (100 : Int) < (n : Int) := by omega
    go_enter Try.func5, Try.ntmps5
    go_wp2_with fail
    go_ret
    exact ⟨rfl, below_one _ _⟩
  · have h1' : ¬ (100 : Int) < (n : Int) := by omega
    have h2' : (1000 : Int) < (len : Int) := by omega
    go_enter Try.func5, Try.ntmps5
    go_wp2_with fail
    go_ret
    exact ⟨rfl, below_one _ _⟩
set_option maxHeartbeats 3200000 in
theorem back_core {v s k e : Int} {a ab : Option Addr} {n cap len cb : Nat} {l : List Sg} {z : List Int} {w : World} (hr : SegRow w a n cap l) (ho : ∀ s ∈ l, s.Ok) (rz : Row .u8 w ab len cb z) (hz : IsB z) (hn : n ≤ 100) (hlen : len ≤ 1000) :
    Calls Try.prog 5 #[.agg #[.int .i64 v, .int .i64 s, .int .i64 k, .int .i64 e, .slice a n cap], .slice ab len cb] w fun e' w' => e' = .returned (.bool true) ∧ Below w.heap.size w w' := by
  have V1 := (Vars.start w).new 24 #[.int .i64 v, .int .i64 s, .int .i64 k, .int .i64 e, .slice a n cap]
  have hg := V1.at 0 rfl
  have q1 := V1.bel
  clear V1
  have h1' : ¬ (100 : Int) < (n : Int) := by omega
  have h2' : ¬ (1000 : Int) < (len : Int) := by omega
  have HSEC : Hid (∀ W, Below w.heap.size w W → Calls Try.prog 12 #[.slice ab len cb] W fun e w' => Below W.heap.size W w' ∧
      ((isMf z = true ∧ ∃ sa sc, e = .returned (.tuple #[.agg #[.int .i64 (numAt z 4), .int .i64 (numAt z 8), .int .i64 (numAt z 12), .int .i64 (numAt z 16), .slice sa ((cnt z)) sc], .int .i64 0]) ∧ SegRow w' sa (cnt z) sc (sgsTo z (cnt z))) ∨
        (isMf z = false ∧ e = .returned (.tuple #[.agg #[.int .i64 0, .int .i64 0, .int .i64 0, .int .i64 0, .slice none 0 0], .int .i64 4])))) := fun W q => parse_any (rz.below q (Nat.le_refl _)) hz
  have HBY : Hid (isMf z = true → ∀ W sa sc, SegRow W sa (cnt z) sc (sgsTo z (cnt z)) → Calls Try.prog 8 #[.agg #[.int .i64 (numAt z 4), .int .i64 (numAt z 8), .int .i64 (numAt z 12), .int .i64 (numAt z 16), .slice sa ((cnt z)) sc]] W fun e' w' => ∃ u, e' = .returned (.tuple #[u, .int .i64 0]) ∧ w'.ownsRow W.heap.size 5 1 u (24 + 40 * cnt z) (z.map (Value.int .u8)) ∧ Below W.heap.size W w') := fun h W sa sc row => by
    have hy := mBytes_yes row (dec_ok hz (isMf_yes h).2.1) (may_dec h)
    have e : mfBytes ⟨numAt z 4, numAt z 8, numAt z 12, numAt z 16, sgsTo z (cnt z)⟩ = z := isMf_back hz h
    rw [e] at hy
    exact hy
  have HRZ : Hid (∀ W, Below w.heap.size w W → Row .u8 W ab len cb z) := fun W q => rz.below q (Nat.le_refl _)
  go_enter Try.func5, Try.ntmps5
  go_wp2_with fail
  generalize w.alloc (.cells #[.int .i64 v, .int .i64 s, .int .i64 k, .int .i64 e, .slice a n cap] 24) = w1 at *
  have hr1 := hr.below q1 (Nat.le_refl _)
  clear rz
  cases hm : mayM ⟨v, s, k, e, l⟩
  · refine (mBytes_no hr1 ho hm).mono ?_
    rintro e' w2 ⟨rfl, q2⟩
    have Q2 := btrans q1 q2
    clear hr1 q1 q2 hg hr
    go_wp2_with fail
    refine (HSEC.out w2 Q2).mono ?_
    rintro e' w7 ⟨q7, hcase⟩
    have Q7 := btrans Q2 q7
    clear Q2 q7
    rcases hcase with ⟨ht, sb, sd, rfl, row7⟩ | ⟨hf, rfl⟩
    · have V7 := Vars.start w7
      have hby := HBY.out ht
      go_wp2_with (first
        | (refine wpList_allocV V7 9 24 rfl rfl rfl #[.int .i64 0, .int .i64 0, .int .i64 0, .int .i64 0, .slice none 0 0] zeroMf ?_; intro w8 g8 V8)
        | (refine wpList_storeV V8 0 rfl _ (.tmp 45) rfl rfl rfl #[.int .i64 (numAt z 4), .int .i64 (numAt z 8), .int .i64 (numAt z 12), .int .i64 (numAt z 16), .slice sb ((cnt z)) sd] rfl rfl Try.szMf rfl rfl (mf_oneS _ _ _ _ _ _ _) ?_; intro w9 V9; have c0 := man_c (V9.at 0 rfl) 0; have c1 := man_c (V9.at 0 rfl) 1; have c2 := man_c (V9.at 0 rfl) 2; have c3 := man_c (V9.at 0 rfl) 3; have c4 := man_c (V9.at 0 rfl) 4))
      refine (hby w9 sb sd (row7.below V9.bel (Nat.le_refl _))).mono ?_
      rintro e' w10 ⟨ud, rfl, own10, q10⟩
      obtain ⟨ad, cd, rfl, rd⟩ := row_of_owns own10
      have Q10 := btrans (btrans Q7 V9.bel) q10
      clear own10 q10 c0 c1 c2 c3 c4 V7 V8 V9 Q7 hby row7
      go_wp2_with fail
      refine (awake20_any _).mono ?_
      rintro e' w11 ⟨rfl, q11⟩
      have HQ : Hid (Below w.heap.size w w11) := btrans Q10 q11
      have kc1 := conv_row (P := Try.prog) Try.underlying25 Try.underlying5 Try.underlying9 (rd.below q11 (Nat.le_refl _))
      have kc2 := conv_row (P := Try.prog) Try.underlying25 Try.underlying5 Try.underlying9 (HRZ.out w11 HQ.out)
      clear Q10 q11 rd
      go_wp2_with fail
      go_ret
      exact ⟨rfl, HQ.out⟩
    · have V7 := Vars.start w7
      go_wp2_with (first
        | (refine wpList_allocV V7 9 24 rfl rfl rfl #[.int .i64 0, .int .i64 0, .int .i64 0, .int .i64 0, .slice none 0 0] zeroMf ?_; intro w8 g8 V8)
        | (refine wpList_storeV V8 0 rfl _ (.tmp 45) rfl rfl rfl #[.int .i64 0, .int .i64 0, .int .i64 0, .int .i64 0, .slice none 0 0] rfl rfl Try.szMf rfl rfl (mf_one 0 0 0 0) ?_; intro w9 V9))
      refine (awake20_any _).mono ?_
      rintro e' w11 ⟨rfl, q11⟩
      have HQ : Hid (Below w.heap.size w w11) := btrans (btrans Q7 V9.bel) q11
      clear Q7 q11 V7 V8 V9
      go_wp2_with fail
      go_ret
      exact ⟨rfl, HQ.out⟩
  refine (mBytes_yes hr1 ho hm).mono ?_
  rintro e' w2 ⟨u, rfl, own, q2⟩
  obtain ⟨ac, cc, rfl, rc⟩ := row_of_owns own
  have hg2 : w2.heap[w.heap.size]? = some (.cells #[.int .i64 v, .int .i64 s, .int .i64 k, .int .i64 e, .slice a n cap] 24 (0, 0)) := by rw [q2.block _ (lt_of_heap hg)]; exact hg
  have hr2 := hr1.below q2 (Nat.le_refl _)
  have Q2 := btrans q1 q2
  clear own q1 q2 hg hr1
  go_wp2_with fail
  refine (back_yes ho hm hr.hlen rfl rc).mono ?_
  rintro e' w3 ⟨sa, sc, rfl, row3, q3⟩
  have hg3 : w3.heap[w.heap.size]? = some (.cells #[.int .i64 v, .int .i64 s, .int .i64 k, .int .i64 e, .slice a n cap] 24 (0, 0)) := by rw [q3.block _ (lt_of_heap hg2)]; exact hg2
  have hr3 := hr2.below q3 (Nat.le_refl _)
  have Q3 := btrans Q2 q3
  clear hg2 hr2 Q2 q3 rc
  have V3 := Vars.start w3
  go_wp2_with (first
    | (refine wpList_allocV V3 7 24 rfl rfl rfl #[.int .i64 0, .int .i64 0, .int .i64 0, .int .i64 0, .slice none 0 0] zeroMf ?_; intro w4 g4 V4)
    | (refine wpList_storeV V4 0 rfl _ (.tmp 32) rfl rfl rfl #[.int .i64 v, .int .i64 s, .int .i64 k, .int .i64 e, .slice sa n sc] rfl rfl Try.szMf rfl rfl (mf_oneS v s k e sa n sc) ?_; intro w5 V5; have c0 := man_c (V5.at 0 rfl) 0; have c1 := man_c (V5.at 0 rfl) 1; have c2 := man_c (V5.at 0 rfl) 2; have c3 := man_c (V5.at 0 rfl) 3; have c4 := man_c (V5.at 0 rfl) 4; have hg5 : w5.heap[w.heap.size]? = some (.cells #[.int .i64 v, .int .i64 s, .int .i64 k, .int .i64 e, .slice a n cap] 24 (0, 0)) := (by rw [V5.bel.block _ (lt_of_heap hg3)]; exact hg3); have d0 := man_c hg5 0; have d1 := man_c hg5 1; have d2 := man_c hg5 2; have d3 := man_c hg5 3; have d4 := man_c hg5 4))
  refine (same_any (row3.below V5.bel (Nat.le_refl _)) (hr3.below V5.bel (Nat.le_refl _)) ho).mono ?_
  rintro e' w6 ⟨rfl, q6⟩
  have Q2 := btrans (btrans Q3 V5.bel) q6
  clear c0 c1 c2 c3 c4 d0 d1 d2 d3 d4 hg5 V3 V4 V5 Q3 q6 hg3 hr3 row3 hr
  go_wp2_with fail
  refine (HSEC.out w6 Q2).mono ?_
  rintro e' w7 ⟨q7, hcase⟩
  have Q7 := btrans Q2 q7
  clear Q2 q7
  rcases hcase with ⟨ht, sb, sd, rfl, row7⟩ | ⟨hf, rfl⟩
  · have V7 := Vars.start w7
    have hby := HBY.out ht
    go_wp2_with (first
      | (refine wpList_allocV V7 9 24 rfl rfl rfl #[.int .i64 0, .int .i64 0, .int .i64 0, .int .i64 0, .slice none 0 0] zeroMf ?_; intro w8 g8 V8)
      | (refine wpList_storeV V8 0 rfl _ (.tmp 45) rfl rfl rfl #[.int .i64 (numAt z 4), .int .i64 (numAt z 8), .int .i64 (numAt z 12), .int .i64 (numAt z 16), .slice sb ((cnt z)) sd] rfl rfl Try.szMf rfl rfl (mf_oneS _ _ _ _ _ _ _) ?_; intro w9 V9; have c0 := man_c (V9.at 0 rfl) 0; have c1 := man_c (V9.at 0 rfl) 1; have c2 := man_c (V9.at 0 rfl) 2; have c3 := man_c (V9.at 0 rfl) 3; have c4 := man_c (V9.at 0 rfl) 4))
    refine (hby w9 sb sd (row7.below V9.bel (Nat.le_refl _))).mono ?_
    rintro e' w10 ⟨ud, rfl, own10, q10⟩
    obtain ⟨ad, cd, rfl, rd⟩ := row_of_owns own10
    have Q10 := btrans (btrans Q7 V9.bel) q10
    clear own10 q10 c0 c1 c2 c3 c4 V7 V8 V9 Q7 hby row7
    go_wp2_with fail
    refine (awake20_any _).mono ?_
    rintro e' w11 ⟨rfl, q11⟩
    have HQ : Hid (Below w.heap.size w w11) := btrans Q10 q11
    have kc1 := conv_row (P := Try.prog) Try.underlying25 Try.underlying5 Try.underlying9 (rd.below q11 (Nat.le_refl _))
    have kc2 := conv_row (P := Try.prog) Try.underlying25 Try.underlying5 Try.underlying9 (HRZ.out w11 HQ.out)
    clear Q10 q11 rd
    go_wp2_with fail
    go_ret
    exact ⟨rfl, HQ.out⟩
  · have V7 := Vars.start w7
    go_wp2_with (first
      | (refine wpList_allocV V7 9 24 rfl rfl rfl #[.int .i64 0, .int .i64 0, .int .i64 0, .int .i64 0, .slice none 0 0] zeroMf ?_; intro w8 g8 V8)
      | (refine wpList_storeV V8 0 rfl _ (.tmp 45) rfl rfl rfl #[.int .i64 0, .int .i64 0, .int .i64 0, .int .i64 0, .slice none 0 0] rfl rfl Try.szMf rfl rfl (mf_one 0 0 0 0) ?_; intro w9 V9))
    refine (awake20_any _).mono ?_
    rintro e' w11 ⟨rfl, q11⟩
    have HQ : Hid (Below w.heap.size w w11) := btrans (btrans Q7 V9.bel) q11
    clear Q7 q11 V7 V8 V9
    go_wp2_with fail
    go_ret
    exact ⟨rfl, HQ.out⟩
theorem walk_manifestBack {v s k e : Int} {a ab : Option Addr} {n cap len cb : Nat} {l : List Sg} {z : List Int} {w : World} (hr : SegRow w a n cap l) (ho : ∀ s ∈ l, s.Ok) (rz : Row .u8 w ab len cb z) (hz : IsB z) :
    Calls Try.prog 5 #[.agg #[.int .i64 v, .int .i64 s, .int .i64 k, .int .i64 e, .slice a n cap], .slice ab len cb] w fun e' w' => e' = .returned (.bool true) ∧ Below w.heap.size w w' := by
  rcases Nat.lt_or_ge 100 n with h | h
  · exact back_long (by have := hr.hcap; have := hr.hmax; unfold maxLen at this; omega) (.inl h)
  · rcases Nat.lt_or_ge 1000 len with h2 | h2
    · exact back_long (by omega) (.inr h2)
    · exact back_core hr ho rz hz h h2
end Go.Proofs.Ytennmhenlhaliaa.N
