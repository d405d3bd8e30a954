/-
  Layer 21: what the laws lean on: own, awake.
-/
import Derived.Test.YtjcfooiibgidhaaKeyCode4
import Derived.Test.YtjcfooiibgidhaaKeyCode6
namespace Go.Proofs.Ytjcfooiibgidhaa.N
open Go.RowKit
set_option linter.unusedVariables false
set_option maxRecDepth 8192

theorem own21_any {w : World} {a : Option Addr} {n c : Nat} {l : List Ky} (hr : KRow w a n c l) (ok : ∀ s ∈ l, s.Ok) (hn : n ≤ 1000) :
    Calls Try.prog 8 #[.slice a n c] w fun e w' => ∃ v, e = .returned v ∧ w'.ownsRow w.heap.size 39 34 v n (kCs l) ∧ Below w.heap.size w w' := by
  obtain ⟨i0, hi0, hz0, hz1, hz2⟩ := ky_info
  have hown0 := World.ownsRow_nil w w.heap.size 39 34
  go_enter Try.func8, Try.ntmps8
  go_wp2_with (at_builtin; refine wpList_append_krow _ rfl _ _ 22 rfl w.heap.size 39 i0 (.agg (kA ky0)) Try.underlying22 hi0 hz0 hz1 hz2 (kA_size ky0_ok) _ 0 [] rfl hown0 a n c l rfl hr ok (by omega) (Nat.le_refl _) ?_; intro v1 wo own1 qo)
  rw [List.nil_append, Nat.zero_add] at own1
  go_wp2
  go_ret
  exact ⟨_, rfl, own1, qo⟩
/-- The document's example. -/
def d7 : List Int := 7 :: List.replicate 31 0
def k7 : Ky := ⟨3, d7, false⟩
theorem k7_ok : k7.Ok := ⟨rfl, by unfold IsB; decide⟩
theorem k7s_ok : ∀ s ∈ [k7], s.Ok := fun s hs => by rw [List.mem_singleton.1 hs]; exact k7_ok
theorem nil_ok : ∀ s ∈ ([] : List Ky), s.Ok := fun s hs => by cases hs
theorem built_d7 : Try.prog.built 28 [(0, .int .u8 7)] = some (dA d7) := by kernel_rfl
theorem built_k7 : Try.prog.built 39 [(0, .int .i64 3), (1, .agg (dA d7))] = some (kA k7) := by kernel_rfl
set_option maxHeartbeats 1600000 in
theorem awake21_any (w : World) : Calls Try.prog 14 #[] w fun e w' => e = .returned (.bool true) ∧ Below w.heap.size w w' := by
  have HB : Hid (rBytes [] = [114, 105, 110, 103, 0, 0, 0, 0]) := rfl
  have F3 : Hid (fndD [k7] 3 = d7 ∧ fndC [k7] 3 = 0) := by show _ ∧ _; decide
  have F4 : Hid (fndD [k7] 4 = zero32 ∧ fndC [k7] 4 = 190) := by show _ ∧ _; decide
  have F5 : Hid (fndD (revK [k7] 0) 3 = zero32 ∧ fndC (revK [k7] 0) 3 = 190) := by show _ ∧ _; decide
  have HP : Hid (placeK [k7] 3 = some 0) := by show _ = _; decide
  have HM : Hid (mayK [k7] = true) := by show _ = _; decide
  have hms := fun w => made_ky k7_ok w
  go_enter Try.func14, Try.ntmps14
  go_wp2_with fail
  refine (kBytes_yes (kRow_nil w) nil_ok (by decide)).mono ?_
  rintro e w1 ⟨u, rfl, own, q1⟩
  obtain ⟨ab, cb, rfl, rb⟩ := row_of_owns own
  clear own
  go_upto_region 2 with fail
  go_step
  refine wpList_buildV 16 28 [(0, .const (.int .u8 7))] (by rfl) rfl rfl (dA d7) built_d7 ?_
  refine wpList_buildV 17 39 [(0, .const (.int .i64 3)), (1, .tmp 16)] (by rfl) rfl rfl (kA k7) built_k7 ?_
  refine wpList_madeK 18 22 1 _ rfl rfl rfl 39 (kA k7) hms ?_
  have rk := kRow_one w1 k7_ok 39
  have q2 := below_one w1 (.cells (kA k7) 39)
  replace rb := rb.below q2 (Nat.le_refl _)
  replace q1 := btrans q1 q2
  clear q2
  generalize w1.alloc (.cells (kA k7) 39) = w2 at *
  generalize w1.heap.size = gk at *
  have V0 := Vars.start w2
  go_wp2_with fail
  refine (find_yes rk k7s_ok HM.out).mono ?_
  rintro e w3 ⟨rfl, q3⟩
  rw [F3.out.1, F3.out.2]
  have V3 := V0.call q3
  go_wp2_with (first
    | (refine wpList_allocV V3 4 28 rfl rfl rfl (dA zero32) zeroDg ?_; intro w4 g4 V4)
    | (refine wpList_storeV V4 0 rfl _ (.tmp 22) rfl rfl rfl (dA d7) rfl rfl Try.szDg (dA_size ky0_ok.len) (dA_size k7_ok.len) (dA_one _) ?_; intro w5 V5))
  refine (find_yes (rk.below V5.bel (Nat.le_refl _)) k7s_ok HM.out).mono ?_
  rintro e w6 ⟨rfl, q6⟩
  rw [F4.out.1, F4.out.2]
  have V6 := V5.call q6
  clear V3 V4 V5 q3 q6 V0
  go_wp2_with (first
    | (refine wpList_allocV V6 6 28 rfl rfl rfl (dA zero32) zeroDg ?_; intro w7 g7 V7)
    | (refine wpList_storeV V7 0 rfl _ (.tmp 27) rfl rfl rfl (dA zero32) rfl rfl Try.szDg (dA_size ky0_ok.len) (dA_size ky0_ok.len) (dA_one _) ?_; intro w8 V8))
  refine (revoke_yes (x := 3) (rk.below V8.bel (Nat.le_refl _)) k7s_ok HM.out).mono ?_
  rintro e w9 ⟨q9, ⟨i, v9, hi, rfl, own9⟩ | ⟨hi, _⟩⟩
  case inr => rw [HP.out] at hi; cases hi
  obtain rfl : i = 0 := by rw [HP.out] at hi; exact (Option.some.inj hi).symm
  obtain ⟨a9, c9, rfl, r9⟩ := kRow_owns (by rw [revK_len]; rfl) (revK_ok k7s_ok 0) own9
  have V9 := V8.call q9
  have hm9 := mayK_rev 0 HM.out
  have hfr := find_yes (x := 3) r9 (revK_ok k7s_ok 0) hm9
  rw [F5.out.1, F5.out.2] at hfr
  clear V6 V7 V8 q9 own9 hi
  go_wp2_with fail
  refine hfr.mono ?_
  rintro e w10 ⟨rfl, q10⟩
  have V10 := V9.call q10
  clear hfr r9 V9 q10
  go_wp2_with (first
    | (refine wpList_allocV V10 10 28 rfl rfl rfl (dA zero32) zeroDg ?_; intro w11 g11 V11)
    | (refine wpList_storeV V11 0 rfl _ (.tmp 37) rfl rfl rfl (dA zero32) rfl rfl Try.szDg (dA_size ky0_ok.len) (dA_size ky0_ok.len) (dA_one _) ?_; intro w12 V12; have c0 : w12.cell? ⟨g4, 0, none⟩ = some (.int .u8 7) := man_c (V12.at 2 rfl) 0; have kc := conv_row (P := Try.prog) Try.underlying24 Try.underlying5 Try.underlying9 (rb.below V12.bel (Nat.le_refl _)); have hstr : (strOfNums (rBytes [])).toList = [114, 105, 110, 103, 0, 0, 0, 0] := (by rw [HB.out, Lib.toList_data]; rfl)))
  have HQ : Hid (Below w.heap.size w w12) := btrans q1 V12.bel
  go_ret
  exact ⟨rfl, HQ.out⟩
end Go.Proofs.Ytjcfooiibgidhaa.N
