/-
  Layer 20: what the laws lean on: Bytes, Parse in the words of a manifest; awake.
-/
import Derived.Test.YtennmhenlhaliaaManCode3
import Derived.Test.YtennmhenlhaliaaManCode7
import Derived.Test.YtennmhenlhaliaaManCode8
import Derived.Test.YtennmhenlhaliaaManRef3
namespace Go.Proofs.Ytennmhenlhaliaa.N
open Go.RowKit
set_option linter.unusedVariables false
set_option maxRecDepth 8192

theorem bounds20 {n : Int} (h : (Lit.int .u8 n).wf = true) : 0 ≤ n ∧ n ≤ 255 := by
  simp [Lit.wf, IntKind.min, IntKind.max, IntKind.signed, IntKind.bits] at h
  omega
theorem parse_no {w : World} {a : Option Addr} {n c : Nat} {D : List Int} (hr : Row .u8 w a n c D) (hD : IsB D) (h : isMf D = false) :
    Calls Try.prog 12 #[.slice a n c] w fun e w' => e = .returned (.tuple #[.agg #[.int .i64 0, .int .i64 0, .int .i64 0, .int .i64 0, .slice none 0 0], .int .i64 4]) ∧ Below w.heap.size w w' := by
  refine (parse_any hr hD).mono ?_
  rintro e w' ⟨q, ⟨h1, _⟩ | ⟨_, rfl⟩⟩
  · rw [h] at h1; cases h1
  · exact ⟨rfl, q⟩
theorem parse_yes {w : World} {a : Option Addr} {n c : Nat} {D : List Int} (hr : Row .u8 w a n c D) (hD : IsB D) (h : isMf D = true) (m : Mf) (hm : dec D = m) :
    Calls Try.prog 12 #[.slice a n c] w fun e w' => ∃ sa sc, e = .returned (.tuple #[.agg #[.int .i64 m.ver, .int .i64 m.sec, .int .i64 m.key, .int .i64 m.ent, .slice sa m.segs.length sc], .int .i64 0]) ∧ SegRow w' sa m.segs.length sc m.segs ∧ Below w.heap.size w w' := by
  refine (parse_any hr hD).mono ?_
  rintro e w' ⟨q, ⟨_, sa, sc, rfl, row⟩ | ⟨h1, _⟩⟩
  · subst hm
    have e : (dec D).segs.length = cnt D := sgsTo_len D (cnt D)
    rw [e]
    exact ⟨sa, sc, rfl, row, q⟩
  · rw [h] at h1; cases h1
/-- The document's example. -/
def m1 : Mf := ⟨1, 0, 0, 0, []⟩
theorem m1_ok : m1.Ok := fun s hs => by cases hs
theorem m1_may : mayM m1 = true := by decide
set_option maxHeartbeats 1600000 in
theorem awake20_any (w : World) : Calls Try.prog 10 #[] w fun e w' => e = .returned (.bool true) ∧ Below w.heap.size w w' := by
  obtain ⟨i0, hi0, hz0, hz1, hz2⟩ := info_parts Try.info5
  have HD : Hid (dec (mfBytes m1) = m1 ∧ isMf (mfBytes m1) = true) := dec_bytes m1_ok m1_may
  have HB : Hid (IsB (mfBytes m1)) := isB_mf m1_ok
  have HM : Hid (mfBytes m1 = [109, 97, 110, 105, 1] ++ List.replicate 19 0) := by show _ = _; decide
  go_enter Try.func10, Try.ntmps10
  go_wp2_with fail
  refine (mBytes_yes (v := 1) (s := 0) (k := 0) (e := 0) (segRow_nil w) (fun s hs => by cases hs) m1_may).mono ?_
  rintro e w1 ⟨u, rfl, own, q1⟩
  obtain ⟨ab, cb, rfl, rb⟩ := row_of_owns own
  clear own
  replace rb : Row .u8 w1 ab 24 cb (mfBytes m1) := rb
  go_wp2_with fail
  have hp : Calls Try.prog 12 #[.slice ab 24 cb] w1 fun e w' => ∃ sa sc, e = .returned (.tuple #[.agg #[.int .i64 1, .int .i64 0, .int .i64 0, .int .i64 0, .slice sa 0 sc], .int .i64 0]) ∧ SegRow w' sa 0 sc [] ∧ Below w1.heap.size w1 w' := parse_yes rb HB.out HD.out.2 m1 HD.out.1
  refine hp.mono ?_
  rintro e w2 ⟨sa, sc, rfl, row, q2⟩
  replace rb := rb.below q2 (Nat.le_refl _)
  replace q1 := btrans q1 q2
  clear q2 hp
  have V3 := Vars.start w2
  go_wp2_with (first
    | (refine wpList_allocV V3 3 24 rfl rfl rfl #[.int .i64 0, .int .i64 0, .int .i64 0, .int .i64 0, .slice none 0 0] zeroMf ?_; intro w4 g4 V4)
    | (refine wpList_storeV V4 0 rfl _ (.tmp 16) rfl rfl rfl #[.int .i64 1, .int .i64 0, .int .i64 0, .int .i64 0, .slice sa 0 sc] rfl rfl Try.szMf rfl rfl (mf_oneS 1 0 0 0 sa 0 sc) ?_; intro w5 V5)
    | (at_make; refine wpList_make_full _ rfl _ _ 25 rfl w5.heap.size 5 i0 (.int .u8 0) 1 Try.underlying25 hi0 hz0 hz1 _ _ _ _ 63 rfl rfl rfl rfl (by rw [hz2]; omega) (by unfold maxLen; omega) (Nat.le_refl _) ?_; intro w6 hown6 hgrow6))
  have q6 : Below w5.heap.size w5 w6 := (Below.refl _ _).grown hgrow6 (Nat.le_refl _) (by simp)
  have V6 := V5.call q6
  refine (split_no (by decide)).mono ?_
  rintro e w' ⟨rfl, rfl⟩
  clear V3 V4 V5 q6 hown6 hgrow6
  have rb6 := rb.below V6.bel (Nat.le_refl _)
  have r5 := row_take rb6 5 (by decide)
  have kc := conv_row (P := Try.prog) Try.underlying25 Try.underlying5 Try.underlying9 r5
  have hstr : (strOfNums ((mfBytes m1).take 5)).toList = [109, 97, 110, 105, 1] := by rw [HM.out, Lib.toList_data]; rfl
  have c0 := man_c (V6.at 0 rfl) 0
  have c1 := man_c (V6.at 0 rfl) 1
  have c2 := man_c (V6.at 0 rfl) 2
  have c3 := man_c (V6.at 0 rfl) 3
  have c4 := man_c (V6.at 0 rfl) 4
  have hcb := rb.hcap
  have hcm := rb.hmax
  unfold maxLen at hcm
  obtain ⟨bb, ob, rfl, _, _⟩ := rb.hcell (by decide)
  go_wp2_with fail
  refine (same_any (v := 1) (s := 0) (k := 0) (e := 0) (row.below V6.bel (Nat.le_refl _)) (segRow_nil w6) (fun s hs => by cases hs)).mono ?_
  rintro e w7 ⟨rfl, q7⟩
  have HQ : Hid (Below w.heap.size w w7) := btrans (btrans q1 V6.bel) q7
  clear q1 V6 q7 row rb6 r5 kc c0 c1 c2 c3 c4 hstr
  go_wp2_with fail
  go_ret
  exact ⟨rfl, HQ.out⟩
end Go.Proofs.Ytennmhenlhaliaa.N
