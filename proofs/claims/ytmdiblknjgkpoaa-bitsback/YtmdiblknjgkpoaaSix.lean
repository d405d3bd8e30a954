/-
  The contract of awake: the document's examples come out; nothing old turns.
-/
import Derived.Test.YtmdiblknjgkpoaaFive
import Derived.Laws.BytesArg
namespace Go.Proofs.Ytmdiblknjgkpoaa
open Go.RowKit
set_option linter.unusedVariables false

theorem row_new (k : IntKind) (w : World) (e : TypeId) (g : Nat) (hg : g = w.heap.size) (zs : List Int) (n : Nat) (hn : zs.length = n) (hm : n ≤ maxLen) (cs : Array Value) (hc : cs = (zs.map (Value.int k)).toArray) :
    Row k (w.alloc (.cells cs e)) (some ⟨g, 0, none⟩) n n zs := by
  subst hg hc
  have h := World.ownsRow_lit (base := 0) (e := e) (size := 1) w (zs.map (Value.int k)).toArray n (Nat.zero_le _) hm (by simp; omega)
  obtain ⟨a, cap, hv, hr⟩ := row_of_owns (zs := zs) (k := k) (by simpa using h)
  simp only [Value.slice.injEq, true_and] at hv
  obtain ⟨rfl, rfl⟩ := hv
  exact hr

theorem isB_all (z : List Int) (h : z.all (fun n => decide (0 ≤ n ∧ n ≤ 255)) = true) : IsB z := by
  intro n hn
  have := List.all_eq_true.1 h n hn
  simpa using this
theorem wf_all (z : List Int) (h : z.all (fun n => (Lit.int .i64 n).wf) = true) : ∀ n ∈ z, (Lit.int .i64 n).wf = true := fun n hn => List.all_eq_true.1 h n hn
theorem below_one (w : World) (o : Obj) : Below w.heap.size w (w.alloc o) := (Below.refl _ _).alloc (Nat.le_refl _) _
theorem below_two (w : World) (o p : Obj) : Below w.heap.size w ((w.alloc o).alloc p) := (below_one w o).alloc (by simp) _
theorem below_four (w : World) (o p q r : Obj) : Below w.heap.size w ((((w.alloc o).alloc p).alloc q).alloc r) := ((below_two w o p).alloc (by simp; omega) _).alloc (by simp; omega) _

/-- 'string(b)' of a row of bytes. -/
theorem conv_row {w : World} {a : Option Addr} {len cap : Nat} {z : List Int} (hr : Row .u8 w a len cap z) : (Go.convert 22 9 (.slice a len cap)).run Try.prog w = .ok (.string (strOfNums z)) w := by
  have hl := hr.hlen
  by_cases h0 : len = 0
  · subst h0
    have hz : z = [] := List.eq_nil_of_length_eq_zero hl
    subst hz
    rw [run_convert_bytes_string w 22 9 5 _ 0 cap Try.underlying22 Try.underlying5 Try.underlying9]
    cases a <;> simp [Conv.bytesToString, loadCells]
    all_goals rfl
  · obtain ⟨b, off, rfl, hbs, hcell⟩ := hr.hcell (by omega)
    exact run_convert_bytes_arg w 22 5 Try.underlying22 Try.underlying5 b off len cap z hl (fun i hi => by rw [hcell i hi, List.getD_eq_getElem?_getD]) 9 Try.underlying9

set_option maxHeartbeats 1600000 in
theorem awake_any (w : World) : Calls Try.prog 13 #[] w fun e w' => e = .returned (.bool true) ∧ Below w.heap.size w w' := by
  go_enter Try.func13, Try.ntmps13
  go_wp2_with fail
  refine (at_yes _ _ _ 0 [5] _ (row_new .u8 _ _ _ rfl [5] 1 rfl (by decide) _ rfl) (isB_all _ (by decide)) (by decide) (by decide)).mono ?_
  rintro e w' ⟨rfl, rfl⟩
  rw [show bitI [5] 0 = 1 from by decide]
  go_wp2_with fail
  refine (at_no _ _ _ 8 _ (by decide) (by decide) (by decide) (by decide)).mono ?_
  rintro e w' ⟨rfl, rfl⟩
  go_wp2_with fail
  have hr1 := (row_new .u8 ((w.alloc (Obj.cells #[Value.int IntKind.u8 5] 5)).alloc (Obj.cells #[Value.int IntKind.u8 5] 5)) 5 (w.heap.size + 1 + 1) (by simp) [0, 0] 2 rfl (by decide) _ rfl).below (below_one _ (Obj.cells #[Value.int IntKind.i64 0, Value.int IntKind.i64 9, Value.int IntKind.i64 0, Value.int IntKind.i64 0] 3)) (Nat.le_refl _)
  have hr2 := row_new .i64 (((w.alloc (Obj.cells #[Value.int IntKind.u8 5] 5)).alloc (Obj.cells #[Value.int IntKind.u8 5] 5)).alloc (Obj.cells #[Value.int IntKind.u8 0, Value.int IntKind.u8 0] 5)) 3 (w.heap.size + 1 + 1 + 1) (by simp) [0, 9, 0, 0] 4 rfl (by decide) _ rfl
  refine (turn_any _ _ _ _ _ _ [0, 0] [0, 9, 0, 0] _ hr1 (isB_all _ (by decide)) hr2 (wf_all _ (by decide)) (by decide)).mono ?_
  clear hr1 hr2
  rintro e w1 ⟨hb1, ⟨_, rfl, hown1⟩ | ⟨hf, _⟩⟩
  case inr => exact absurd hf (by decide)
  rw [show turnI [0, 0] [0, 9, 0, 0] = [1, 2] from by decide] at hown1
  have hbw := (below_four w _ _ _ _).trans (hb1.mono (by simp; omega))
  obtain ⟨ao, capo, hv, hrow1⟩ := row_of_owns hown1
  rw [hv]
  have hs1 := hb1.size
  clear hb1 hown1 hv
  simp at hs1
  go_wp2_with fail
  have hr1 := (row_new .u8 w1 5 w1.heap.size rfl [255] 1 rfl (by decide) _ rfl).below (below_one _ (Obj.cells #[Value.int IntKind.u8 252] 5)) (Nat.le_refl _)
  have hr2 := row_new .u8 (w1.alloc (Obj.cells #[Value.int IntKind.u8 255] 5)) 5 (w1.heap.size + 1) (by simp) [252] 1 rfl (by decide) _ rfl
  refine (apart_yes _ _ 1 1 1 [255] [252] _ hr1 (isB_all _ (by decide)) hr2 (isB_all _ (by decide)) (by decide)).mono ?_
  clear hr1 hr2
  rintro e w2 ⟨v, rfl, hown2, hb2⟩
  rw [show apartTo [255] [252] (8 * 1) = [0, 1] from by decide] at hown2
  obtain ⟨a2, cap2, rfl, hrow2⟩ := row_of_owns hown2
  have hb12 := (below_two w1 _ _).trans (hb2.mono (by simp; omega))
  have hrow1' := hrow1.below hb12 (Nat.le_refl _)
  have hs2 := hb12.size
  have hbw2 := hbw.trans (hb12.mono (by omega))
  clear hown2 hb2 hb12 hbw hrow1
  have hcv := conv_row hrow1'
  rw [show strOfNums [1, 2] = ⟨#[1, 2]⟩ from by decide] at hcv
  have hl2 : ([0, 1] : List Int).length = 2 := rfl
  clear hs1
  go_wp2_with fail
  have hr1 : Row .i64 (w2.alloc (Obj.cells #[Value.int IntKind.i64 0, Value.int IntKind.i64 1] 3)) a2 2 cap2 [0, 1] := hrow2.below (below_one _ _) (Nat.le_refl _)
  have hr2 := row_new .i64 w2 3 w2.heap.size rfl [0, 1] 2 rfl (by decide) _ rfl
  refine (ints_any _ _ 2 _ 2 _ [0, 1] [0, 1] _ hr1 hr2).mono ?_
  clear hr1 hr2 hcv hrow1' hrow2
  rintro e w3 ⟨rfl, hb3⟩
  rw [show (decide (([0, 1] : List Int) = [0, 1])) = true from by decide]
  have hbw3 := hbw2.trans ((below_one w2 _).mono (by have := hbw2.size; omega) |>.trans (hb3.mono (by have := hbw2.size; simp; omega)))
  clear hb3 hs2
  go_wp2_with fail
  refine (ones_any _ 2 2 [255, 1] _ (row_new .u8 _ _ _ rfl [255, 1] 2 rfl (by decide) _ rfl) (isB_all _ (by decide)) (by decide)).mono ?_
  rintro e w' ⟨rfl, rfl⟩
  rw [show onesTo [255, 1] (8 * 2) = 9 from by decide]
  go_wp2_with fail
  go_ret
  exact ⟨rfl, hbw3.alloc hbw3.size _⟩

end Go.Proofs.Ytmdiblknjgkpoaa
