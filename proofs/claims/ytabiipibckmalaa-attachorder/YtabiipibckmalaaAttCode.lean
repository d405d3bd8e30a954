/-
  The code of layer 10 (attach), as it landed: cmp.Compare, rising, falling, writingOf, the order that 'by' makes, mayBe.
-/
import Derived.Test.YtabiipibckmalaaAttPlain
import Derived.Test.YtabiipibckmalaaHeld
import Derived.Test.YtabiipibckmalaaRows
import Derived.Laws.StructEq
namespace Go.Proofs.Ytabiipibckmalaa
open Go.RowKit
set_option linter.unusedVariables false
set_option maxRecDepth 8192

theorem isNaN_any (x : Int) (w : World) : Calls Try.prog 31 #[.int .i64 x] w fun e w' => e = .returned (.bool false) ∧ w = w' := by
  go_enter Try.func31, Try.ntmps31
  go_wp2
  go_ret
  exact ⟨ret_bool (by simp), rfl⟩
theorem compare_any (x y : Int) (w : World) : Calls Try.prog 27 #[.int .i64 x, .int .i64 y] w fun e w' => e = .returned (.int .i64 (cmpI x y)) ∧ w = w' := by
  by_cases h1 : x < y
  · have hc : Hid (cmpI x y = -1) := by show _ = _; unfold cmpI; rw [if_pos h1]
    go_enter Try.func27, Try.ntmps27
    go_wp2_with (go_at_call 31; refine (isNaN_any _ _).mono ?_; rintro e w' ⟨rfl, rfl⟩)
    go_ret
    exact ⟨ret_int hc.out.symm, rfl⟩
  · by_cases h2 : y < x
    · have hc : Hid (cmpI x y = 1) := by show _ = _; unfold cmpI; rw [if_neg h1, if_pos h2]
      go_enter Try.func27, Try.ntmps27
      go_wp2_with (go_at_call 31; refine (isNaN_any _ _).mono ?_; rintro e w' ⟨rfl, rfl⟩)
      go_ret
      exact ⟨ret_int hc.out.symm, rfl⟩
    · have hc : Hid (cmpI x y = 0) := by show _ = _; unfold cmpI; rw [if_neg h1, if_neg h2]
      go_enter Try.func27, Try.ntmps27
      go_wp2_with (go_at_call 31; refine (isNaN_any _ _).mono ?_; rintro e w' ⟨rfl, rfl⟩)
      go_ret
      exact ⟨ret_int hc.out.symm, rfl⟩
theorem rising_any (x y : Int) (w : World) : Calls Try.prog 18 #[.int .i64 x, .int .i64 y] w fun e w' => e = .returned (.int .i64 (cmpI x y)) ∧ w = w' := by
  go_enter Try.func18, Try.ntmps18
  go_wp2_with fail
  refine (compare_any _ _ _).mono ?_
  rintro e w' ⟨rfl, rfl⟩
  go_wp2_with fail
  go_ret
  exact ⟨rfl, rfl⟩
theorem falling_any (x y : Int) (w : World) : Calls Try.prog 23 #[.int .i64 x, .int .i64 y] w fun e w' => e = .returned (.int .i64 (fallI x y)) ∧ w = w' := by
  go_enter Try.func23, Try.ntmps23
  go_wp2_with fail
  refine (compare_any _ _ _).mono ?_
  rintro e w' ⟨rfl, rfl⟩
  go_wp2_with fail
  go_ret
  exact ⟨rfl, rfl⟩
def lebsB (n : Int) : Bool := decide (1 ≤ n ∧ n ≤ 64)
theorem attMayBe_any (n : Int) (w : World) : Calls Try.prog 12 #[.int .i64 n] w fun e w' => e = .returned (.bool (lebsB n)) ∧ w = w' := by
  by_cases h : 1 ≤ n
  · go_enter Try.func12, Try.ntmps12
    go_wp2
    go_ret
    exact ⟨ret_bool (by unfold lebsB; simp [h]), rfl⟩
  · go_enter Try.func12, Try.ntmps12
    go_wp2
    go_ret
    exact ⟨ret_bool (by unfold lebsB; symm; rw [decide_eq_false_iff_not]; omega), rfl⟩
theorem eqInt10 (d : Nat) (a b : Int) (w : World) : (Op.equalIn (d + 1) 3 (.int .i64 a) (.int .i64 b)).run Try.prog w = .ok (a == b) w := run_equalIn_int w d 3 .i64 .i64 a b Try.underlying3
theorem writEqIn (a b x y : Int) (w : World) : (Op.equalIn 10000 55 (.agg #[.int .i64 a, .int .i64 b]) (.agg #[.int .i64 x, .int .i64 y])).run Try.prog w = .ok (a == x && b == y) w := by
  obtain ⟨fs, hfs⟩ : ∃ fs, Try.prog.underlying 55 = some (.struct fs) := ⟨_, Try.underlying55⟩
  have hf : Try.prog.fieldsOf 55 = fs := by unfold Program.fieldsOf; rw [hfs]
  rw [run_equalIn_agg (d := 9999) w _ _ _ (by rw [hf]; exact hfs) (by kernel_rfl), hf]
  rw [Try.underlying55] at hfs
  cases hfs
  cases h1 : (a == x) <;> cases h2 : (b == y) <;> simp [Op.eqFields, eqInt10, go_sem, h1, h2]
theorem writEq (a b x y : Int) (w : World) : Sem.run Try.prog (binOp .eql 55 (.agg #[.int .i64 a, .int .i64 b]) (.agg #[.int .i64 x, .int .i64 y])) w = .ok (.bool (a == x && b == y)) w := by
  rw [run_eql_struct, writEqIn]; rfl
theorem writingOf_any (f : Fnd) (w : World) : Calls Try.prog 26 #[.agg #[.int .i64 f.block, .int .i64 f.leb, .int .i64 f.bytes, .int .i64 f.number, .bool f.whole]] w fun e w' => e = .returned (.agg #[.int .i64 f.leb, .int .i64 f.number]) ∧ Below w.heap.size w w' := by
  go_enter Try.func26, Try.ntmps26
  go_wp2_with fail
  refine bodyPost_ret (v := .agg #[.int .i64 f.leb, .int .i64 f.number]) (by simp [results, Try.results26, go_sem]) rfl ?_
  exact ⟨rfl, below_two _ _ _⟩
set_option maxHeartbeats 1600000 in
/-- The order that 'by' makes of an order of numbers. -/
theorem by1_any (nf : Int → Int → Int) (fn : Nat) (hbody : ∀ args w, Sem.run Try.prog (callFunc fn args) w = .ok (.enter fn args) w)
    (hcall : ∀ (a b : Int) (w : World), Calls Try.prog fn #[.int .i64 a, .int .i64 b] w fun e w' => e = .returned (.int .i64 (nf a b)) ∧ w = w')
    (x y : Fnd) (bx : Nat) (w : World) (hb : w.cell? ⟨bx, 0, none⟩ = some (.func (.func fn) #[] #[])) :
    Calls Try.prog 25 #[.agg #[.int .i64 x.block, .int .i64 x.leb, .int .i64 x.bytes, .int .i64 x.number, .bool x.whole], .agg #[.int .i64 y.block, .int .i64 y.leb, .int .i64 y.bytes, .int .i64 y.number, .bool y.whole], .pointer (some ⟨bx, 0, none⟩)] w fun e w' => e = .returned (.int .i64 (cmpF nf x y)) ∧ Below w.heap.size w w' := by
  have hbl := lt_of_cell hb
  simp only at hbl
  go_enter Try.func25, Try.ntmps25
  go_wp2_with fail
  have q1 := below_two w (.cells #[.int .i64 x.block, .int .i64 x.leb, .int .i64 x.bytes, .int .i64 x.number, .bool x.whole] 26) (.cells #[.int .i64 y.block, .int .i64 y.leb, .int .i64 y.bytes, .int .i64 y.number, .bool y.whole] 26)
  have fx := (fat_new w 26 x).below (below_one _ (.cells #[.int .i64 y.block, .int .i64 y.leb, .int .i64 y.bytes, .int .i64 y.number, .bool y.whole] 26)) (Nat.le_refl _)
  have fy := fat_new (w.alloc (.cells #[.int .i64 x.block, .int .i64 x.leb, .int .i64 x.bytes, .int .i64 x.number, .bool x.whole] 26)) 26 y
  rw [show (w.alloc (.cells #[.int .i64 x.block, .int .i64 x.leb, .int .i64 x.bytes, .int .i64 x.number, .bool x.whole] 26)).heap.size = w.heap.size + 1 by simp] at fy
  have hb2 := (q1.cell (p := ⟨bx, 0, none⟩) hbl).trans hb
  generalize ((w.alloc (.cells #[.int .i64 x.block, .int .i64 x.leb, .int .i64 x.bytes, .int .i64 x.number, .bool x.whole] 26)).alloc (.cells #[.int .i64 y.block, .int .i64 y.leb, .int .i64 y.bytes, .int .i64 y.number, .bool y.whole] 26)) = w1 at *
  have hbl2 := lt_of_cell hb2
  simp only at hbl2
  clear hb hbl
  refine held_begin (by kernel_rfl) ?_
  refine held_reads (rs := [0, 2]) (fuel := 3) (by kernel_rfl) (fun c d v a w h => by cases d <;> exact h) (by kernel_rfl) (Since.drew _) (fun K hK => ?_)
  refine calm_do (.agg #[.int .i64 x.block, .int .i64 x.leb, .int .i64 x.bytes, .int .i64 x.number, .bool x.whole]) rfl (by rfl) (fun w' hw' => ?_) ?_
  · obtain ⟨c0, c1, c2, c3, c4⟩ := fx.below hw' (Nat.le_refl _)
    go_simp
  go_simp
  refine calm_do (.agg #[.int .i64 y.block, .int .i64 y.leb, .int .i64 y.bytes, .int .i64 y.number, .bool y.whole]) rfl (by rfl) (fun w' hw' => ?_) ?_
  · obtain ⟨c0, c1, c2, c3, c4⟩ := fy.below hw' (Nat.le_refl _)
    go_simp
  go_simp
  refine calm_nil (hK.out _ ?_)
  clear hK K
  refine held_call (i := 1) (fuel := 2) (by kernel_rfl) rfl (by rfl) (fun K hK => ?_)
  go_simp
  refine (writingOf_any x _).mono ?_
  rintro e w3 ⟨rfl, qq0⟩
  have qd : Since w1 w3 := Since.trans (Since.drew _) qq0
  refine hK _ _ qd ?_
  clear hK K qq0
  replace fx := fx.below qd (Nat.le_refl _)
  replace fy := fy.below qd (Nat.le_refl _)
  replace hb2 := (qd.cell (p := ⟨bx, 0, none⟩) hbl2).trans hb2
  replace hbl2 := Nat.lt_of_lt_of_le hbl2 qd.size
  replace q1 := btrans q1 qd
  clear qd
  refine held_call (i := 3) (fuel := 1) (by kernel_rfl) rfl (by rfl) (fun K hK => ?_)
  go_simp
  refine (writingOf_any y _).mono ?_
  rintro e w4 ⟨rfl, qq0⟩
  have qd : Since w3 w4 := qq0
  refine hK _ _ qd ?_
  clear hK K qq0
  replace fx := fx.below qd (Nat.le_refl _)
  replace fy := fy.below qd (Nat.le_refl _)
  replace hb2 := (qd.cell (p := ⟨bx, 0, none⟩) hbl2).trans hb2
  replace q1 := btrans q1 qd
  clear qd hbl2
  refine held_reads (rs := [4]) (fuel := 0) (by kernel_rfl) (fun c d v a w h => by cases d <;> exact h) (by kernel_rfl) (Since.refl _) (fun K hK => ?_)
  go_simp
  refine calm_do (.bool (x.leb == y.leb && x.number == y.number)) rfl (by rfl) (fun w' hw' => ?_) ?_
  · go_simp
    by_cases h1 : x.leb = y.leb <;> by_cases h2 : x.number = y.number <;> simp [h1, h2]
  go_simp
  refine calm_nil (hK.out _ ?_)
  clear hK K
  refine wpAnyH_done (by kernel_rfl) ?_ _
  obtain ⟨x0, x1, x2, x3, x4⟩ := fx
  obtain ⟨y0, y1, y2, y3, y4⟩ := fy
  cases hs : (x.leb == y.leb && x.number == y.number)
  · have HC : Hid (cmpF nf x y = nf x.number y.number) := by show _ = _; unfold cmpF; rw [if_neg (by rw [hs]; simp)]
    go_wp2_with fail
    refine (hcall _ _ _).mono ?_
    rintro e w' ⟨rfl, rfl⟩
    go_wp2_with fail
    go_ret
    exact ⟨ret_int HC.out.symm, q1⟩
  · have HC : Hid (cmpF nf x y = cmpI x.block y.block) := by show _ = _; unfold cmpF; rw [if_pos hs]
    go_wp2_with fail
    refine (compare_any _ _ _).mono ?_
    rintro e w' ⟨rfl, rfl⟩
    go_wp2_with fail
    go_ret
    exact ⟨ret_int HC.out.symm, q1⟩
end Go.Proofs.Ytabiipibckmalaa
