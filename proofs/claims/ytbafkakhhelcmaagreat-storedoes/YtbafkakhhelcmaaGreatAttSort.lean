/-
  slices.SortFunc over found blocks at whatever length: the shelf's contract, laid in plain words. (Written by tools/gen/att_sort.py.)
-/
import Derived.Shelf.SlSortCmp.WholeK
import Derived.Test.YtbafkakhhelcmaaGreatPackV
namespace Go.Proofs.YtbafkakhhelcmaaGreat
open Go.RowKit Go.Shelf Go.Lib Go.Sort
set_option linter.unusedVariables false
set_option maxRecDepth 8192

def sortRen : Go.Shelf.Ren := ⟨fun | 6 => 120 | 14 => 138 | 15 => 139 | 20 => 151 | 21 => 152 | 22 => 153 | 23 => 154 | 24 => 155 | 25 => 156 | 26 => 157 | 27 => 158 | 28 => 159 | 29 => 160 | 46 => 176 | 47 => 177 | 48 => 178 | 49 => 179 | 50 => 180 | 57 => 194 | n => n, fun | 0 => 0 | 3 => 3 | 4 => 4 | 5 => 5 | 9 => 9 | 22 => 93 | 24 => 124 | 25 => 139 | 39 => 152 | 45 => 186 | 46 => 187 | 50 => 191 | 53 => 194 | 55 => 196 | 66 => 207 | 70 => 211 | 76 => 223 | 77 => 224 | n => n, fun n => n⟩
theorem sortL : SlLaysF0.n6 Tryz.prog sortRen where
  mixed := by kernel_rfl
  f6 := ⟨Tryz.f120.name, by decide, Tryz.func120.trans (congrArg some (by kernel_rfl))⟩
  f14 := ⟨Tryz.f138.name, by decide, Tryz.func138.trans (congrArg some (by kernel_rfl))⟩
  f15 := Tryz.func139.trans (congrArg some (by kernel_rfl))
  f20 := ⟨Tryz.f151.name, by decide, Tryz.func151.trans (congrArg some (by kernel_rfl))⟩
  f21 := ⟨Tryz.f152.name, by decide, Tryz.func152.trans (congrArg some (by kernel_rfl))⟩
  f22 := ⟨Tryz.f153.name, by decide, Tryz.func153.trans (congrArg some (by kernel_rfl))⟩
  f23 := ⟨Tryz.f154.name, by decide, Tryz.func154.trans (congrArg some (by kernel_rfl))⟩
  f24 := ⟨Tryz.f155.name, by decide, Tryz.func155.trans (congrArg some (by kernel_rfl))⟩
  f25 := ⟨Tryz.f156.name, by decide, Tryz.func156.trans (congrArg some (by kernel_rfl))⟩
  f26 := ⟨Tryz.f157.name, by decide, Tryz.func157.trans (congrArg some (by kernel_rfl))⟩
  f27 := ⟨Tryz.f158.name, by decide, Tryz.func158.trans (congrArg some (by kernel_rfl))⟩
  f28 := Tryz.func159.trans (congrArg some (by kernel_rfl))
  f29 := Tryz.func160.trans (congrArg some (by kernel_rfl))
  f46 := ⟨Tryz.f176.name, by decide, Tryz.func176.trans (congrArg some (by kernel_rfl))⟩
  f47 := Tryz.func177.trans (congrArg some (by kernel_rfl))
  f48 := Tryz.func178.trans (congrArg some (by kernel_rfl))
  f49 := ⟨Tryz.f179.name, by decide, Tryz.func179.trans (congrArg some (by kernel_rfl))⟩
  f50 := ⟨Tryz.f180.name, by decide, Tryz.func180.trans (congrArg some (by kernel_rfl))⟩
  f57 := ⟨Tryz.f194.name, by decide, Tryz.func194.trans (congrArg some (by kernel_rfl))⟩
  t0 := Tryz.underlying0
  a0 := Tryz.isAgg0
  z0 := Tryz.sizeOf0
  v0 := Tryz.zeroValue0
  t3 := Tryz.underlying3
  a3 := Tryz.isAgg3
  z3 := Tryz.sizeOf3
  v3 := Tryz.zeroValue3
  t4 := Tryz.underlying4
  a4 := Tryz.isAgg4
  z4 := Tryz.sizeOf4
  v4 := Tryz.zeroValue4
  t5 := Tryz.underlying5
  a5 := Tryz.isAgg5
  z5 := Tryz.sizeOf5
  v5 := Tryz.zeroValue5
  t9 := Tryz.underlying9
  a9 := Tryz.isAgg9
  z9 := Tryz.sizeOf9
  v9 := Tryz.zeroValue9
  t22 := Tryz.underlying93
  a22 := Tryz.isAgg93
  z22 := Tryz.sizeOf93
  v22 := Tryz.zeroValue93
  t25 := Tryz.underlying139
  a25 := Tryz.isAgg139
  z25 := Tryz.sizeOf139
  v25 := Tryz.zeroValue139
  t39 := Tryz.underlying152
  a39 := Tryz.isAgg152
  z39 := Tryz.sizeOf152
  v39 := Tryz.zeroValue152
  t45 := Tryz.underlying186
  a45 := Tryz.isAgg186
  z45 := Tryz.sizeOf186
  v45 := Tryz.zeroValue186
  t46 := Tryz.underlying187
  a46 := Tryz.isAgg187
  z46 := Tryz.sizeOf187
  v46 := Tryz.zeroValue187
  t50 := Tryz.underlying191
  a50 := Tryz.isAgg191
  z50 := Tryz.sizeOf191
  v50 := Tryz.zeroValue191
  t53 := Tryz.underlying194
  a53 := Tryz.isAgg194
  z53 := Tryz.sizeOf194
  v53 := Tryz.zeroValue194
  t55 := Tryz.underlying196
  a55 := Tryz.isAgg196
  z55 := Tryz.sizeOf196
  v55 := Tryz.zeroValue196
  t66 := Tryz.underlying207
  a66 := Tryz.isAgg207
  z66 := Tryz.sizeOf207
  v66 := Tryz.zeroValue207
  t70 := Tryz.underlying211
  a70 := Tryz.isAgg211
  z70 := Tryz.sizeOf211
  v70 := Tryz.zeroValue211
  t76 := Tryz.underlying223
  a76 := Tryz.isAgg223
  z76 := Tryz.sizeOf223
  v76 := Tryz.zeroValue223
  t77 := Tryz.underlying224
  a77 := Tryz.isAgg224
  z77 := Tryz.sizeOf224
  v77 := Tryz.zeroValue224
/-- Draws and new blocks alone. -/
def Grew (w w' : World) : Prop := ∃ q os, w' = Go.Sort.grow (w.drewN q) os
theorem Grew.refl (w : World) : Grew w w := ⟨0, #[], by rw [Go.Sort.grow_empty]; rfl⟩
theorem Grew.drew {w w' : World} (h : Grew w w') : Grew w w'.drew := by
  obtain ⟨q, os, rfl⟩ := h
  exact ⟨q + 1, os, rfl⟩
theorem Grew.alloc {w w' : World} (h : Grew w w') (o : Obj) : Grew w (w'.alloc o) := by
  obtain ⟨q, os, rfl⟩ := h
  exact ⟨q, os ++ #[o], by rw [Go.Sort.alloc_eq_grow, Go.Sort.grow_grow]⟩
theorem Grew.trans {a b c : World} (h : Grew a b) (k : Grew b c) : Grew a c := by
  obtain ⟨q, os, rfl⟩ := h
  obtain ⟨p, ps, rfl⟩ := k
  refine ⟨q + p, os ++ ps, ?_⟩
  rw [← Go.Sort.grow_grow]
  unfold Go.Sort.grow World.drewN
  simp [Nat.add_assoc]
theorem writingOf_grew (f : Fnd) (w : World) : Calls Tryz.prog 122 #[.agg #[.int .i64 f.block, .int .i64 f.leb, .int .i64 f.bytes, .int .i64 f.number, .bool f.whole]] w fun e w' => e = .returned (.agg #[.int .i64 f.leb, .int .i64 f.number]) ∧ Grew w w' ∧ Below w.heap.size w w' := by
  go_enter Tryz.func122, Tryz.ntmps122
  go_wp2_with fail
  refine bodyPost_ret (v := .agg #[.int .i64 f.leb, .int .i64 f.number]) (by simp [results, Tryz.results122, go_sem]) rfl ?_
  exact ⟨rfl, ((Grew.refl w).alloc _).alloc _, below_two _ _ _⟩
set_option maxHeartbeats 1600000 in
/-- The same, with the world that it leaves. -/
theorem by1_grew (nf : Int → Int → Int) (fn : Nat) (hbody : ∀ args w, Sem.run Tryz.prog (callFunc fn args) w = .ok (.enter fn args) w)
    (hcall : ∀ (a b : Int) (w : World), Calls Tryz.prog fn #[.int .i64 a, .int .i64 b] w fun e w' => e = .returned (.int .i64 (nf a b)) ∧ w = w')
    (x y : Fnd) (bx : Nat) (w : World) (hb : w.cell? ⟨bx, 0, none⟩ = some (.func (.func fn) #[] #[])) :
    Calls Tryz.prog 121 #[.agg #[.int .i64 x.block, .int .i64 x.leb, .int .i64 x.bytes, .int .i64 x.number, .bool x.whole], .agg #[.int .i64 y.block, .int .i64 y.leb, .int .i64 y.bytes, .int .i64 y.number, .bool y.whole], .pointer (some ⟨bx, 0, none⟩)] w fun e w' => e = .returned (.int .i64 (cmpF nf x y)) ∧ Grew w w' := by
  have hbl := lt_of_cell hb
  simp only at hbl
  go_enter Tryz.func121, Tryz.ntmps121
  go_wp2_with fail
  have q1 := below_two w (.cells #[.int .i64 x.block, .int .i64 x.leb, .int .i64 x.bytes, .int .i64 x.number, .bool x.whole] 124) (.cells #[.int .i64 y.block, .int .i64 y.leb, .int .i64 y.bytes, .int .i64 y.number, .bool y.whole] 124)
  have fx := (fat_new w 124 x).below (below_one _ (.cells #[.int .i64 y.block, .int .i64 y.leb, .int .i64 y.bytes, .int .i64 y.number, .bool y.whole] 124)) (Nat.le_refl _)
  have fy := fat_new (w.alloc (.cells #[.int .i64 x.block, .int .i64 x.leb, .int .i64 x.bytes, .int .i64 x.number, .bool x.whole] 124)) 124 y
  rw [show (w.alloc (.cells #[.int .i64 x.block, .int .i64 x.leb, .int .i64 x.bytes, .int .i64 x.number, .bool x.whole] 124)).heap.size = w.heap.size + 1 by simp] at fy
  have gr : Grew w _ := ((Grew.refl w).alloc (.cells #[.int .i64 x.block, .int .i64 x.leb, .int .i64 x.bytes, .int .i64 x.number, .bool x.whole] 124)).alloc (.cells #[.int .i64 y.block, .int .i64 y.leb, .int .i64 y.bytes, .int .i64 y.number, .bool y.whole] 124)
  have hb2 := (q1.cell (p := ⟨bx, 0, none⟩) hbl).trans hb
  generalize ((w.alloc (.cells #[.int .i64 x.block, .int .i64 x.leb, .int .i64 x.bytes, .int .i64 x.number, .bool x.whole] 124)).alloc (.cells #[.int .i64 y.block, .int .i64 y.leb, .int .i64 y.bytes, .int .i64 y.number, .bool y.whole] 124)) = w1 at *
  have hbl2 := lt_of_cell hb2
  simp only at hbl2
  clear hb hbl q1
  refine held_begin (by kernel_rfl) ?_
  refine held_reads (rs := [0, 2]) (fuel := 3) (by kernel_rfl) (fun c d v a w h => by cases d <;> exact h) (by kernel_rfl) (Since.drew _) (fun K hK => ?_)
  refine calm_do (.agg #[.int .i64 x.block, .int .i64 x.leb, .int .i64 x.bytes, .int .i64 x.number, .bool x.whole]) rfl (by rfl) (fun w' hw' => ?_) ?_
  · obtain ⟨c0, c1, c2, c3, c4⟩ := fx.below hw' (Nat.le_refl _)
    go_simp
  go_simp
  refine calm_do (.agg #[.int .i64 y.block, .int .i64 y.leb, .int .i64 y.bytes, .int .i64 y.number, .bool y.whole]) rfl (by rfl) (fun w' hw' => ?_) ?_
  · obtain ⟨c0, c1, c2, c3, c4⟩ := fy.below hw' (Nat.le_refl _)
    go_simp
  go_simp
  refine calm_nil (hK.out _ ?_)
  clear hK K
  refine held_call (i := 1) (fuel := 2) (by kernel_rfl) rfl (by rfl) (fun K hK => ?_)
  go_simp
  refine (writingOf_grew x _).mono ?_
  rintro e w3 ⟨rfl, gg, qq0⟩
  replace gr := gr.drew.trans gg
  clear gg
  have qd : Since w1 w3 := Since.trans (Since.drew _) qq0
  refine hK _ _ qd ?_
  clear hK K qq0
  replace fx := fx.below qd (Nat.le_refl _)
  replace fy := fy.below qd (Nat.le_refl _)
  replace hb2 := (qd.cell (p := ⟨bx, 0, none⟩) hbl2).trans hb2
  replace hbl2 := Nat.lt_of_lt_of_le hbl2 qd.size
  clear qd
  refine held_call (i := 3) (fuel := 1) (by kernel_rfl) rfl (by rfl) (fun K hK => ?_)
  go_simp
  refine (writingOf_grew y _).mono ?_
  rintro e w4 ⟨rfl, gg, qq0⟩
  replace gr := gr.trans gg
  clear gg
  have qd : Since w3 w4 := qq0
  refine hK _ _ qd ?_
  clear hK K qq0
  replace fx := fx.below qd (Nat.le_refl _)
  replace fy := fy.below qd (Nat.le_refl _)
  replace hb2 := (qd.cell (p := ⟨bx, 0, none⟩) hbl2).trans hb2
  clear qd hbl2
  refine held_reads (rs := [4]) (fuel := 0) (by kernel_rfl) (fun c d v a w h => by cases d <;> exact h) (by kernel_rfl) (Since.refl _) (fun K hK => ?_)
  go_simp
  refine calm_do (.bool (x.leb == y.leb && x.number == y.number)) rfl (by rfl) (fun w' hw' => ?_) ?_
  · go_simp
    by_cases h1 : x.leb = y.leb <;> by_cases h2 : x.number = y.number <;> simp [h1, h2]
  go_simp
  refine calm_nil (hK.out _ ?_)
  clear hK K
  refine wpAnyH_done (by kernel_rfl) ?_ _
  obtain ⟨x0, x1, x2, x3, x4⟩ := fx
  obtain ⟨y0, y1, y2, y3, y4⟩ := fy
  cases hs : (x.leb == y.leb && x.number == y.number)
  · have HC : Hid (cmpF nf x y = nf x.number y.number) := by show _ = _; unfold cmpF; rw [if_neg (by rw [hs]; simp)]
    go_wp2_with fail
    refine (hcall _ _ _).mono ?_
    rintro e w' ⟨rfl, rfl⟩
    go_wp2_with fail
    go_ret
    exact ⟨ret_int HC.out.symm, gr⟩
  · have HC : Hid (cmpF nf x y = cmpI x.block y.block) := by show _ = _; unfold cmpF; rw [if_pos hs]
    go_wp2_with fail
    refine (compare_any _ _ _).mono ?_
    rintro e w' ⟨rfl, rfl⟩
    go_wp2_with fail
    go_ret
    exact ⟨ret_int HC.out.symm, gr⟩
end Go.Proofs.YtbafkakhhelcmaaGreat
