/-
  The code of layer 10 (attach), as it landed: Stale at the chapter's example: a row of two blocks that are in order.
-/
import Derived.Test.YtabiipibckmalaaAttCode4
import Derived.LoopN
namespace Go.Proofs.Ytabiipibckmalaa
open Go.RowKit
set_option linter.unusedVariables false
set_option maxRecDepth 8192

theorem len64_two (w : World) : Calls Try.prog 41 #[.int .u64 2] w fun e w' => (∃ l : Int, e = .returned (.int .i64 l)) ∧ w = w' := by
  go_enter Try.func41, Try.ntmps41
  go_wp2
  go_ret
  exact ⟨⟨_, rfl⟩, rfl⟩
theorem len_two (w : World) : Calls Try.prog 30 #[.int .u64 2] w fun e w' => (∃ l : Int, e = .returned (.int .i64 l)) ∧ w = w' := by
  go_enter Try.func30, Try.ntmps30
  go_wp2_with fail
  refine (len64_two _).mono ?_
  rintro e w' ⟨⟨l, rfl⟩, rfl⟩
  go_wp2_with fail
  go_ret
  exact ⟨⟨_, rfl⟩, rfl⟩
section
variable (nf : Int → Int → Int) (fn : Nat) (hbody : ∀ args w, Sem.run Try.prog (callFunc fn args) w = .ok (.enter fn args) w)
    (hcall : ∀ (a b : Int) (w : World), Calls Try.prog fn #[.int .i64 a, .int .i64 b] w fun e w' => e = .returned (.int .i64 (nf a b)) ∧ w = w')
include hbody hcall
set_option maxHeartbeats 3200000 in
theorem insertion_two (bx b off cap : Nat) (x y : Fnd) (w : World) (hb : w.cell? ⟨bx, 0, none⟩ = some (.func (.func fn) #[] #[])) (hx : FAt w b off x) (hy : FAt w b (off + 5) y) (h : ¬ cmpF nf y x < 0) :
    Calls Try.prog 32 #[.slice (some ⟨b, off, none⟩) 2 cap, .int .i64 0, .int .i64 2, .func (.func 25) #[] #[.pointer (some ⟨bx, 0, none⟩)]] w
      fun e w' => e = .returned (.tuple #[]) ∧ Below w.heap.size w w' := by
  have hbl := lt_of_cell hb
  simp only at hbl
  go_enter Try.func32, Try.ntmps32
  go_wp2_with fail
  refine wp_loop_rounds 2 ?_
  rw [rounds_succ]
  go_wp2_with fail
  refine wp_loop_rounds 1 ?_
  rw [rounds_succ]
  go_wp2_with fail
  refine held_begin (by kernel_rfl) ?_
  refine held_reads (rs := [0, 1, 2, 3, 4, 5, 6, 7, 8, 9, 10, 11, 12, 13]) (fuel := 3) (by kernel_rfl) (fun c d v a w h => by cases d <;> exact h) (by kernel_rfl) (Since.drew _) (fun K hK => ?_)
  refine calm_move _ rfl (by rfl) rfl ?_
  go_simp
  refine calm_move _ rfl (by rfl) rfl ?_
  go_simp
  refine calm_do (.bool true) rfl (by rfl) (fun w' hw' => ?_) ?_
  · go_simp
  go_simp
  refine calm_move _ rfl (by rfl) rfl ?_
  go_simp
  refine calm_move _ rfl (by rfl) rfl ?_
  go_simp
  refine calm_move _ rfl (by rfl) rfl ?_
  go_simp
  refine calm_move _ rfl (by rfl) rfl ?_
  go_simp
  refine calm_do (.pointer (some ⟨b, off + 5, none⟩)) rfl (by rfl) (fun w' hw' => ?_) ?_
  · go_simp
  go_simp
  refine calm_do (.agg #[.int .i64 y.block, .int .i64 y.leb, .int .i64 y.bytes, .int .i64 y.number, .bool y.whole]) rfl (by rfl) (fun w' hw' => ?_) ?_
  · obtain ⟨c0, c1, c2, c3, c4⟩ := hy.below hw' (Nat.le_refl _)
    go_simp
  go_simp
  refine calm_move _ rfl (by rfl) rfl ?_
  go_simp
  refine calm_move _ rfl (by rfl) rfl ?_
  go_simp
  refine calm_do (.int .i64 0) rfl (by rfl) (fun w' hw' => ?_) ?_
  · go_simp
    rfl
  go_simp
  refine calm_do (.pointer (some ⟨b, off, none⟩)) rfl (by rfl) (fun w' hw' => ?_) ?_
  · go_simp
  go_simp
  refine calm_do (.agg #[.int .i64 x.block, .int .i64 x.leb, .int .i64 x.bytes, .int .i64 x.number, .bool x.whole]) rfl (by rfl) (fun w' hw' => ?_) ?_
  · obtain ⟨c0, c1, c2, c3, c4⟩ := hx.below hw' (Nat.le_refl _)
    go_simp
  go_simp
  refine calm_nil (hK.out _ ?_)
  clear hK K
  refine held_call (i := 14) (fuel := 2) (by kernel_rfl) rfl (by rfl) (fun K hK => ?_)
  go_simp
  refine (by1_any nf fn hbody hcall y x bx w.drew hb).mono ?_
  rintro e w3 ⟨rfl, qq0⟩
  have qd : Since _ w3 := Since.trans (Since.drew _) qq0
  refine hK _ _ qd ?_
  clear hK K qq0
  refine held_reads (rs := [15, 16]) (fuel := 0) (by kernel_rfl) (fun c d v a w h => by cases d <;> exact h) (by kernel_rfl) (Since.refl _) (fun K hK => ?_)
  go_simp
  refine calm_do (.bool false) rfl (by rfl) (fun w' hw' => ?_) ?_
  · go_simp
  go_simp
  refine calm_do (.bool false) rfl (by rfl) (fun w' hw' => ?_) ?_
  · go_simp
  go_simp
  refine calm_nil (hK.out _ ?_)
  clear hK K
  refine wpAnyH_done (by kernel_rfl) ?_ _
  go_wp2_with fail
  rw [rounds_succ]
  go_wp2_with fail
  go_end0
  exact ⟨rfl, qd⟩
set_option maxHeartbeats 1600000 in
theorem pdq_two (bx b off cap : Nat) (lim : Int) (x y : Fnd) (w : World) (hb : w.cell? ⟨bx, 0, none⟩ = some (.func (.func fn) #[] #[])) (hx : FAt w b off x) (hy : FAt w b (off + 5) y) (h : ¬ cmpF nf y x < 0) :
    Calls Try.prog 29 #[.slice (some ⟨b, off, none⟩) 2 cap, .int .i64 0, .int .i64 2, .int .i64 lim, .func (.func 25) #[] #[.pointer (some ⟨bx, 0, none⟩)]] w
      fun e w' => e = .returned (.tuple #[]) ∧ Below w.heap.size w w' := by
  have hi := insertion_two nf fn hbody hcall bx b off cap x y w hb hx hy h
  go_enter Try.func29, Try.ntmps29
  go_wp2_with fail
  refine wp_loop_rounds 1 ?_
  rw [rounds_succ]
  go_wp2_with fail
  refine hi.mono ?_
  rintro e w' ⟨rfl, q⟩
  go_wp2_with fail
  refine bodyPost_ret (results_none rfl _ _ _) rfl ?_
  exact ⟨rfl, q⟩
theorem sort_two (bx b off cap : Nat) (x y : Fnd) (w : World) (hb : w.cell? ⟨bx, 0, none⟩ = some (.func (.func fn) #[] #[])) (hx : FAt w b off x) (hy : FAt w b (off + 5) y) (h : ¬ cmpF nf y x < 0) :
    Calls Try.prog 24 #[.slice (some ⟨b, off, none⟩) 2 cap, .func (.func 25) #[] #[.pointer (some ⟨bx, 0, none⟩)]] w
      fun e w' => e = .returned (.tuple #[]) ∧ Below w.heap.size w w' := by
  have hi := fun lim => pdq_two nf fn hbody hcall bx b off cap lim x y w hb hx hy h
  go_enter Try.func24, Try.ntmps24
  go_wp2_with fail
  refine (len_two _).mono ?_
  rintro e w' ⟨⟨l, rfl⟩, rfl⟩
  go_wp2_with fail
  refine (hi l).mono ?_
  rintro e w' ⟨rfl, q⟩
  go_wp2_with fail
  go_end0
  exact ⟨rfl, q⟩
end
set_option maxHeartbeats 3200000 in
/-- Two blocks in order, of which the second stands. -/
theorem others_two (bx b off cap : Nat) (x y : Fnd) (w : World) (hb : w.cell? ⟨bx, 0, none⟩ = some (.func (.func 18) #[] #[])) (hbb : b < w.heap.size) (hx : FAt w b off x) (hy : FAt w b (off + 5) y) (h : ¬ cmpF cmpI y x < 0) (hcap : 2 ≤ cap ∧ cap ≤ maxLen) (hst : standsL [x, y] = y.block) (hne : x.block ≠ y.block) :
    Calls Try.prog 16 #[.slice (some ⟨b, off, none⟩) 2 cap, .func (.func 25) #[] #[.pointer (some ⟨bx, 0, none⟩)]] w
      fun e w' => ∃ v, e = .returned v ∧ w'.ownsRow w.heap.size 3 1 v 1 ([x.block].map (Value.int .i64)) ∧ Below w.heap.size w w' := by
  obtain ⟨iq, hiq, hiq'⟩ : ∃ i, Try.prog.info? 3 = some i ∧ (i.zero, i.size, i.bytes) = (some (.int .i64 0), 1, 8) := by
    have := Try.infoInt10
    rw [Option.map_eq_some_iff] at this
    exact this
  simp only [Prod.mk.injEq] at hiq'
  obtain ⟨hiq0, hiq1, hiq2⟩ := hiq'
  have hfr : ∀ w', FAt w' b off x → FAt w' b (off + 5) y → b < w'.heap.size → FRow w' (some ⟨b, off, none⟩) 2 cap [x, y] := fun w' h1 h2 h3 => by
    refine ⟨rfl, hcap.1, hcap.2, by simp, fun _ => ⟨b, off, rfl, h3, fun i hi => ?_⟩⟩
    have : i = 0 ∨ i = 1 := by omega
    rcases this with rfl | rfl
    · simpa using h1
    · simpa using h2
  go_enter Try.func16, Try.ntmps16
  go_wp2_with fail
  refine (sort_two cmpI 18 (fun _ _ => rfl) rising_any bx b off cap x y w hb hx hy (by omega)).mono ?_
  rintro e w1 ⟨rfl, q1⟩
  replace hx := hx.below q1 (Nat.le_refl _)
  replace hy := hy.below q1 (Nat.le_refl _)
  go_wp2_with fail
  refine (stands_any _ _ _ [x, y] _ (hfr _ hx hy (Nat.lt_of_lt_of_le hbb q1.size))).mono ?_
  rintro e w2 ⟨rfl, q2⟩
  rw [hst]
  replace hx := hx.below q2 (Nat.le_refl _)
  replace hy := hy.below q2 (Nat.le_refl _)
  replace q1 := btrans q1 q2
  clear q2 hfr hb hst
  obtain ⟨x0, x1, x2, x3, x4⟩ := hx
  obtain ⟨y0, y1, y2, y3, y4⟩ := hy
  go_wp2_with fail
  refine wp_loop_rounds 3 ?_
  rw [rounds_succ]
  have hxy : (x.block != y.block) = true := by simp [hne]
  have hwr : w.heap.size ≤ w2.heap.size := q1.size
  go_wp2_with (at_builtin; refine wpList_append_own _ rfl _ _ 27 rfl w.heap.size 3 iq (.int .i64 0) 1 8 Try.underlying27 hiq hiq0 hiq1 hiq2 rfl (by decide) (.slice none 0 0) 0 [] rfl (World.ownsRow_nil _ _ _ _) ⟨w2.heap.size + 1, 0, none⟩ 1 1 [.int .i64 x.block] rfl rfl ?c1 ?c2 ?c3 ?c4 ?c5 ?_)
  case c1 =>
    have := cell_one_new (w2.alloc (.cells #[.int .i64 x.block, .int .i64 x.leb, .int .i64 x.bytes, .int .i64 x.number, .bool x.whole] 26)) (.int .i64 x.block) 3
    simpa using this
  case c2 => intro u hu; simp at hu; subst hu; rfl
  case c3 => unfold maxLen; omega
  case c4 => omega
  case c5 => simp; omega
  intro v' w3 hown' hgrow _
  have q3 : Below w.heap.size w w3 := ((q1.alloc hwr (.cells #[.int .i64 x.block, .int .i64 x.leb, .int .i64 x.bytes, .int .i64 x.number, .bool x.whole] 26)).alloc (by simp; omega) (.cells #[.int .i64 x.block] 3)).grown hgrow (by simp; omega) (by simp [Value.ownBlock])
  have q4 : Below w2.heap.size w2 w3 := (below_two w2 (.cells #[.int .i64 x.block, .int .i64 x.leb, .int .i64 x.bytes, .int .i64 x.number, .bool x.whole] 26) (.cells #[.int .i64 x.block] 3)).grown hgrow (by simp; omega) (by simp [Value.ownBlock])
  have hy : FAt w2 b (off + 5) y := ⟨y0, y1, y2, y3, y4⟩
  replace hy := hy.below q4 (Nat.le_refl _)
  clear x0 x1 x2 x3 x4 y0 y1 y2 y3 y4 hgrow q4 q1
  obtain ⟨y0, y1, y2, y3, y4⟩ := hy
  have HOWN : Hid (w3.ownsRow w.heap.size 3 1 v' 1 ([x.block].map (Value.int .i64))) := hown'
  clear hown'
  go_wp2_with fail
  rw [rounds_succ]
  go_wp2_with fail
  rw [rounds_succ]
  go_wp2_with fail
  go_ret
  exact ⟨v', rfl, HOWN.out.alloc _, q3.alloc q3.size _⟩
theorem Try.infoInts10 : (Try.prog.info? 27).map (fun i => (i.zero, i.size, i.bytes)) = some (some (.slice none 0 0), 1, 24) := by kernel_rfl
set_option maxHeartbeats 3200000 in
/-- One logical block, two blocks in order, of which the second stands. -/
theorem stale_two (a : Option Addr) (cap : Nat) (x y : Fnd) (w : World) (hr : FRow w a 2 cap [x, y]) (hof : ofLeb ((0 : Nat) : Int) [x, y] = [x, y]) (h : ¬ cmpF cmpI y x < 0) (hst : standsL [x, y] = y.block) (hne : x.block ≠ y.block) :
    Calls Try.prog 6 #[.int .i64 1, .slice a 2 cap] w fun e w' => ∃ g c cp, e = .returned (.tuple #[.slice (some ⟨g, 0, none⟩) 1 1, .int .i64 0]) ∧ w'.cell? ⟨g, 0, none⟩ = some (.slice (some ⟨c, 0, none⟩) 1 cp) ∧ w'.cell? ⟨c, 0, none⟩ = some (.int .i64 x.block) ∧ Below w.heap.size w w' := by
  obtain ⟨iq, hiq, hiq'⟩ : ∃ i, Try.prog.info? 27 = some i ∧ (i.zero, i.size, i.bytes) = (some (.slice none 0 0), 1, 24) := by
    have := Try.infoInts10
    rw [Option.map_eq_some_iff] at this
    exact this
  simp only [Prod.mk.injEq] at hiq'
  obtain ⟨hiq0, hiq1, hiq2⟩ := hiq'
  have hlb : lebsB 1 = true := by decide
  go_enter Try.func6, Try.ntmps6
  go_wp2_with fail
  refine (attMayBe_any 1 _).mono ?_
  rintro e w' ⟨rfl, rfl⟩
  rw [hlb]
  go_wp2_with (at_make; refine wpList_make_full _ rfl _ _ 31 rfl w.heap.size 27 iq (.slice none 0 0) 1 Try.underlying31 hiq hiq0 hiq1 _ _ _ _ 1 rfl rfl rfl rfl (by rw [hiq2]; omega) (by unfold maxLen; omega) (Nat.le_refl _) ?_; intro w1 hown1 hgrow1)
  have q1 : Below w.heap.size w w1 := (Below.refl _ _).grown hgrow1 (Nat.le_refl _) (by simp)
  clear hgrow1
  have hb0 := heap_of_owns hown1
  have hg0 := (owns_lt hown1 rfl).2
  clear hown1
  refine (rows_any 1 (by omega) a 2 cap [x, y] w1 (hr.below q1 (Nat.le_refl _)) (by omega)).mono ?_
  rintro e w2 ⟨rfl, q2, vs, hR⟩
  obtain ⟨a2, cap2, hv, r2⟩ := hR.row 0 (by omega)
  have hc2 := (hR.cell 0).trans hv
  simp only [hof, List.length_cons, List.length_nil] at r2 hc2
  replace hb0 := (q2.block _ hg0).trans hb0
  have q3 := btrans q1 q2
  obtain ⟨b, off, rfl, hbb, hcc⟩ := r2.hcell (by omega)
  have fx := hcc 0 (by omega)
  have fy := hcc 1 (by omega)
  simp only [Nat.zero_mul, Nat.add_zero, Nat.one_mul, List.getElem?_cons_zero, List.getElem?_cons_succ, Option.getD_some] at fx fy
  have hcap := r2.hcap
  have hmax := r2.hmax
  have hgw : w.heap.size < w2.heap.size := Nat.lt_of_lt_of_le hg0 q2.size
  clear hr hof hcc r2 hv hR q1 q2 hg0
  generalize w1.heap.size = g1 at *
  go_wp2_with fail
  refine wp_loop_rounds 2 ?_
  rw [rounds_succ]
  go_wp2_with fail
  refine (by_any 18 _).mono ?_
  rintro e w3 ⟨rfl, q4, hb⟩
  have q5 := btrans q3 q4
  replace fx := fx.below q4 (Nat.le_refl _)
  replace fy := fy.below q4 (Nat.le_refl _)
  replace hb0 := (q4.block _ hgw).trans hb0
  replace hbb := Nat.lt_of_lt_of_le hbb q4.size
  replace hgw := Nat.lt_of_lt_of_le hgw q4.size
  clear q3 hc2
  have hbx : w2.heap.size < w3.heap.size := lt_of_cell hb
  generalize w2.heap.size = bx at *
  go_wp2_with fail
  refine (others_two bx b off cap2 x y w3 hb hbb fx fy (by omega) ⟨by omega, hmax⟩ hst hne).mono ?_
  rintro e w4 ⟨v, rfl, hown, q6⟩
  replace hb0 := (q6.block _ hgw).trans hb0
  obtain ⟨a4, cap4, rfl, r4⟩ := row_of_owns hown
  obtain ⟨c, o4, e4, hc4, hcell4⟩ := r4.hcell (by omega)
  obtain ⟨c', hge, e5⟩ := owns_head hown (by omega)
  rw [e4] at e5
  cases e5
  subst e4
  have hci := hcell4 0 (by omega)
  simp only [Nat.add_zero, List.getElem?_cons_zero, Option.getD_some] at hci
  have q7 := btrans q5 q6
  have hcw : c ≠ w.heap.size := by omega
  clear hown r4 hcell4 fx fy hb hbb q5 q6 hbx
  have hb1 : w4.cell? ⟨w.heap.size, 0, none⟩ = some (.slice none 0 0) := by simp [World.cell?, hb0, madeCells, Value.cells]
  have hf1 : w4.frozen? ⟨w.heap.size, 0, none⟩ = false := by simp [World.frozen?, hb0]
  have Q7 : Hid _ := q7
  have HB0 : Hid _ := hb0
  clear hb0 q7
  generalize hW : w.heap.size = W at *
  go_wp2_with fail
  rw [rounds_succ]
  go_wp2_with fail
  go_ret2
  have hh := setCell_block HB0.out 0 (.slice (some ⟨c, 0, none⟩) 1 cap4)
  refine ⟨W, c, cap4, rfl, ?_, ?_, by rw [hW]; exact Q7.out.setCell (p := ⟨W, 0, none⟩) (Nat.le_refl _) _⟩
  · simp [World.cell?, hh, madeCells, Value.cells]
  · rw [World.cell?_of_block (w := w4) (Below.heap_setCell w4 ⟨W, 0, none⟩ _ c hcw)]; exact hci
set_option maxHeartbeats 3200000 in
theorem lists_one (a b g h c1 c2 : Nat) (x : Int) (w : World) (h1 : w.cell? ⟨a, 0, none⟩ = some (.slice (some ⟨g, 0, none⟩) 1 c1)) (h2 : w.cell? ⟨b, 0, none⟩ = some (.slice (some ⟨h, 0, none⟩) 1 c2)) (h3 : w.cell? ⟨g, 0, none⟩ = some (.int .i64 x)) (h4 : w.cell? ⟨h, 0, none⟩ = some (.int .i64 x)) (k1 k2 : Nat) :
    Calls Try.prog 10 #[.slice (some ⟨a, 0, none⟩) 1 k1, .slice (some ⟨b, 0, none⟩) 1 k2] w fun e w' => e = .returned (.bool true) ∧ Below w.heap.size w w' := by
  go_enter Try.func10, Try.ntmps10
  go_wp2_with fail
  refine wp_loop_rounds 2 ?_
  rw [rounds_succ]
  go_wp2_with fail
  go_quiet (fail)
  go_wp2_with fail
  refine wp_loop_rounds 2 ?_
  rw [rounds_succ]
  go_wp2_with fail
  go_quiet (fail)
  go_wp2_with fail
  rw [rounds_succ]
  go_wp2_with fail
  rw [rounds_succ]
  go_wp2_with fail
  go_ret
  exact ⟨rfl, by first | exact (Below.refl _ _).drewN _ | exact ⟨rfl, rfl, rfl, Nat.le_refl _, fun _ _ => rfl⟩⟩
end Go.Proofs.Ytabiipibckmalaa
