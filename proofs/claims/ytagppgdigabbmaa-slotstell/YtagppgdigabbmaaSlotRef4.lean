/-
  The document's answer for layer 22 (casemateref22): Parse.
-/
import Derived.Test.YtagppgdigabbmaaSlotRef3
import Derived.Lib.Strings
namespace Go.Proofs.Ytagppgdigabbmaa.N
open Go.RowKit
set_option linter.unusedVariables false
set_option maxRecDepth 8192

theorem str_beq22 {x y : List Int} (hx : IsB x) (hy : IsB y) : ((strOfNums x).toList == (strOfNums y).toList) = decide (x = y) := by
  rw [Lib.toList_data, Lib.toList_data]
  by_cases e : x = y
  · subst e; simp
  · rw [decide_eq_false e, beq_eq_false_iff_ne]
    exact fun h => e (strOfNums_inj hx hy (WideShapes.bytes_inj h))
set_option maxHeartbeats 1600000 in
theorem refParse_len {w : World} {a : Option Addr} {n c : Nat} {x : List Int} (hr : Row .u8 w a n c x) (h : n ≠ 9) : Calls Try.prog 24 #[.slice a n c] w fun e w' => e = .returned (.tuple #[.agg #[.int .i64 0, .int .i64 0, .bool false, .int .i64 0, .bool false], .bool false]) ∧ Below w.heap.size w w' := by
  have hmx := hr.hmax
  have hcp := hr.hcap
  unfold maxLen at hmx
  have hne : ((n : Int) != 9) = true := by simp; omega
  go_enter Try.func24, Try.ntmps24
  go_wp2_with fail
  exact bodyPost_ret (v := .tuple #[.agg #[.int .i64 0, .int .i64 0, .bool false, .int .i64 0, .bool false], .bool false]) (by simp [results, Try.results24, go_sem]) rfl ⟨rfl, below_two w _ _⟩
set_option maxHeartbeats 3200000 in
theorem refParse_nine {w : World} {b off c : Nat} (z : List Int) (x0 x1 x2 x3 f t0 g0 t1 g1 : Int) (hz : z = [x0, x1, x2, x3, f, t0, g0, t1, g1]) (hr : Row .u8 w (some ⟨b, off, none⟩) 9 c z) (hx : IsB z) (s : Sl) (hs : s = ⟨f, ⟨t0, g0 == 1⟩, ⟨t1, g1 == 1⟩⟩) :
    Calls Try.prog 24 #[.slice (some ⟨b, off, none⟩) 9 c] w fun e w' => (maySl s = true → bytesSl s = z → e = .returned (.tuple #[.agg #[.int .i64 s.f, .int .i64 s.a.t, .bool s.a.g, .int .i64 s.b.t, .bool s.b.g], .bool true])) ∧ ((maySl s = true → bytesSl s ≠ z) → e = .returned (.tuple #[.agg #[.int .i64 0, .int .i64 0, .bool false, .int .i64 0, .bool false], .bool false])) ∧ Below w.heap.size w w' := by
  have hmx := hr.hmax
  have hcp := hr.hcap
  unfold maxLen at hmx
  have HX : Hid (IsB z) := hx
  have HR : Hid (Row .u8 w (some ⟨b, off, none⟩) 9 c z) := hr
  obtain ⟨b', off', hbo, hbs, hcell⟩ := hr.hcell (by omega)
  simp only [Option.some.injEq, Addr.mk.injEq, and_true] at hbo
  obtain ⟨rfl, rfl⟩ := hbo
  have d4 : w.cell? ⟨b, off + 4, none⟩ = some (.int .u8 f) := by have := hcell 4 (by decide); rw [hz] at this; exact this
  have HT0 : Hid (∀ w', Below w.heap.size w w' → w'.cell? ⟨b, off + 5, none⟩ = some (.int .u8 t0)) := fun w' q => by have := hcell 5 (by decide); rw [hz] at this; rw [q.cell hbs]; exact this
  have HG0 : Hid (∀ w', Below w.heap.size w w' → w'.cell? ⟨b, off + 6, none⟩ = some (.int .u8 g0)) := fun w' q => by have := hcell 6 (by decide); rw [hz] at this; rw [q.cell hbs]; exact this
  have HT1 : Hid (∀ w', Below w.heap.size w w' → w'.cell? ⟨b, off + 7, none⟩ = some (.int .u8 t1)) := fun w' q => by have := hcell 7 (by decide); rw [hz] at this; rw [q.cell hbs]; exact this
  have HG1 : Hid (∀ w', Below w.heap.size w w' → w'.cell? ⟨b, off + 8, none⟩ = some (.int .u8 g1)) := fun w' q => by have := hcell 8 (by decide); rw [hz] at this; rw [q.cell hbs]; exact this
  rw [hz] at hx
  have bf := hx.idx 4
  have bt0 := hx.idx 5
  have bg0 := hx.idx 6
  have bt1 := hx.idx 7
  have bg1 := hx.idx 8
  simp only [List.getElem?_cons_succ, List.getElem?_cons_zero, Option.getD_some] at bf bt0 bg0 bt1 bg1
  have HS : Hid (s = ⟨f, ⟨t0, g0 == 1⟩, ⟨t1, g1 == 1⟩⟩) := hs
  clear hcell hr hx hz hs
  have W0 : IntKind.i64.wrap 0 = 0 := by decide
  have W2 : IntKind.i64.wrap 2 = 2 := by decide
  have W5 : IntKind.i64.wrap 5 = 5 := by decide
  have W6 : IntKind.i64.wrap 6 = 6 := by decide
  have W7 : IntKind.i64.wrap 7 = 7 := by decide
  have W8 : IntKind.i64.wrap 8 = 8 := by decide
  have WT0 : IntKind.i64.wrap t0 = t0 := by rw [IntKind.wrap_i64]; omega
  have WT1 : IntKind.i64.wrap t1 = t1 := by rw [IntKind.wrap_i64]; omega
  have V := ((Vars.start w).new 26 #[.int .i64 0, .int .i64 0, .bool false, .int .i64 0, .bool false]).new 26 #[.int .i64 f, .int .i64 0, .bool false, .int .i64 0, .bool false]
  rw [show ∀ o, (w.alloc o).heap.size = w.heap.size + 1 from fun o => by simp] at V
  go_enter Try.func24, Try.ntmps24
  go_wp2_with fail
  generalize (w.alloc (.cells #[.int .i64 0, .int .i64 0, .bool false, .int .i64 0, .bool false] 26)).alloc (.cells #[.int .i64 f, .int .i64 0, .bool false, .int .i64 0, .bool false] 26) = w1 at *
  generalize hg4 : w.heap.size + 1 = g4 at *
  clear d4 hg4
  go_loopw [5] (fun y wr => (y = .int .i64 0 ∧ Vars w wr [⟨g4, 26, #[.int .i64 f, .int .i64 0, .bool false, .int .i64 0, .bool false]⟩, ⟨w.heap.size, 26, #[.int .i64 0, .int .i64 0, .bool false, .int .i64 0, .bool false]⟩]) ∨ (y = .int .i64 1 ∧ Vars w wr [⟨g4, 26, #[.int .i64 f, .int .i64 t0, .bool (g0 == 1), .int .i64 0, .bool false]⟩, ⟨w.heap.size, 26, #[.int .i64 0, .int .i64 0, .bool false, .int .i64 0, .bool false]⟩]) ∨ (y = .int .i64 2 ∧ Vars w wr [⟨g4, 26, #[.int .i64 f, .int .i64 t0, .bool (g0 == 1), .int .i64 t1, .bool (g1 == 1)]⟩, ⟨w.heap.size, 26, #[.int .i64 0, .int .i64 0, .bool false, .int .i64 0, .bool false]⟩])) (fun y _ => 2 - (RowKit.intOf y).toNat)
  case atStart => exact .inl ⟨rfl, V⟩
  case round =>
    clear V
    rcases hrel with ⟨rfl, V⟩ | ⟨rfl, V⟩ | ⟨rfl, V⟩
    · go_wp2_with fail
      have V := V.drew
      refine av_open (fun w' => Below w.heap.size w w') (by kernel_rfl) ?_
      generalize wr.drew = wd at *
      refine held_reads (rs := [0, 1, 2, 3, 4, 5, 6, 7, 8, 9, 10, 11, 12, 13, 14, 15, 16, 17]) (fuel := 1) (by kernel_rfl) (fun c d v a w h => by cases d <;> exact h) (by kernel_rfl) V.bel (fun K hK => ?_)
      go_simp
      refine calm_move _ rfl (by rfl) rfl ?_
      go_simp
      refine calm_move _ rfl (by rfl) rfl ?_
      go_simp
      refine calm_move _ rfl (by rfl) rfl ?_
      go_simp
      refine calm_do (.int .i64 0) rfl (by rfl) (fun w' hw' => ?_) ?_
      · go_simp
      go_simp
      refine calm_do (.int .i64 5) rfl (by rfl) (fun w' hw' => ?_) ?_
      · go_simp
      go_simp
      refine calm_do (.pointer (some ⟨b, off + 5, none⟩)) rfl (by rfl) (fun w' hw' => ?_) ?_
      · go_simp
      go_simp
      refine calm_do (.int .u8 t0) rfl (by rfl) (fun w' hw' => ?_) ?_
      · have dd := HT0.out w' hw'
        go_simp
      go_simp
      refine calm_do (.int .i64 t0) rfl (by rfl) (fun w' hw' => ?_) ?_
      · go_simp
      go_simp
      refine calm_move _ rfl (by rfl) rfl ?_
      go_simp
      refine calm_move _ rfl (by rfl) rfl ?_
      go_simp
      refine calm_do (.int .i64 0) rfl (by rfl) (fun w' hw' => ?_) ?_
      · go_simp
      go_simp
      refine calm_do (.int .i64 6) rfl (by rfl) (fun w' hw' => ?_) ?_
      · go_simp
      go_simp
      refine calm_do (.pointer (some ⟨b, off + 6, none⟩)) rfl (by rfl) (fun w' hw' => ?_) ?_
      · go_simp
      go_simp
      refine calm_do (.int .u8 g0) rfl (by rfl) (fun w' hw' => ?_) ?_
      · have dd := HG0.out w' hw'
        go_simp
      go_simp
      refine calm_do (.bool (g0 == 1)) rfl (by rfl) (fun w' hw' => ?_) ?_
      · go_simp
      go_simp
      refine calm_do (.agg #[.int .i64 t0, .bool ((g0 == 1))]) rfl (by rfl) (fun w' hw' => ?_) ?_
      · go_simp
      go_simp
      refine calm_do (.pointer (some ⟨g4, 1, none⟩)) rfl (by rfl) (fun w' hw' => ?_) ?_
      · go_simp
      go_simp
      refine calm_do (.pointer (some ⟨g4, 1, none⟩)) rfl (by rfl) (fun w' hw' => ?_) ?_
      · go_simp
      go_simp
      refine calm_nil (hK.out _ ?_)
      clear hK K
      obtain ⟨c1, c2, e1, e2⟩ : wd.cell? ⟨g4, 1, none⟩ = some (.int .i64 0) ∧ wd.cell? ⟨g4, 2, none⟩ = some (.bool false) ∧ wd.frozen? ⟨g4, 1, none⟩ = false ∧ wd.frozen? ⟨g4, 2, none⟩ = false := ⟨man_c (V.at 0 rfl) 1, man_c (V.at 0 rfl) 2, arr_unfrozen (V.at 0 rfl) 1, arr_unfrozen (V.at 0 rfl) 2⟩
      have V' : Vars w ((wd.setCell ⟨g4, 1, none⟩ (.int .i64 t0)).setCell ⟨g4, 2, none⟩ (.bool (g0 == 1))) [⟨g4, 26, #[.int .i64 f, .int .i64 t0, .bool (g0 == 1), .int .i64 0, .bool false]⟩, ⟨w.heap.size, 26, #[.int .i64 0, .int .i64 0, .bool false, .int .i64 0, .bool false]⟩] := (V.put 0 rfl 1 (.int .i64 t0)).put 0 rfl 2 (.bool (g0 == 1))
      refine av_op (i := 18) (fuel := 0) (by kernel_rfl) rfl (by rfl) (fun K hK => ?_)
      go_simp
      refine hK _ _ V'.bel ?_
      clear hK K c1 c2 e1 e2 V
      generalize (wd.setCell ⟨g4, 1, none⟩ (.int .i64 t0)).setCell ⟨g4, 2, none⟩ (.bool (g0 == 1)) = w2 at *
      refine wpAnyH_done (by kernel_rfl) ?_ _
      go_wp2_with fail
      go_roundw
      case rel => exact .inr (.inl (by first | exact ⟨rfl, V'⟩ | exact ⟨trivial, V'⟩))
      case measure => simp [RowKit.intOf]
    · go_wp2_with fail
      have V := V.drew
      refine av_open (fun w' => Below w.heap.size w w') (by kernel_rfl) ?_
      generalize wr.drew = wd at *
      refine held_reads (rs := [0, 1, 2, 3, 4, 5, 6, 7, 8, 9, 10, 11, 12, 13, 14, 15, 16, 17]) (fuel := 1) (by kernel_rfl) (fun c d v a w h => by cases d <;> exact h) (by kernel_rfl) V.bel (fun K hK => ?_)
      go_simp
      refine calm_move _ rfl (by rfl) rfl ?_
      go_simp
      refine calm_move _ rfl (by rfl) rfl ?_
      go_simp
      refine calm_move _ rfl (by rfl) rfl ?_
      go_simp
      refine calm_do (.int .i64 2) rfl (by rfl) (fun w' hw' => ?_) ?_
      · go_simp
      go_simp
      refine calm_do (.int .i64 7) rfl (by rfl) (fun w' hw' => ?_) ?_
      · go_simp
      go_simp
      refine calm_do (.pointer (some ⟨b, off + 7, none⟩)) rfl (by rfl) (fun w' hw' => ?_) ?_
      · go_simp
      go_simp
      refine calm_do (.int .u8 t1) rfl (by rfl) (fun w' hw' => ?_) ?_
      · have dd := HT1.out w' hw'
        go_simp
      go_simp
      refine calm_do (.int .i64 t1) rfl (by rfl) (fun w' hw' => ?_) ?_
      · go_simp
      go_simp
      refine calm_move _ rfl (by rfl) rfl ?_
      go_simp
      refine calm_move _ rfl (by rfl) rfl ?_
      go_simp
      refine calm_do (.int .i64 2) rfl (by rfl) (fun w' hw' => ?_) ?_
      · go_simp
      go_simp
      refine calm_do (.int .i64 8) rfl (by rfl) (fun w' hw' => ?_) ?_
      · go_simp
      go_simp
      refine calm_do (.pointer (some ⟨b, off + 8, none⟩)) rfl (by rfl) (fun w' hw' => ?_) ?_
      · go_simp
      go_simp
      refine calm_do (.int .u8 g1) rfl (by rfl) (fun w' hw' => ?_) ?_
      · have dd := HG1.out w' hw'
        go_simp
      go_simp
      refine calm_do (.bool (g1 == 1)) rfl (by rfl) (fun w' hw' => ?_) ?_
      · go_simp
      go_simp
      refine calm_do (.agg #[.int .i64 t1, .bool ((g1 == 1))]) rfl (by rfl) (fun w' hw' => ?_) ?_
      · go_simp
      go_simp
      refine calm_do (.pointer (some ⟨g4, 1, none⟩)) rfl (by rfl) (fun w' hw' => ?_) ?_
      · go_simp
      go_simp
      refine calm_do (.pointer (some ⟨g4, 3, none⟩)) rfl (by rfl) (fun w' hw' => ?_) ?_
      · go_simp
      go_simp
      refine calm_nil (hK.out _ ?_)
      clear hK K
      obtain ⟨c1, c2, e1, e2⟩ : wd.cell? ⟨g4, 3, none⟩ = some (.int .i64 0) ∧ wd.cell? ⟨g4, 4, none⟩ = some (.bool false) ∧ wd.frozen? ⟨g4, 3, none⟩ = false ∧ wd.frozen? ⟨g4, 4, none⟩ = false := ⟨man_c (V.at 0 rfl) 3, man_c (V.at 0 rfl) 4, arr_unfrozen (V.at 0 rfl) 3, arr_unfrozen (V.at 0 rfl) 4⟩
      have V' : Vars w ((wd.setCell ⟨g4, 3, none⟩ (.int .i64 t1)).setCell ⟨g4, 4, none⟩ (.bool (g1 == 1))) [⟨g4, 26, #[.int .i64 f, .int .i64 t0, .bool (g0 == 1), .int .i64 t1, .bool (g1 == 1)]⟩, ⟨w.heap.size, 26, #[.int .i64 0, .int .i64 0, .bool false, .int .i64 0, .bool false]⟩] := (V.put 0 rfl 3 (.int .i64 t1)).put 0 rfl 4 (.bool (g1 == 1))
      refine av_op (i := 18) (fuel := 0) (by kernel_rfl) rfl (by rfl) (fun K hK => ?_)
      go_simp
      refine hK _ _ V'.bel ?_
      clear hK K c1 c2 e1 e2 V
      generalize (wd.setCell ⟨g4, 3, none⟩ (.int .i64 t1)).setCell ⟨g4, 4, none⟩ (.bool (g1 == 1)) = w2 at *
      refine wpAnyH_done (by kernel_rfl) ?_ _
      go_wp2_with fail
      go_roundw
      case rel => exact .inr (.inr (by first | exact ⟨rfl, V'⟩ | exact ⟨trivial, V'⟩))
      case measure => simp [RowKit.intOf]
    · have hs := HS.out
      replace V : Vars w wr [⟨g4, 26, #[.int .i64 s.f, .int .i64 s.a.t, .bool s.a.g, .int .i64 s.b.t, .bool s.b.g]⟩, ⟨w.heap.size, 26, #[.int .i64 0, .int .i64 0, .bool false, .int .i64 0, .bool false]⟩] := by rw [hs]; exact V
      clear hs HS HT0 HT1 HG0 HG1 bf bt0 bt1 bg0 bg1
      go_wp2_with fail
      replace V := V.drew
      refine av_open (Since wr.drew) (by kernel_rfl) ?_
      refine held_reads (rs := [0]) (fuel := 10) (by kernel_rfl) (fun c d v a w h => by cases d <;> exact h) (by kernel_rfl) (Since.refl _) (fun K hK => ?_)
      refine calm_do (.agg #[.int .i64 s.f, .int .i64 s.a.t, .bool s.a.g, .int .i64 s.b.t, .bool s.b.g]) rfl (by rfl) (fun w' hw' => exec_loadT (V.call hw') 0 rfl _ rfl rfl Try.underlying26 rfl Try.szSl rfl) ?_
      go_simp
      refine calm_nil (hK.out _ ?_)
      clear hK K
      refine held_call (i := 1) (fuel := 9) (by kernel_rfl) rfl (by rfl) (fun K hK => ?_)
      go_simp
      refine (refMay22 s _).mono ?_
      rintro e w3 ⟨rfl, q3⟩
      refine hK _ _ q3 ?_
      have V3 := V.call q3
      clear hK K V q3
      cases hm : maySl s
      · refine held_reads (rs := [2, 3, 4, 5, 6, 7, 8, 9, 10]) (fuel := 0) (by kernel_rfl) (fun c d v a w h => by cases d <;> exact h) (by kernel_rfl) (Since.refl _) (fun K hK => ?_)
        go_simp
        refine calm_do (.bool true) rfl (by rfl) (fun w' hw' => ?_) ?_
        · go_simp
        go_simp
        refine calm_move _ rfl (by rfl) rfl ?_
        go_simp
        iterate 6 (refine calm_skip rfl (by rfl) ?_; go_simp)
        refine calm_do (.bool true) rfl (by rfl) (fun w' hw' => ?_) ?_
        · go_simp
        go_simp
        refine calm_nil (hK.out _ ?_)
        clear hK K
        refine wpAnyH_done (by kernel_rfl) ?_ _
        go_wp2_with (refine wpList_storeV V3 1 rfl _ (.tmp 48) rfl rfl rfl #[.int .i64 0, .int .i64 0, .bool false, .int .i64 0, .bool false] rfl rfl Try.szSl rfl rfl (slX_one _ _ _ _ _) ?_; intro w5 V5)
        exact bodyPost_ret (resT2 rfl _ V5 1 rfl rfl Try.underlying26 Try.szSl rfl) rfl ⟨fun h => absurd h (by simp [hm]), fun _ => rfl, V5.bel⟩
      · refine held_reads (rs := [2, 3, 4, 7, 8]) (fuel := 4) (by kernel_rfl) (fun c d v a w h => by cases d <;> exact h) (by kernel_rfl) (Since.refl _) (fun K hK => ?_)
        go_simp
        refine calm_do (.bool false) rfl (by rfl) (fun w' hw' => ?_) ?_
        · go_simp
        go_simp
        refine calm_move _ rfl (by rfl) rfl ?_
        go_simp
        refine calm_do (.agg #[.int .i64 s.f, .int .i64 s.a.t, .bool s.a.g, .int .i64 s.b.t, .bool s.b.g]) rfl (by rfl) (fun w' hw' => exec_loadT (V3.call hw') 0 rfl _ rfl rfl Try.underlying26 rfl Try.szSl rfl) ?_
        go_simp
        refine calm_move _ rfl (by rfl) rfl ?_
        go_simp
        refine calm_do (.string (strOfNums z)) rfl (by rfl) (fun w' hw' => ?_) ?_
        · have kc1 := conv_row (P := Try.prog) Try.underlying29 Try.underlying5 Try.underlying9 (HR.out.below (V3.call hw').bel (Nat.le_refl _))
          go_simp
        go_simp
        refine calm_nil (hK.out _ ?_)
        clear hK K
        refine held_call (i := 5) (fuel := 3) (by kernel_rfl) rfl (by rfl) (fun K hK => ?_)
        go_simp
        refine (refBytes22 s _ hm).mono ?_
        rintro e w4 ⟨u, rfl, own4, q4⟩
        obtain ⟨a4, c4, rfl, r4⟩ := row_of_owns own4
        refine hK _ _ q4 ?_
        have V4 := V3.call q4
        clear hK K V3 q4 own4
        have HE : Hid (((strOfNums (bytesSl s)).toList == (strOfNums z).toList) = decide (bytesSl s = z)) := str_beq22 (bytes_ok hm) HX.out
        obtain ⟨r, hr0⟩ : ∃ r, r = decide (bytesSl s = z) := ⟨_, rfl⟩
        have HB : Hid (decide (bytesSl s = z) = r) := hr0.symm
        clear hr0
        refine held_reads (rs := [6, 9, 10]) (fuel := 0) (by kernel_rfl) (fun c d v a w h => by cases d <;> exact h) (by kernel_rfl) (Since.refl _) (fun K hK => ?_)
        go_simp
        refine calm_do (.string (strOfNums (bytesSl s))) rfl (by rfl) (fun w' hw' => ?_) ?_
        · have kc1 := conv_row (P := Try.prog) Try.underlying29 Try.underlying5 Try.underlying9 (r4.below hw' (Nat.le_refl _))
          go_simp
        go_simp
        refine calm_do (.bool !r) rfl (by rfl) (fun w' hw' => ?_) ?_
        · go_simp
          simp [HE.out, HB.out]
        go_simp
        refine calm_do (.bool !r) rfl (by rfl) (fun w' hw' => ?_) ?_
        · go_simp
        go_simp
        refine calm_nil (hK.out _ ?_)
        clear hK K r4
        refine wpAnyH_done (by kernel_rfl) ?_ _
        cases r
        · have hne := of_decide_eq_false HB.out
          go_wp2_with (refine wpList_storeV V4 1 rfl _ (.tmp 48) rfl rfl rfl #[.int .i64 0, .int .i64 0, .bool false, .int .i64 0, .bool false] rfl rfl Try.szSl rfl rfl (slX_one _ _ _ _ _) ?_; intro w5 V5)
          exact bodyPost_ret (resT2 rfl _ V5 1 rfl rfl Try.underlying26 Try.szSl rfl) rfl ⟨fun _ h => absurd h hne, fun _ => rfl, V5.bel⟩
        · have heq := of_decide_eq_true HB.out
          have HEQ : Hid (bytesSl s = z) := heq
          clear heq
          go_wp2_with (first
            | (refine wpList_exec rfl (exec_loadT V4 0 rfl _ rfl rfl Try.underlying26 rfl Try.szSl rfl) ?_)
            | (refine wpList_storeV V4 1 rfl _ (.tmp 49) rfl rfl rfl #[.int .i64 s.f, .int .i64 s.a.t, .bool s.a.g, .int .i64 s.b.t, .bool s.b.g] rfl rfl Try.szSl rfl rfl (slX_one _ _ _ _ _) ?_; intro w5 V5))
          exact bodyPost_ret (resT2 rfl _ V5 1 rfl rfl Try.underlying26 Try.szSl rfl) rfl ⟨fun _ _ => rfl, fun h => absurd HEQ.out (h hm), V5.bel⟩
end Go.Proofs.Ytagppgdigabbmaa.N
