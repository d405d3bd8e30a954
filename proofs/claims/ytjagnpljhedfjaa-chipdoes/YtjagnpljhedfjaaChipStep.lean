/-
  Layer 7's laws: step, one call of both chips. (Written by tools/gen/chip_step.py.)
-/
import Derived.Test.YtjagnpljhedfjaaChipBoth
import Derived.Deep.LoopGhost
import Derived.Deep.CutRange
import Derived.Deep.CutBlock
namespace Go.Proofs.Ytjagnpljhedfjaa
open Go Go.RowKit Go.Maps
set_option linter.unusedVariables false
set_option maxRecDepth 8192

/-- A call's six cells, by their places. -/
def OpSix (w : World) (og : Nat) (o : OpV) : Prop := w.cell? ⟨og, 0, none⟩ = some (.int .i64 o.kind) ∧ w.cell? ⟨og, 1, none⟩ = some (.int .i64 o.block) ∧ w.cell? ⟨og, 2, none⟩ = some (.int .i64 o.page) ∧ w.cell? ⟨og, 3, none⟩ = some (.int .i64 o.n) ∧ w.cell? ⟨og, 4, none⟩ = some (.slice o.ra o.rl o.rc) ∧ w.cell? ⟨og, 5, none⟩ = some (.slice o.pa o.pl o.pc)
theorem OpSix.new (w : World) (o : OpV) : OpSix (w.alloc (.cells #[.int .i64 o.kind, .int .i64 o.block, .int .i64 o.page, .int .i64 o.n, .slice o.ra o.rl o.rc, .slice o.pa o.pl o.pc] 40)) w.heap.size o := by
  unfold OpSix
  refine ⟨?_, ?_, ?_, ?_, ?_, ?_⟩ <;> (rw [World.cell?_alloc_at _ _ _ _ rfl]; rfl)
theorem OpSix.same {w w' : World} {og : Nat} {o : OpV} (h : OpSix w og o) (hb : w'.heap[og]? = w.heap[og]?) : OpSix w' og o := by
  obtain ⟨h0, h1, h2, h3, h4, h5⟩ := h
  exact ⟨(cell_same hb _).trans h0, (cell_same hb _).trans h1, (cell_same hb _).trans h2, (cell_same hb _).trans h3, (cell_same hb _).trans h4, (cell_same hb _).trans h5⟩

set_option maxHeartbeats 12800000 in
set_option maxRecDepth 100000 in
theorem step7_any {W w : World} {G : Geo} {B : CB} {FC FR : Nat → Prop} {N : Nat} {R : RB} {S : CS} (h : Both W G B FC N R FR S S w) (o : OpV) (hok : OpOk W o) (hrl : o.rl ≤ 200) (hpl : o.pl ≤ 60) (hN : N < 900000) :
    Calls Try.prog 15 #[.pointer (some ⟨B.c, 0, none⟩), .pointer (some ⟨R.c, 0, none⟩), .agg #[.int .i64 o.kind, .int .i64 o.block, .int .i64 o.page, .int .i64 o.n, .slice o.ra o.rl o.rc, .slice o.pa o.pl o.pc]] w fun e w' =>
      e = .returned (.bool true) ∧ ∃ FC' FR' S', Both W G B FC' (N + 2) R FR' S' S' w' := by
  obtain ⟨i0, hi0, hz0, hz1, hz2⟩ := info_parts Try.info5
  have hbx0 := OpSix.new w o
  have q1 := below_one w (.cells #[.int .i64 o.kind, .int .i64 o.block, .int .i64 o.page, .int .i64 o.n, .slice o.ra o.rl o.rc, .slice o.pa o.pl o.pc] 40)
  have hog1 : w.heap.size < (w.alloc (.cells #[.int .i64 o.kind, .int .i64 o.block, .int .i64 o.page, .int .i64 o.n, .slice o.ra o.rl o.rc, .slice o.pa o.pl o.pc] 40)).heap.size := by simp
  have hogF : ¬ (FC w.heap.size ∨ FR w.heap.size) := fun hh => hh.elim (fun hf => by have := h.chip.fresh _ hf; omega) (fun hf => by have := h.ref.fresh _ hf; omega)
  have h1 := h.below q1
  clear h q1
  go_enter Try.func15, Try.ntmps15
  go_upto_region 1 with fail
  generalize w.alloc (.cells #[.int .i64 o.kind, .int .i64 o.block, .int .i64 o.page, .int .i64 o.n, .slice o.ra o.rl o.rc, .slice o.pa o.pl o.pc] 40) = w1 at *
  generalize w.heap.size = og at *
  have hr1 := hok.raw.below h1.bel (Nat.le_refl _)
  have hown0 := World.ownsRow_lit (base := w1.heap.size) (e := 5) (size := 1) w1 #[] 0 (Nat.le_refl _) (Nat.zero_le _) rfl
  have hr0 := hr1.below (below_one w1 (Obj.cells #[] 5)) (Nat.le_refl _)
  obtain ⟨x0, x1, x2, x3, x4, x5⟩ := id hbx0
  have y4 : (w1.alloc (Obj.cells #[] 5)).cell? ⟨og, 4, none⟩ = some (.slice o.ra o.rl o.rc) := (cell_same ((below_one w1 (Obj.cells #[] 5)).block og hog1) _).trans x4
  go_wp2_with (at_builtin; refine wpList_append_row _ rfl _ _ 38 rfl w1.heap.size 5 i0 (.int .u8 0) 1 Try.underlying38 hi0 hz0 hz1 hz2 rfl _ 0 [] rfl hown0 .u8 o.ra o.rl o.rc o.rz rfl hr0 ?c1 ?c2 ?c3 ?_)
  case c1 => first | omega | (unfold maxLen; omega)
  case c2 => omega
  intro v w2 hown1 hgrow1
  have q2 : Below w1.heap.size w1 w2 := (below_one w1 (Obj.cells #[] 5)).grown hgrow1 (by simp) (fun k hk => by simp [Value.ownBlock] at hk; omega)
  have hown1' : w2.ownsRow w1.heap.size 5 1 v o.rl (o.rz.map (Value.int .u8)) := by simpa using hown1
  have hlo := hown1'.lt
  obtain ⟨ao, co, rfl, ro⟩ := row_of_owns hown1'
  have h2 := h1.below q2
  have hso : Off (fun k => FC k ∨ FR k) .u8 w2 ao o.rl co o.rz := ⟨ro, fun h0 x hx hF => by
    have := (hlo x.block (by rw [hx]; rfl)).1
    rcases hF with hF | hF
    · have := h1.chip.fresh _ hF; omega
    · have := h1.ref.fresh _ hF; omega⟩
  have hsr : Off (fun k => FC k ∨ FR k) .u8 w2 o.ra o.rl o.rc o.rz := Off.of_old (hok.raw.below h2.bel (Nat.le_refl _)) (fun h0 x hx => hok.raw.lt h0 x hx) h2.low
  have hsp : Off (fun k => FC k ∨ FR k) .i64 w2 o.pa o.pl o.pc o.pz := Off.of_old (hok.places.below h2.bel (Nat.le_refl _)) (fun h0 x hx => hok.places.lt h0 x hx) h2.low
  have hog2 : og < w2.heap.size := Nat.lt_of_lt_of_le hog1 q2.size
  have hbx2 := hbx0.same (q2.block og hog1)
  clear hown1 hown1' hown0 hr0 hgrow1 hlo ro hr1 y4 h1 q2 hbx0 x0 x1 x2 x3 x4 x5 hog1
  have HO : Hid (∀ w', Turned (fun k => FC k ∨ FR k) w2 w' → OpSix w' og o) := fun w' hw' => hbx2.same (hw'.block og hog2 hogF)
  obtain ⟨x0, x1, x2, x3, x4, x5⟩ := id hbx2
  have hK := hok.kind
  have hB := hok.block
  have hPg := hok.page
  have hNn := hok.n
  have hZB := hok.rb
  have hPW := hok.pw
  clear hok
  generalize hkd : o.kind = kd at x0 hK ⊢
  have HKD : Hid (o.kind = kd) := hkd
  clear hkd
  go_upto_block 0 with fail
  go_cut [] from 18 to 167 (fun wx => ∃ FC' FR' S', Both W G B FC' (N + 2) R FR' S' S' wx ∧ OpSix wx og o)
  case first =>
    rcases (show kd = 0 ∨ kd = 1 ∨ kd = 3 ∨ kd = 5 ∨ kd = 6 ∨ kd = 7 ∨ kd = 8 ∨ kd = 9 ∨ kd = 10 ∨ kd = 11 ∨ (¬ kd = 0 ∧ ¬ kd = 1 ∧ ¬ kd = 3 ∧ ¬ kd = 5 ∧ ¬ kd = 6 ∧ ¬ kd = 7 ∧ ¬ kd = 8 ∧ ¬ kd = 9 ∧ ¬ kd = 10 ∧ ¬ kd = 11) by omega) with rfl | rfl | rfl | rfl | rfl | rfl | rfl | rfl | rfl | rfl | ⟨n0, n1, n3, n5, n6, n7, n8, n9, n10, n11⟩
    · go_wp2_with fail
      have hd := h2.below (Since.drew w2)
      clear x0 x1 x2 x3 x4 x5
      refine held_open (Turned (fun k => FC k ∨ FR k) w2) (by kernel_rfl) ?_
      refine held_reads (rs := [0, 1, 2, 3, 4, 5, 7, 8, 9, 10, 11, 12, 13]) (fuel := 12) (by kernel_rfl) (fun c d v a w h => by cases d <;> exact h) (by kernel_rfl) ((Turned.refl _ _).drew) (fun K hK => ?_)
      refine calm_move _ rfl (by rfl) rfl ?_
      go_simp
      refine calm_do (.pointer (some ⟨og, 1, none⟩)) rfl (by rfl) (fun w' hw' => ?_) ?_
      · skip
        go_simp
      go_simp
      refine calm_do (.int .i64 o.block) rfl (by rfl) (fun w' hw' => ?_) ?_
      · obtain ⟨x0, x1, x2, x3, x4, x5⟩ := HO.out w' hw'
        go_simp
      go_simp
      refine calm_do (.pointer (some ⟨og, 2, none⟩)) rfl (by rfl) (fun w' hw' => ?_) ?_
      · skip
        go_simp
      go_simp
      refine calm_do (.int .i64 o.page) rfl (by rfl) (fun w' hw' => ?_) ?_
      · obtain ⟨x0, x1, x2, x3, x4, x5⟩ := HO.out w' hw'
        go_simp
      go_simp
      refine calm_move _ rfl (by rfl) rfl ?_
      go_simp
      refine calm_move _ rfl (by rfl) rfl ?_
      go_simp
      refine calm_do (.pointer (some ⟨og, 1, none⟩)) rfl (by rfl) (fun w' hw' => ?_) ?_
      · skip
        go_simp
      go_simp
      refine calm_do (.int .i64 o.block) rfl (by rfl) (fun w' hw' => ?_) ?_
      · obtain ⟨x0, x1, x2, x3, x4, x5⟩ := HO.out w' hw'
        go_simp
      go_simp
      refine calm_do (.pointer (some ⟨og, 2, none⟩)) rfl (by rfl) (fun w' hw' => ?_) ?_
      · skip
        go_simp
      go_simp
      refine calm_do (.int .i64 o.page) rfl (by rfl) (fun w' hw' => ?_) ?_
      · obtain ⟨x0, x1, x2, x3, x4, x5⟩ := HO.out w' hw'
        go_simp
      go_simp
      refine calm_do (.pointer (some ⟨og, 4, none⟩)) rfl (by rfl) (fun w' hw' => ?_) ?_
      · skip
        go_simp
      go_simp
      refine calm_do (.slice o.ra o.rl o.rc) rfl (by rfl) (fun w' hw' => ?_) ?_
      · obtain ⟨x0, x1, x2, x3, x4, x5⟩ := HO.out w' hw'
        go_simp
      go_simp
      refine calm_nil (hK.out _ ?_)
      clear hK K
      refine held_op (i := 6) (fuel := 11) (by kernel_rfl) rfl (by rfl) (fun K hK => ?_)
      go_simp
      refine (chipProgram_any o.block o.page hB hPg _ _ _ _ _ hd.chip (hso.below (Since.drew w2)).row (fun h0 x hx hf => hso.off h0 x hx (.inl hf)) hZB (by omega)).mono ?_
      rintro e w3 ⟨rfl, d3⟩
      obtain ⟨FC3, h3, t3, f3⟩ := hd.doesC d3 (inb_doProgram hd.inb _ _ _)
      replace t3 : Turned (fun k => FC k ∨ FR k) w2 w3 := (Turned.refl (fun k => FC k ∨ FR k) w2).drew.trans t3
      refine hK _ _ t3 ?_
      clear hK K
      refine held_op (i := 14) (fuel := 10) (by kernel_rfl) rfl (by rfl) (fun K hK => ?_)
      go_simp
      have hr3 := hsr.step t3 f3
      refine (ref7Program_any o.block o.page _ _ _ _ _ h3.ref hr3.row (fun h0 x hx hf => hr3.off h0 x hx (.inr hf)) hZB).mono ?_
      rintro e w4 ⟨rfl, d4⟩
      obtain ⟨FR4, h4, t4, f4⟩ := h3.doesR d4
      have t5 : Turned (fun k => FC k ∨ FR k) w2 w4 := t3.andThen t4 f3
      have HR : Hid (∃ FC' FR' S', Both W G B FC' (N + 2) R FR' S' S' w4) := ⟨_, _, _, h4.mono (by omega)⟩
      refine hK _ _ t5 ?_
      clear hK K h4 h3 hd t4 t3 f3 f4 d3 d4
      refine held_reads (rs := [15, 16, 17, 18, 19, 20, 21, 22, 23, 24]) (fuel := 0) (by kernel_rfl) (fun c d v a w h => by cases d <;> exact h) (by kernel_rfl) (t5) (fun K hK => ?_)
      go_simp
      refine calm_do (.bool true) rfl (by rfl) (fun w' hw' => ?_) ?_
      · go_simp
      go_simp
      refine calm_move _ rfl (by rfl) rfl ?_
      go_simp
      refine calm_move _ rfl (by rfl) rfl ?_
      go_simp
      refine calm_do (.string (strOfNums o.rz)) rfl (by rfl) (fun w' hw' => ?_) ?_
      · have hcc := conv_row Try.underlying38 Try.underlying5 Try.underlying9 (hso.row.turned hw' hso.off)
        go_simp
      go_simp
      refine calm_do (.pointer (some ⟨og, 4, none⟩)) rfl (by rfl) (fun w' hw' => ?_) ?_
      · skip
        go_simp
      go_simp
      refine calm_do (.slice o.ra o.rl o.rc) rfl (by rfl) (fun w' hw' => ?_) ?_
      · obtain ⟨x0, x1, x2, x3, x4, x5⟩ := HO.out w' hw'
        go_simp
      go_simp
      refine calm_do (.string (strOfNums o.rz)) rfl (by rfl) (fun w' hw' => ?_) ?_
      · have hcc := conv_row Try.underlying38 Try.underlying5 Try.underlying9 (hsr.row.turned hw' hsr.off)
        go_simp
      go_simp
      refine calm_do (.bool true) rfl (by rfl) (fun w' hw' => ?_) ?_
      · go_simp
      go_simp
      refine calm_do (.bool true) rfl (by rfl) (fun w' hw' => ?_) ?_
      · go_simp
      go_simp
      refine calm_assign _ rfl (by rfl) rfl ?_
      go_simp
      refine calm_nil (hK.out _ ?_)
      clear hK K
      refine wpAnyH_done (by kernel_rfl) ?_ _
      go_wp2_with fail
      go_ret
      exact ⟨rfl, HR.out⟩
    · go_wp2_with fail
      have hd := h2.below (Since.drew w2)
      clear x0 x1 x2 x3 x4 x5
      refine held_open (Turned (fun k => FC k ∨ FR k) w2) (by kernel_rfl) ?_
      refine held_reads (rs := [0, 1, 2, 4, 5, 6]) (fuel := 4) (by kernel_rfl) (fun c d v a w h => by cases d <;> exact h) (by kernel_rfl) ((Turned.refl _ _).drew) (fun K hK => ?_)
      refine calm_move _ rfl (by rfl) rfl ?_
      go_simp
      refine calm_do (.pointer (some ⟨og, 1, none⟩)) rfl (by rfl) (fun w' hw' => ?_) ?_
      · skip
        go_simp
      go_simp
      refine calm_do (.int .i64 o.block) rfl (by rfl) (fun w' hw' => ?_) ?_
      · obtain ⟨x0, x1, x2, x3, x4, x5⟩ := HO.out w' hw'
        go_simp
      go_simp
      refine calm_move _ rfl (by rfl) rfl ?_
      go_simp
      refine calm_do (.pointer (some ⟨og, 1, none⟩)) rfl (by rfl) (fun w' hw' => ?_) ?_
      · skip
        go_simp
      go_simp
      refine calm_do (.int .i64 o.block) rfl (by rfl) (fun w' hw' => ?_) ?_
      · obtain ⟨x0, x1, x2, x3, x4, x5⟩ := HO.out w' hw'
        go_simp
      go_simp
      refine calm_nil (hK.out _ ?_)
      clear hK K
      refine held_op (i := 3) (fuel := 3) (by kernel_rfl) rfl (by rfl) (fun K hK => ?_)
      go_simp
      refine (chipErase_any o.block hB _ hd.chip).mono ?_
      rintro e w3 ⟨rfl, d3⟩
      obtain ⟨FC3, h3, t3, f3⟩ := hd.doesC d3 (inb_doErase hd.inb _)
      replace t3 : Turned (fun k => FC k ∨ FR k) w2 w3 := (Turned.refl (fun k => FC k ∨ FR k) w2).drew.trans t3
      refine hK _ _ t3 ?_
      clear hK K
      refine held_op (i := 7) (fuel := 2) (by kernel_rfl) rfl (by rfl) (fun K hK => ?_)
      go_simp
      refine (ref7Erase_any o.block _ h3.ref).mono ?_
      rintro e w4 ⟨rfl, d4⟩
      obtain ⟨FR4, h4, t4, f4⟩ := h3.doesR d4
      have t5 : Turned (fun k => FC k ∨ FR k) w2 w4 := t3.andThen t4 f3
      have HR : Hid (∃ FC' FR' S', Both W G B FC' (N + 2) R FR' S' S' w4) := ⟨_, _, _, h4.mono (by omega)⟩
      refine hK _ _ t5 ?_
      clear hK K h4 h3 hd t4 t3 f3 f4 d3 d4
      refine held_reads (rs := [8, 9]) (fuel := 0) (by kernel_rfl) (fun c d v a w h => by cases d <;> exact h) (by kernel_rfl) (t5) (fun K hK => ?_)
      go_simp
      refine calm_do (.bool true) rfl (by rfl) (fun w' hw' => ?_) ?_
      · go_simp
      go_simp
      refine calm_assign _ rfl (by rfl) rfl ?_
      go_simp
      refine calm_nil (hK.out _ ?_)
      clear hK K
      refine wpAnyH_done (by kernel_rfl) ?_ _
      go_wp2_with fail
      go_ret
      exact ⟨rfl, HR.out⟩
    · go_wp2_with fail
      have hd := h2.below (Since.drew w2)
      clear x0 x1 x2 x3 x4 x5
      refine held_open (Turned (fun k => FC k ∨ FR k) w2) (by kernel_rfl) ?_
      refine held_reads (rs := [0, 1, 2, 4, 5, 6]) (fuel := 4) (by kernel_rfl) (fun c d v a w h => by cases d <;> exact h) (by kernel_rfl) ((Turned.refl _ _).drew) (fun K hK => ?_)
      refine calm_move _ rfl (by rfl) rfl ?_
      go_simp
      refine calm_do (.pointer (some ⟨og, 1, none⟩)) rfl (by rfl) (fun w' hw' => ?_) ?_
      · skip
        go_simp
      go_simp
      refine calm_do (.int .i64 o.block) rfl (by rfl) (fun w' hw' => ?_) ?_
      · obtain ⟨x0, x1, x2, x3, x4, x5⟩ := HO.out w' hw'
        go_simp
      go_simp
      refine calm_move _ rfl (by rfl) rfl ?_
      go_simp
      refine calm_do (.pointer (some ⟨og, 1, none⟩)) rfl (by rfl) (fun w' hw' => ?_) ?_
      · skip
        go_simp
      go_simp
      refine calm_do (.int .i64 o.block) rfl (by rfl) (fun w' hw' => ?_) ?_
      · obtain ⟨x0, x1, x2, x3, x4, x5⟩ := HO.out w' hw'
        go_simp
      go_simp
      refine calm_nil (hK.out _ ?_)
      clear hK K
      refine held_op (i := 3) (fuel := 3) (by kernel_rfl) rfl (by rfl) (fun K hK => ?_)
      go_simp
      refine (chipMark_any o.block hB _ hd.chip (by omega)).mono ?_
      rintro e w3 ⟨rfl, d3⟩
      obtain ⟨FC3, h3, t3, f3⟩ := hd.doesC d3 (inb_doMark hd.inb _)
      replace t3 : Turned (fun k => FC k ∨ FR k) w2 w3 := (Turned.refl (fun k => FC k ∨ FR k) w2).drew.trans t3
      refine hK _ _ t3 ?_
      clear hK K
      refine held_op (i := 7) (fuel := 2) (by kernel_rfl) rfl (by rfl) (fun K hK => ?_)
      go_simp
      refine (ref7Mark_any o.block _ h3.ref).mono ?_
      rintro e w4 ⟨rfl, d4⟩
      obtain ⟨FR4, h4, t4, f4⟩ := h3.doesR d4
      have t5 : Turned (fun k => FC k ∨ FR k) w2 w4 := t3.andThen t4 f3
      have HR : Hid (∃ FC' FR' S', Both W G B FC' (N + 2) R FR' S' S' w4) := ⟨_, _, _, h4.mono (by omega)⟩
      refine hK _ _ t5 ?_
      clear hK K h4 h3 hd t4 t3 f3 f4 d3 d4
      refine held_reads (rs := [8, 9]) (fuel := 0) (by kernel_rfl) (fun c d v a w h => by cases d <;> exact h) (by kernel_rfl) (t5) (fun K hK => ?_)
      go_simp
      refine calm_do (.bool true) rfl (by rfl) (fun w' hw' => ?_) ?_
      · go_simp
      go_simp
      refine calm_assign _ rfl (by rfl) rfl ?_
      go_simp
      refine calm_nil (hK.out _ ?_)
      clear hK K
      refine wpAnyH_done (by kernel_rfl) ?_ _
      go_wp2_with fail
      go_ret
      exact ⟨rfl, HR.out⟩
    · go_wp2_with fail
      have hd := h2.below (Since.drew w2)
      clear x0 x1 x2 x3 x4 x5
      refine held_open (Turned (fun k => FC k ∨ FR k) w2) (by kernel_rfl) ?_
      refine held_reads (rs := [0, 1, 2, 4, 5, 6]) (fuel := 4) (by kernel_rfl) (fun c d v a w h => by cases d <;> exact h) (by kernel_rfl) ((Turned.refl _ _).drew) (fun K hK => ?_)
      refine calm_move _ rfl (by rfl) rfl ?_
      go_simp
      refine calm_do (.pointer (some ⟨og, 3, none⟩)) rfl (by rfl) (fun w' hw' => ?_) ?_
      · skip
        go_simp
      go_simp
      refine calm_do (.int .i64 o.n) rfl (by rfl) (fun w' hw' => ?_) ?_
      · obtain ⟨x0, x1, x2, x3, x4, x5⟩ := HO.out w' hw'
        go_simp
      go_simp
      refine calm_move _ rfl (by rfl) rfl ?_
      go_simp
      refine calm_do (.pointer (some ⟨og, 3, none⟩)) rfl (by rfl) (fun w' hw' => ?_) ?_
      · skip
        go_simp
      go_simp
      refine calm_do (.int .i64 o.n) rfl (by rfl) (fun w' hw' => ?_) ?_
      · obtain ⟨x0, x1, x2, x3, x4, x5⟩ := HO.out w' hw'
        go_simp
      go_simp
      refine calm_nil (hK.out _ ?_)
      clear hK K
      refine held_op (i := 3) (fuel := 3) (by kernel_rfl) rfl (by rfl) (fun K hK => ?_)
      go_simp
      refine (chipBurn_any o.n _ hd.chip).mono ?_
      rintro e w3 ⟨rfl, d3⟩
      obtain ⟨FC3, h3, t3, f3⟩ := hd.doesC d3 (inb_doBurn hd.inb _)
      replace t3 : Turned (fun k => FC k ∨ FR k) w2 w3 := (Turned.refl (fun k => FC k ∨ FR k) w2).drew.trans t3
      refine hK _ _ t3 ?_
      clear hK K
      refine held_op (i := 7) (fuel := 2) (by kernel_rfl) rfl (by rfl) (fun K hK => ?_)
      go_simp
      refine (ref7Burn_any o.n _ h3.ref).mono ?_
      rintro e w4 ⟨rfl, d4⟩
      obtain ⟨FR4, h4, t4, f4⟩ := h3.doesR d4
      have t5 : Turned (fun k => FC k ∨ FR k) w2 w4 := t3.andThen t4 f3
      have HR : Hid (∃ FC' FR' S', Both W G B FC' (N + 2) R FR' S' S' w4) := ⟨_, _, _, h4.mono (by omega)⟩
      refine hK _ _ t5 ?_
      clear hK K h4 h3 hd t4 t3 f3 f4 d3 d4
      refine held_reads (rs := [8, 9]) (fuel := 0) (by kernel_rfl) (fun c d v a w h => by cases d <;> exact h) (by kernel_rfl) (t5) (fun K hK => ?_)
      go_simp
      refine calm_do (.bool true) rfl (by rfl) (fun w' hw' => ?_) ?_
      · go_simp
      go_simp
      refine calm_assign _ rfl (by rfl) rfl ?_
      go_simp
      refine calm_nil (hK.out _ ?_)
      clear hK K
      refine wpAnyH_done (by kernel_rfl) ?_ _
      go_wp2_with fail
      go_ret
      exact ⟨rfl, HR.out⟩
    · go_wp2_with fail
      clear x0 x1 x2 x3 x4 x5
      refine (chipOn_any _ h2.chip).mono ?_
      rintro e w3 ⟨⟨r3, rfl⟩, hc3, t3⟩
      have h3 := h2.turnedC hc3 t3 (h2.inb.same rfl)
      have hx3 := HO.out w3 (t3.mono (fun k _ hk => .inl hk))
      have c7 := h3.ref.cell.cells.c7
      have f7 := h3.ref.cell.cells.fr 7
      have hcF := h3.ref.inF R.c (.inl rfl)
      have t4 : Turned FR w3 (w3.setCell ⟨R.c, 7, none⟩ (.bool true)) := (Turned.refl FR w3).setCell (p := ⟨R.c, 7, none⟩) (.inl hcF) _
      have h4 := h3.turnedR (h3.ref.set_up true) t4
      have hx4 := hx3.same (t4.block og (Nat.lt_of_lt_of_le hog2 t3.size) (fun hf => hogF (.inr hf)))
      have HR : Hid (∃ FC' FR' S', Both W G B FC' (N + 2) R FR' S' S' (w3.setCell ⟨R.c, 7, none⟩ (.bool true)) ∧ OpSix (w3.setCell ⟨R.c, 7, none⟩ (.bool true)) og o) := ⟨_, _, _, h4.mono (by omega), hx4⟩
      clear h4 h3 hx3 hx4 t4 t3 hc3 hcF
      generalize S.up = old at *
      go_wp2_with fail
      go_meet
      exact HR.out
    · go_wp2_with fail
      clear x0 x1 x2 x3 x4 x5
      refine (chipOff_any _ h2.chip).mono ?_
      rintro e w3 ⟨⟨r3, rfl⟩, hc3, t3⟩
      have h3 := h2.turnedC hc3 t3 (h2.inb.same rfl)
      have hx3 := HO.out w3 (t3.mono (fun k _ hk => .inl hk))
      have c7 := h3.ref.cell.cells.c7
      have f7 := h3.ref.cell.cells.fr 7
      have hcF := h3.ref.inF R.c (.inl rfl)
      have t4 : Turned FR w3 (w3.setCell ⟨R.c, 7, none⟩ (.bool false)) := (Turned.refl FR w3).setCell (p := ⟨R.c, 7, none⟩) (.inl hcF) _
      have h4 := h3.turnedR (h3.ref.set_up false) t4
      have hx4 := hx3.same (t4.block og (Nat.lt_of_lt_of_le hog2 t3.size) (fun hf => hogF (.inr hf)))
      have HR : Hid (∃ FC' FR' S', Both W G B FC' (N + 2) R FR' S' S' (w3.setCell ⟨R.c, 7, none⟩ (.bool false)) ∧ OpSix (w3.setCell ⟨R.c, 7, none⟩ (.bool false)) og o) := ⟨_, _, _, h4.mono (by omega), hx4⟩
      clear h4 h3 hx3 hx4 t4 t3 hc3 hcF
      generalize S.up = old at *
      go_wp2_with fail
      go_meet
      exact HR.out
    · go_wp2_with fail
      clear x0 x1 x2 x3 x4 x5
      refine (chipArm_any o.n o.page hNn hPg _ h2.chip).mono ?_
      rintro e w3 ⟨⟨r3, rfl⟩, hc3, t3⟩
      have h3 := h2.turnedC hc3 t3 (h2.inb.same rfl)
      have hx3 := HO.out w3 (t3.mono (fun k _ hk => .inl hk))
      obtain ⟨x0, x1, x2, x3, x4, x5⟩ := id hx3
      go_wp2_with fail
      clear x0 x1 x2 x3 x4 x5
      refine (ref7Arm_any o.n o.page hNn hPg _ h3.ref).mono ?_
      rintro e w4 ⟨⟨r4, rfl⟩, hc4, t4⟩
      have h4 := h3.turnedR hc4 t4
      have hx4 := hx3.same (t4.block og (Nat.lt_of_lt_of_le hog2 t3.size) (fun hf => hogF (.inr hf)))
      have HR : Hid (∃ FC' FR' S', Both W G B FC' (N + 2) R FR' S' S' w4 ∧ OpSix w4 og o) := ⟨_, _, _, h4.mono (by omega), hx4⟩
      clear h4 h3 hx3 hx4 t4 t3 hc3 hc4
      go_wp2_with fail
      go_meet
      exact HR.out
    · go_wp2_with fail
      clear x0 x1 x2 x3 x4 x5
      refine (chipWeak_any o.block hB _ h2.chip (by omega)).mono ?_
      rintro e w3 ⟨⟨r3, rfl⟩, d3⟩
      obtain ⟨FC3, h3, t3, f3⟩ := h2.doesC d3 (inb_doWeak h2.inb _)
      have hx3 := HO.out w3 t3
      obtain ⟨x0, x1, x2, x3, x4, x5⟩ := id hx3
      have hog3 : og < w3.heap.size := Nat.lt_of_lt_of_le hog2 t3.size
      have hRl := h3.ref.lt
      have c0 := h3.ref.cell.cells.c0
      cases hib : inB0 o.block G.b
      · have hni := inB0_no hib
        have hW : S.doWeak G o.block = S := by unfold CS.doWeak; rw [if_neg (by rw [hib]; simp)]
        rw [hW] at h3
        have HRd : Hid (∀ j, ∃ FC' FR' S', Both W G B FC' (N + 2) R FR' S' S' (w3.drewN j) ∧ OpSix (w3.drewN j) og o) := fun j => ⟨_, _, _, (h3.below (below_drews w3 j)).mono (by omega), hx3.same rfl⟩
        clear h3 t3 f3 d3 hx3 hW
        generalize o.block = ob at *
        generalize G.b = gb at *
        by_cases h0 : 0 ≤ ob
        · have hl : ¬ ob < gb := fun hh => hni ⟨h0, hh⟩
          clear hni hib
          go_wp2_with fail
          go_quiet (fail)
          go_wp2_with fail
          go_meet
          exact HRd.out _
        · have hx1 : decide (0 ≤ ob) = false := by rw [decide_eq_false_iff_not]; exact h0
          have HX1 : Hid (∀ w', Since w3 w' → w'.cell? ⟨og, 1, none⟩ = some (.int .i64 ob)) := fun w' hw' => (cell_same (hw'.block og hog3) _).trans x1
          clear hni hib
          go_wp2_with fail
          refine held_open (Since w3) (by kernel_rfl) ?_
          refine held_reads (rs := [0, 1, 2, 3, 4, 5, 6, 7, 8, 9, 10, 11, 12]) (fuel := 0) (by kernel_rfl) (fun c d v a w h => by cases d <;> exact h) (by kernel_rfl) (Since.drew _) (fun K hK => ?_)
          refine calm_do (.pointer (some ⟨og, 1, none⟩)) rfl (by rfl) (fun w' hw' => ?_) ?_
          · skip
            go_simp
          go_simp
          refine calm_do (.int .i64 ob) rfl (by rfl) (fun w' hw' => ?_) ?_
          · have y1 := HX1.out w' hw'
            go_simp
          go_simp
          refine calm_do (.bool false) rfl (by rfl) (fun w' hw' => ?_) ?_
          · skip
            go_simp
          go_simp
          refine calm_move _ rfl (by rfl) rfl ?_
          go_simp
          refine calm_skip rfl (by rfl) ?_
          go_simp
          refine calm_skip rfl (by rfl) ?_
          go_simp
          refine calm_skip rfl (by rfl) ?_
          go_simp
          refine calm_skip rfl (by rfl) ?_
          go_simp
          refine calm_skip rfl (by rfl) ?_
          go_simp
          refine calm_skip rfl (by rfl) ?_
          go_simp
          refine calm_skip rfl (by rfl) ?_
          go_simp
          refine calm_skip rfl (by rfl) ?_
          go_simp
          refine calm_do (.bool false) rfl (by rfl) (fun w' hw' => ?_) ?_
          · go_simp
          go_simp
          refine calm_nil (hK.out _ ?_)
          clear hK K
          refine wpAnyH_done (by kernel_rfl) ?_ _
          go_wp2_with fail
          go_meet
          exact HRd.out 1
      · have hyi := inB0_yes hib
        have hW : S.doWeak G o.block = S.weaken o.block := by unfold CS.doWeak; rw [if_pos hib]
        rw [hW] at h3
        obtain ⟨k, hkk, hk⟩ := inB0_nat hib
        have HR0 : Hid (∀ j, OpSix (w3.drewN j) og o ∧ Both W G B FC3 (N + 2) R FR (S.weaken (k : Int)) S (w3.drewN j)) := fun j => ⟨hx3.same rfl, by rw [← hkk]; exact h3.below (below_drews w3 j)⟩
        have hy0 : (0 : Int) ≤ (k : Int) := by omega
        have hyb : (k : Int) < G.b := by omega
        have hkI : (k : Int) < ((G.b.toNat : Nat) : Int) := by omega
        have HHK : Hid (o.block = (k : Int) ∧ k < G.b.toNat) := ⟨hkk, hk⟩
        rw [hkk] at x1
        clear h3 t3 f3 d3 hx3 hW hyi hib hkk hk x0 x2 x3 x4 x5
        have HX1 : Hid (∀ w', Since w3 w' → w'.cell? ⟨og, 1, none⟩ = some (.int .i64 (k : Int)) ∧ w'.cell? ⟨R.c, 0, none⟩ = some (.int .i64 G.b)) := fun w' hw' => ⟨(cell_same (hw'.block og hog3) _).trans x1, (cell_same (hw'.block R.c hRl) _).trans c0⟩
        go_wp2_with fail
        refine held_open (Since w3) (by kernel_rfl) ?_
        refine held_reads (rs := [0, 1, 2, 3, 4, 5, 6, 7, 8, 9, 10, 11, 12]) (fuel := 0) (by kernel_rfl) (fun c d v a w h => by cases d <;> exact h) (by kernel_rfl) (Since.drew _) (fun K hK => ?_)
        refine calm_do (.pointer (some ⟨og, 1, none⟩)) rfl (by rfl) (fun w' hw' => ?_) ?_
        · skip
          go_simp
        go_simp
        refine calm_do (.int .i64 (k : Int)) rfl (by rfl) (fun w' hw' => ?_) ?_
        · obtain ⟨y1, y2⟩ := HX1.out w' hw'
          go_simp
        go_simp
        refine calm_do (.bool true) rfl (by rfl) (fun w' hw' => ?_) ?_
        · skip
          go_simp
        go_simp
        refine calm_move _ rfl (by rfl) rfl ?_
        go_simp
        refine calm_do (.pointer (some ⟨og, 1, none⟩)) rfl (by rfl) (fun w' hw' => ?_) ?_
        · skip
          go_simp
        go_simp
        refine calm_do (.int .i64 (k : Int)) rfl (by rfl) (fun w' hw' => ?_) ?_
        · obtain ⟨y1, y2⟩ := HX1.out w' hw'
          go_simp
        go_simp
        refine calm_move _ rfl (by rfl) rfl ?_
        go_simp
        refine calm_do (.pointer (some ⟨R.c, 0, none⟩)) rfl (by rfl) (fun w' hw' => ?_) ?_
        · go_simp
        go_simp
        refine calm_do (.pointer (some ⟨R.c, 0, none⟩)) rfl (by rfl) (fun w' hw' => ?_) ?_
        · go_simp
        go_simp
        refine calm_do (.pointer (some ⟨R.c, 0, none⟩)) rfl (by rfl) (fun w' hw' => ?_) ?_
        · go_simp
        go_simp
        refine calm_do (.int .i64 G.b) rfl (by rfl) (fun w' hw' => ?_) ?_
        · obtain ⟨y1, y2⟩ := HX1.out w' hw'
          go_simp
        go_simp
        refine calm_do (.bool true) rfl (by rfl) (fun w' hw' => ?_) ?_
        · skip
          go_simp
        go_simp
        refine calm_do (.bool true) rfl (by rfl) (fun w' hw' => ?_) ?_
        · go_simp
        go_simp
        refine calm_nil (hK.out _ ?_)
        clear hK K
        refine wpAnyH_done (by kernel_rfl) ?_ _
        clear x1 c0 HX1
        obtain ⟨hx4, h4⟩ := HR0.out 1
        replace hx4 : OpSix w3.drew og o := hx4
        replace h4 : Both W G B FC3 (N + 2) R FR (S.weaken (k : Int)) S w3.drew := h4
        have hog4 : og < w3.drew.heap.size := hog3
        clear HR0
        go_upto_region 23 with fail
        generalize w3.drew = w4 at *
        have HX : Hid (∀ w', Turned (fun k => k = R.bb) w4 w' → w'.cell? ⟨R.c, 5, none⟩ = some (.slice (some ⟨R.bb, 0, none⟩) G.b.toNat R.bcap) ∧ w'.cell? ⟨og, 1, none⟩ = some (.int .i64 (k : Int))) := fun w' hw' => by
          have e1 := hx4.2.1
          rw [HHK.out.1] at e1
          exact ⟨(cell_same (hw'.block R.c h4.ref.lt h4.ref.ne1) _).trans h4.ref.cell.cells.c5, (cell_same (hw'.block og hog4 (fun e => hogF (.inr (e ▸ h4.ref.inF R.bb (.inr (.inl rfl)))))) _).trans e1⟩
        have d3 := (h4.ref.blocks k HHK.out.2).c3
        have f3 := h4.ref.bfr (k * 4 + 3)
        have t5 : Turned FR w4 (w4.setCell ⟨R.bb, k * 4 + 3, none⟩ (.bool true)).drew := ((Turned.refl FR w4).setCell (p := ⟨R.bb, k * 4 + 3, none⟩) (.inl (h4.ref.inF R.bb (.inr (.inl rfl)))) _).drew
        have h5 := h4.turnedR (h4.ref.set_wk (x := (k : Int)) rfl HHK.out.2).drew t5
        have hx5 := hx4.same (t5.block og hog4 (fun hf => hogF (.inr hf)))
        have HR : Hid (∃ FC' FR' S', Both W G B FC' (N + 2) R FR' S' S' (w4.setCell ⟨R.bb, k * 4 + 3, none⟩ (.bool true)).drew ∧ OpSix (w4.setCell ⟨R.bb, k * 4 + 3, none⟩ (.bool true)).drew og o) := ⟨_, _, _, h5, hx5⟩
        clear h4 h5 hx4 hx5 t5
        generalize S.wk (k : Int) = old at *
        generalize G.b.toNat = Bn at *
        refine held_open (Turned (fun k => k = R.bb) w4) (by kernel_rfl) ?_
        refine held_reads (rs := [0, 1, 2, 3, 4, 5, 6, 7]) (fuel := 1) (by kernel_rfl) (fun c d v a w h => by cases d <;> exact h) (by kernel_rfl) ((Turned.refl _ _).drew) (fun K hK => ?_)
        refine calm_move _ rfl (by rfl) rfl ?_
        go_simp
        refine calm_do (.pointer (some ⟨R.c, 0, none⟩)) rfl (by rfl) (fun w' hw' => ?_) ?_
        · go_simp
        go_simp
        refine calm_do (.pointer (some ⟨R.c, 5, none⟩)) rfl (by rfl) (fun w' hw' => ?_) ?_
        · go_simp
        go_simp
        refine calm_do (.slice (some ⟨R.bb, 0, none⟩) Bn R.bcap) rfl (by rfl) (fun w' hw' => ?_) ?_
        · have y5 := (HX.out w' hw').1
          go_simp
        go_simp
        refine calm_do (.pointer (some ⟨og, 1, none⟩)) rfl (by rfl) (fun w' hw' => ?_) ?_
        · skip
          go_simp
        go_simp
        refine calm_do (.int .i64 (k : Int)) rfl (by rfl) (fun w' hw' => ?_) ?_
        · have y6 := (HX.out w' hw').2
          go_simp
        go_simp
        refine calm_do (.pointer (some ⟨R.bb, k * 4, none⟩)) rfl (by rfl) (fun w' hw' => ?_) ?_
        · skip
          go_simp
        go_simp
        refine calm_do (.pointer (some ⟨R.bb, k * 4 + 3, none⟩)) rfl (by rfl) (fun w' hw' => ?_) ?_
        · skip
          go_simp
        go_simp
        refine calm_nil (hK.out _ ?_)
        clear hK K
        refine held_op (i := 8) (fuel := 0) (by kernel_rfl) rfl (by rfl) (fun K hK => ?_)
        have s5 : Turned (fun k => k = R.bb) w4 (w4.setCell ⟨R.bb, k * 4 + 3, none⟩ (.bool true)).drew := ((Turned.refl (fun k => k = R.bb) w4).setCell (p := ⟨R.bb, k * 4 + 3, none⟩) (.inl rfl) _).drew
        go_simp
        refine hK _ _ s5 ?_
        clear hK K
        refine wpAnyH_done (by kernel_rfl) ?_ _
        go_wp2_with fail
        go_meet
        exact HR.out
    · go_wp2_with fail
      clear x0 x1 x2 x3 x4 x5
      refine (chipFlip_any o.block o.page hB hPg _ _ _ _ _ h2.chip hsp.row (fun h0 x hx hf => hsp.off h0 x hx (.inl hf)) hPW (by omega) (by omega)).mono ?_
      rintro e w3 ⟨⟨r3, rfl⟩, d3⟩
      obtain ⟨FC3, h3, t3, f3⟩ := h2.doesC d3 (inb_doFlip h2.inb _ _ _)
      have hx3 := HO.out w3 t3
      have hp3 := hsp.step t3 f3
      obtain ⟨x0, x1, x2, x3, x4, x5⟩ := id hx3
      go_wp2_with fail
      clear x0 x1 x2 x3 x4 x5
      refine (ref7Flip_any o.block o.page _ _ _ _ _ h3.ref hp3.row (by omega)).mono ?_
      rintro e w4 ⟨⟨r4, rfl⟩, d4⟩
      obtain ⟨FR4, h4, t4, f4⟩ := h3.doesR d4
      have hx4 := HO.out w4 (t3.andThen t4 f3)
      have HR : Hid (∃ FC' FR' S', Both W G B FC' (N + 2) R FR' S' S' w4 ∧ OpSix w4 og o) := ⟨_, _, _, h4.mono (by omega), hx4⟩
      clear h4 h3 hx3 hx4 t4 t3 f3 f4 d3 d4 hp3
      go_wp2_with fail
      go_meet
      exact HR.out
    · go_wp2_with fail
      have hd := h2.below (Since.drew w2)
      clear x0 x1 x2 x3 x4 x5
      refine held_open (Turned (fun k => FC k ∨ FR k) w2) (by kernel_rfl) ?_
      refine held_reads (rs := [0, 1, 2, 3, 4, 5, 7, 8, 9, 10, 11, 12, 13]) (fuel := 4) (by kernel_rfl) (fun c d v a w h => by cases d <;> exact h) (by kernel_rfl) ((Turned.refl _ _).drew) (fun K hK => ?_)
      refine calm_move _ rfl (by rfl) rfl ?_
      go_simp
      refine calm_do (.pointer (some ⟨og, 1, none⟩)) rfl (by rfl) (fun w' hw' => ?_) ?_
      · skip
        go_simp
      go_simp
      refine calm_do (.int .i64 o.block) rfl (by rfl) (fun w' hw' => ?_) ?_
      · obtain ⟨x0, x1, x2, x3, x4, x5⟩ := HO.out w' hw'
        go_simp
      go_simp
      refine calm_do (.pointer (some ⟨og, 2, none⟩)) rfl (by rfl) (fun w' hw' => ?_) ?_
      · skip
        go_simp
      go_simp
      refine calm_do (.int .i64 o.page) rfl (by rfl) (fun w' hw' => ?_) ?_
      · obtain ⟨x0, x1, x2, x3, x4, x5⟩ := HO.out w' hw'
        go_simp
      go_simp
      refine calm_move _ rfl (by rfl) rfl ?_
      go_simp
      refine calm_move _ rfl (by rfl) rfl ?_
      go_simp
      refine calm_do (.pointer (some ⟨og, 1, none⟩)) rfl (by rfl) (fun w' hw' => ?_) ?_
      · skip
        go_simp
      go_simp
      refine calm_do (.int .i64 o.block) rfl (by rfl) (fun w' hw' => ?_) ?_
      · obtain ⟨x0, x1, x2, x3, x4, x5⟩ := HO.out w' hw'
        go_simp
      go_simp
      refine calm_do (.pointer (some ⟨og, 2, none⟩)) rfl (by rfl) (fun w' hw' => ?_) ?_
      · skip
        go_simp
      go_simp
      refine calm_do (.int .i64 o.page) rfl (by rfl) (fun w' hw' => ?_) ?_
      · obtain ⟨x0, x1, x2, x3, x4, x5⟩ := HO.out w' hw'
        go_simp
      go_simp
      refine calm_do (.pointer (some ⟨og, 4, none⟩)) rfl (by rfl) (fun w' hw' => ?_) ?_
      · skip
        go_simp
      go_simp
      refine calm_do (.slice o.ra o.rl o.rc) rfl (by rfl) (fun w' hw' => ?_) ?_
      · obtain ⟨x0, x1, x2, x3, x4, x5⟩ := HO.out w' hw'
        go_simp
      go_simp
      refine calm_nil (hK.out _ ?_)
      clear hK K
      refine held_op (i := 6) (fuel := 3) (by kernel_rfl) rfl (by rfl) (fun K hK => ?_)
      go_simp
      refine (chipForce_any o.block o.page hB hPg _ _ _ _ _ hd.chip (hso.below (Since.drew w2)).row (fun h0 x hx hf => hso.off h0 x hx (.inl hf)) hZB (by omega)).mono ?_
      rintro e w3 ⟨rfl, d3⟩
      obtain ⟨FC3, h3, t3, f3⟩ := hd.doesC d3 (inb_doForce hd.inb _ _ _)
      replace t3 : Turned (fun k => FC k ∨ FR k) w2 w3 := (Turned.refl (fun k => FC k ∨ FR k) w2).drew.trans t3
      refine hK _ _ t3 ?_
      clear hK K
      refine held_op (i := 14) (fuel := 2) (by kernel_rfl) rfl (by rfl) (fun K hK => ?_)
      go_simp
      have hr3 := hsr.step t3 f3
      refine (ref7Force_any o.block o.page _ _ _ _ _ h3.ref hr3.row hZB).mono ?_
      rintro e w4 ⟨rfl, d4⟩
      obtain ⟨FR4, h4, t4, f4⟩ := h3.doesR d4
      have t5 : Turned (fun k => FC k ∨ FR k) w2 w4 := t3.andThen t4 f3
      have HR : Hid (∃ FC' FR' S', Both W G B FC' (N + 2) R FR' S' S' w4) := ⟨_, _, _, h4.mono (by omega)⟩
      refine hK _ _ t5 ?_
      clear hK K h4 h3 hd t4 t3 f3 f4 d3 d4
      refine held_reads (rs := [15, 16]) (fuel := 0) (by kernel_rfl) (fun c d v a w h => by cases d <;> exact h) (by kernel_rfl) (t5) (fun K hK => ?_)
      go_simp
      refine calm_do (.bool true) rfl (by rfl) (fun w' hw' => ?_) ?_
      · go_simp
      go_simp
      refine calm_assign _ rfl (by rfl) rfl ?_
      go_simp
      refine calm_nil (hK.out _ ?_)
      clear hK K
      refine wpAnyH_done (by kernel_rfl) ?_ _
      go_wp2_with fail
      go_ret
      exact ⟨rfl, HR.out⟩
    · have e0 : (kd == 0) = false := by simp [n0]
      have e1 : (kd == 1) = false := by simp [n1]
      have e3 : (kd == 3) = false := by simp [n3]
      have e5 : (kd == 5) = false := by simp [n5]
      have e6 : (kd == 6) = false := by simp [n6]
      have e7 : (kd == 7) = false := by simp [n7]
      have e8 : (kd == 8) = false := by simp [n8]
      have e9 : (kd == 9) = false := by simp [n9]
      have e10 : (kd == 10) = false := by simp [n10]
      have e11 : (kd == 11) = false := by simp [n11]
      have HR : Hid (∃ FC' FR' S', Both W G B FC' (N + 2) R FR' S' S' w2 ∧ OpSix w2 og o) := ⟨_, _, _, h2.mono (by omega), hbx2⟩
      clear h2 hbx2 hso hsr hsp
      go_wp2_with fail
      go_meet
      exact HR.out
  case rest =>
    clear h2 hso hsr hsp HO hbx2 x0 x1 x2 x3 x4 x5
    obtain ⟨FC3, FR3, S3, h3, hx3⟩ := hcut
    obtain ⟨x0, x1, x2, x3, x4, x5⟩ := id hx3
    cases hu : S3.up
    · have HR : Hid (∃ FC' FR' S', Both W G B FC' (N + 2) R FR' S' S' wc) := ⟨_, _, _, h3⟩
      have hcc := conv_row Try.underlying38 Try.underlying5 Try.underlying9 (row_none .u8 wc)
      go_wp2_with fail
      refine (chipRead_down _ _ _ h3.chip.cell hu).mono ?_
      rintro e w5 ⟨rfl, rfl⟩
      go_wp2_with fail
      refine (ref7Read_down _ _ _ h3.ref hu).mono ?_
      rintro e w5 ⟨rfl, rfl⟩
      clear x0 x1 x2 x3 x4 x5 h3
      go_wp2_with fail
      go_ret
      exact ⟨rfl, HR.out⟩
    cases hp : hasP G o.block o.page
    · have HR : Hid (∃ FC' FR' S', Both W G B FC' (N + 2) R FR' S' S' wc) := ⟨_, _, _, h3⟩
      have hcc := conv_row Try.underlying38 Try.underlying5 Try.underlying9 (row_none .u8 wc)
      go_wp2_with fail
      refine (chipRead_no _ _ _ h3.chip.cell hu hp).mono ?_
      rintro e w5 ⟨rfl, rfl⟩
      go_wp2_with fail
      refine (ref7Read_no _ _ _ h3.ref hu hp).mono ?_
      rintro e w5 ⟨rfl, rfl⟩
      clear x0 x1 x2 x3 x4 x5 h3
      go_wp2_with fail
      go_ret
      exact ⟨rfl, HR.out⟩
    go_wp2_with fail
    clear x0 x1 x2 x3 x4 x5
    refine (chipRead_yes _ _ hB hPg _ h3.chip hu hp).mono ?_
    rintro e w5 ⟨q, hq, rfl, r5, q5⟩
    have h5 := h3.below q5
    have hol : og < wc.heap.size := by
      rcases Nat.lt_or_ge og wc.heap.size with hh | hh
      · exact hh
      · have := hx3.1; simp [World.cell?, Array.getElem?_eq_none hh] at this
    obtain ⟨x0, x1, x2, x3, x4, x5⟩ := hx3.same (q5.block og hol)
    go_wp2_with fail
    clear x0 x1 x2 x3 x4 x5
    refine (ref7Read_yes _ _ _ h5.ref hu hp).mono ?_
    rintro e w6 ⟨a6, c6, rfl, r6, q6⟩
    have h6 := h5.below q6
    have HR : Hid (∃ FC' FR' S', Both W G B FC' (N + 2) R FR' S' S' w6) := ⟨_, _, _, h6⟩
    have hc1 := conv_row Try.underlying38 Try.underlying5 Try.underlying9 (r5.below q6 (Nat.le_refl _))
    have hc2 := conv_row Try.underlying38 Try.underlying5 Try.underlying9 r6
    clear h3 h5 h6 r5 r6 q5 q6 hx3
    generalize strOfNums (readZ G.L (S3.pg o.block o.page) (S3.wr o.block o.page)) = ss at *
    go_wp2_with fail
    go_ret
    exact ⟨rfl, HR.out⟩
end Go.Proofs.Ytjagnpljhedfjaa
