/-
  Layer 8's laws: a drive, its chip and the document's chip beside each other (DBoth); step, one call of both. (Written by tools/gen/drive_step.py.)
-/
import Derived.Test.YtggpgdaacbmmdaaGreatDriveRef2
import Derived.Test.YtggpgdaacbmmdaaGreatDriveScript
import Derived.Deep.LoopGhost
import Derived.Deep.CutRange
import Derived.Deep.CutBlock
namespace Go.Proofs.YtggpgdaacbmmdaaGreat
open Go Go.RowKit Go.Maps
set_option linter.unusedVariables false
set_option maxRecDepth 8192

theorem inb_after {G : Geo} {r : Int × CS} (h : Inb G r.2) (x : Int) : Inb G (CS.after G r x).2 := by
  unfold CS.after
  split
  · exact h
  · split
    · exact inb_doMark h x
    · exact inb_doMark h x
theorem inb_eraseD {G : Geo} {S : CS} (h : Inb G S) (x : Int) : Inb G (S.eraseD G x).2 := by
  unfold CS.eraseD
  split
  · exact h
  · exact inb_after (inb_doErase h x) x
/-- A drive with its chip, and the document's chip, made since W. -/
structure DBoth (W : World) (G : Geo) (B : CB) (FC : Nat → Prop) (N : Nat) (R : RB) (FR : Nat → Prop) (S T : CS) (d : Nat) (w : World) : Prop where
  both : Both W G B FC N R FR S T w
  box : DBox w d B.c
  off : ¬ (FC d ∨ FR d)
section
variable {W w w' : World} {G : Geo} {B : CB} {FC FR : Nat → Prop} {N N' : Nat} {R : RB} {S T S' T' : CS} {d : Nat}
theorem DBoth.below (h : DBoth W G B FC N R FR S T d w) (q : Below w.heap.size w w') : DBoth W G B FC N R FR S T d w' := ⟨h.both.below q, h.box.below q (Nat.le_refl _), h.off⟩
theorem DBoth.mono (h : DBoth W G B FC N R FR S T d w) (hN : N ≤ N') : DBoth W G B FC N' R FR S T d w := ⟨h.both.mono hN, h.box, h.off⟩
theorem DBoth.doesC (h : DBoth W G B FC N R FR S T d w) (dd : Does G B FC N' w S' w') (hi : Inb G S') : ∃ FC', DBoth W G B FC' N' R FR S' T d w' ∧ Turned (fun k => FC k ∨ FR k) w w' ∧ ∀ x, (FC' x ∨ FR x) → (FC x ∨ FR x) ∨ w.heap.size ≤ x := by
  obtain ⟨FC', h1, t, f⟩ := h.both.doesC dd hi
  refine ⟨FC', ⟨h1, h.box.turned t h.off, fun hd => ?_⟩, t, f⟩
  rcases f d hd with e | e
  · exact h.off e
  · have := h.box.lt; omega
theorem DBoth.doesR (h : DBoth W G B FC N R FR S T d w) (dd : RDoes G R FR w T' w') : ∃ FR', DBoth W G B FC N R FR' S T' d w' ∧ Turned (fun k => FC k ∨ FR k) w w' ∧ ∀ x, (FC x ∨ FR' x) → (FC x ∨ FR x) ∨ w.heap.size ≤ x := by
  obtain ⟨FR', h1, t, f⟩ := h.both.doesR dd
  refine ⟨FR', ⟨h1, h.box.turned t h.off, fun hd => ?_⟩, t, f⟩
  rcases f d hd with e | e
  · exact h.off e
  · have := h.box.lt; omega
theorem DBoth.turnedC (h : DBoth W G B FC N R FR S T d w) (hc : ChipAt G B FC N' S' w') (t : Turned FC w w') (hi : Inb G S') : DBoth W G B FC N' R FR S' T d w' := ⟨h.both.turnedC hc t hi, h.box.turned t (fun hf => h.off (.inl hf)), h.off⟩
theorem DBoth.turnedR (h : DBoth W G B FC N R FR S T d w) (hr : RefAt G R FR T' w') (t : Turned FR w w') : DBoth W G B FC N R FR S T' d w' := ⟨h.both.turnedR hr t, h.box.turned t (fun hf => h.off (.inr hf)), h.off⟩
theorem DBoth.chip (h : DBoth W G B FC N R FR S T d w) : ChipAt G B FC N S w := h.both.chip
theorem DBoth.ref (h : DBoth W G B FC N R FR S T d w) : RefAt G R FR T w := h.both.ref
theorem DBoth.bel (h : DBoth W G B FC N R FR S T d w) : Below W.heap.size W w := h.both.bel
theorem DBoth.inb (h : DBoth W G B FC N R FR S T d w) : Inb G S := h.both.inb
theorem DBoth.offC (h : DBoth W G B FC N R FR S T d w) : ¬ FC d := fun hf => h.off (.inl hf)
end

/-- A call's five cells, by their places. -/
def OpFive (w : World) (og : Nat) (o : DOp) : Prop := w.cell? ⟨og, 0, none⟩ = some (.int .i64 o.kind) ∧ w.cell? ⟨og, 1, none⟩ = some (.int .i64 o.block) ∧ w.cell? ⟨og, 2, none⟩ = some (.int .i64 o.page) ∧ w.cell? ⟨og, 3, none⟩ = some (.int .i64 o.n) ∧ w.cell? ⟨og, 4, none⟩ = some (.slice o.ra o.rl o.rc)
theorem OpFive.new (w : World) (o : DOp) : OpFive (w.alloc (.cells #[.int .i64 o.kind, .int .i64 o.block, .int .i64 o.page, .int .i64 o.n, .slice o.ra o.rl o.rc] 40)) w.heap.size o := by
  unfold OpFive
  refine ⟨?_, ?_, ?_, ?_, ?_⟩ <;> (rw [World.cell?_alloc_at _ _ _ _ rfl]; rfl)
theorem OpFive.same {w w' : World} {og : Nat} {o : DOp} (h : OpFive w og o) (hb : w'.heap[og]? = w.heap[og]?) : OpFive w' og o := by
  obtain ⟨h0, h1, h2, h3, h4⟩ := h
  exact ⟨(cell_same hb _).trans h0, (cell_same hb _).trans h1, (cell_same hb _).trans h2, (cell_same hb _).trans h3, (cell_same hb _).trans h4⟩

set_option maxHeartbeats 12800000 in
set_option maxRecDepth 100000 in
theorem step8_any {W w : World} {G : Geo} {B : CB} {FC FR : Nat → Prop} {N : Nat} {R : RB} {S : CS} {d : Nat} (h : DBoth W G B FC N R FR S S d w) (o : DOp) (hok : DOpOk W o) (hrl : o.rl ≤ 200) (hN : N < 900000) :
    Calls Tryz.prog 14 #[.pointer (some ⟨d, 0, none⟩), .pointer (some ⟨B.c, 0, none⟩), .pointer (some ⟨R.c, 0, none⟩), .agg #[.int .i64 o.kind, .int .i64 o.block, .int .i64 o.page, .int .i64 o.n, .slice o.ra o.rl o.rc]] w fun e w' =>
      e = .returned (.bool true) ∧ ∃ FC' FR' S', DBoth W G B FC' (N + 4) R FR' S' S' d w' := by
  obtain ⟨i0, hi0, hz0, hz1, hz2⟩ := info_parts Tryz.info5
  have hbx1 := OpFive.new w o
  have q1 := below_one w (.cells #[.int .i64 o.kind, .int .i64 o.block, .int .i64 o.page, .int .i64 o.n, .slice o.ra o.rl o.rc] 40)
  have hog1 : w.heap.size < (w.alloc (.cells #[.int .i64 o.kind, .int .i64 o.block, .int .i64 o.page, .int .i64 o.n, .slice o.ra o.rl o.rc] 40)).heap.size := by simp
  have hogF : ¬ (FC w.heap.size ∨ FR w.heap.size) := fun hh => hh.elim (fun hf => by have := h.chip.fresh _ hf; omega) (fun hf => by have := h.ref.fresh _ hf; omega)
  have h1 := h.below q1
  clear h q1
  go_enter Tryz.func14, Tryz.ntmps14
  go_upto_region 1 with fail
  generalize w.alloc (.cells #[.int .i64 o.kind, .int .i64 o.block, .int .i64 o.page, .int .i64 o.n, .slice o.ra o.rl o.rc] 40) = w1 at *
  generalize w.heap.size = og at *
  have hsr : Off (fun k => FC k ∨ FR k) .u8 w1 o.ra o.rl o.rc o.rz := Off.of_old (hok.raw.below h1.bel (Nat.le_refl _)) (fun h0 x hx => hok.raw.blk_lt h0 x hx) h1.both.low
  have HO : Hid (∀ w', Turned (fun k => FC k ∨ FR k) w1 w' → OpFive w' og o) := fun w' hw' => hbx1.same (hw'.block og hog1 hogF)
  obtain ⟨x0, x1, x2, x3, x4⟩ := id hbx1
  have hK := hok.kind
  have hB := hok.block
  have hPg := hok.page
  have hNn := hok.n
  have hZB := hok.rb
  have hlm : o.rl ≤ maxLen := Nat.le_trans hok.raw.hcap hok.raw.hmax
  clear hok
  generalize hkd : o.kind = kd at x0 hK ⊢
  have HKD : Hid (o.kind = kd) := hkd
  clear hkd
  go_upto_block 0 with fail
  go_cut [] from 9 to 167 (fun wx => ∃ FC' FR' S', DBoth W G B FC' (N + 4) R FR' S' S' d wx ∧ OpFive wx og o)
  case first =>
    rcases (show kd = 0 ∨ kd = 1 ∨ kd = 3 ∨ kd = 5 ∨ kd = 6 ∨ kd = 7 ∨ kd = 8 ∨ kd = 9 ∨ (¬ kd = 0 ∧ ¬ kd = 1 ∧ ¬ kd = 3 ∧ ¬ kd = 5 ∧ ¬ kd = 6 ∧ ¬ kd = 7 ∧ ¬ kd = 8 ∧ ¬ kd = 9) by omega) with rfl | rfl | rfl | rfl | rfl | rfl | rfl | rfl | ⟨n0, n1, n3, n5, n6, n7, n8, n9⟩
    · have hr1 := hsr.row
      have hown0 := World.ownsRow_lit (base := w1.heap.size) (e := 5) (size := 1) w1 #[] 0 (Nat.le_refl _) (Nat.zero_le _) rfl
      have hr0 := hr1.below (below_one w1 (Obj.cells #[] 5)) (Nat.le_refl _)
      have y4 : (w1.alloc (Obj.cells #[] 5)).cell? ⟨og, 4, none⟩ = some (.slice o.ra o.rl o.rc) := (cell_same ((below_one w1 (Obj.cells #[] 5)).block og hog1) _).trans x4
      go_wp2_with (at_builtin; refine wpList_append_row _ rfl _ _ 38 rfl w1.heap.size 5 i0 (.int .u8 0) 1 Tryz.underlying38 hi0 hz0 hz1 hz2 rfl _ 0 [] rfl hown0 .u8 o.ra o.rl o.rc o.rz rfl hr0 ?c1 ?c2 ?c3 ?_)
      all_goals try (first | omega | (unfold maxLen; omega) | exact hlm)
      intro v w2 hown1 hgrow1
      have q2 : Below w1.heap.size w1 w2 := (below_one w1 (Obj.cells #[] 5)).grown hgrow1 (by simp) (fun k hk => by simp [Value.ownBlock] at hk; omega)
      have hown1' : w2.ownsRow w1.heap.size 5 1 v o.rl (o.rz.map (Value.int .u8)) := by simpa using hown1
      have hlo := hown1'.lt
      obtain ⟨ao, co, rfl, ro⟩ := row_of_owns hown1'
      have h2 := h1.below q2
      have hso : Off (fun k => FC k ∨ FR k) .u8 w2 ao o.rl co o.rz := ⟨ro, fun h0 x hx hF => by
        have := (hlo x.block (by rw [hx]; rfl)).1
        rcases hF with hF | hF
        · have := h1.chip.fresh _ hF; omega
        · have := h1.ref.fresh _ hF; omega⟩
      have hs2 := hsr.below q2
      have hog2 : og < w2.heap.size := Nat.lt_of_lt_of_le hog1 q2.size
      have hbx2 := hbx1.same (q2.block og hog1)
      have HO2 : Hid (∀ w', Turned (fun k => FC k ∨ FR k) w2 w' → OpFive w' og o) := fun w' hw' => hbx2.same (hw'.block og hog2 hogF)
      clear hown1 hown1' hown0 hr0 hgrow1 hlo ro hr1 y4 h1 q2 HO hsr hbx1
      obtain ⟨u, hU⟩ : ∃ u, S.use G o.block (inB0 o.page G.p && decide (o.rl = G.R)) = u := ⟨_, rfl⟩
      have HU : Hid (S.use G o.block (inB0 o.page G.p && decide (o.rl = G.R)) = u) := hU
      by_cases hu : u = 0
      · subst hu
        obtain ⟨⟨_, _, hpo⟩, _⟩ := use_zero hU
        rw [hpo] at hU
        rw [Bool.and_eq_true] at hpo
        obtain ⟨hpi, hrlo⟩ := hpo
        have hrl2 := of_decide_eq_true hrlo
        have hui : S.use G o.block true = 0 := hU
        clear hU HU hrlo
        have hRL : Hid (∀ {a c : _} w, Row .u8 w a o.rl c o.rz → Row .u8 w a G.R c o.rz) := fun w r => by rw [← hrl2]; exact r
        have HRE : Hid (o.rl = G.R) := hrl2
        clear hrl2
        go_wp2_with fail
        have hd := h2.below (Since.drew w2)
        clear x0 x1 x2 x3 x4
        refine held_open (Turned (fun k => FC k ∨ FR k) w2) (by kernel_rfl) ?_
        refine held_reads (rs := [0, 1, 2, 3, 4, 5, 7, 8, 9, 10, 11, 12, 13]) (fuel := 12) (by kernel_rfl) (fun c d v a w h => by cases d <;> exact h) (by kernel_rfl) ((Turned.refl _ _).drew) (fun K hK => ?_)
        refine calm_move _ rfl (by rfl) rfl ?_
        go_simp
        refine calm_do (.pointer (some ⟨og, 1, none⟩)) rfl (by rfl) (fun w' hw' => ?_) ?_
        · skip
          go_simp
        go_simp
        refine calm_do (.int .i64 o.block) rfl (by rfl) (fun w' hw' => ?_) ?_
        · obtain ⟨x0, x1, x2, x3, x4⟩ := HO2.out w' hw'
          go_simp
        go_simp
        refine calm_do (.pointer (some ⟨og, 2, none⟩)) rfl (by rfl) (fun w' hw' => ?_) ?_
        · skip
          go_simp
        go_simp
        refine calm_do (.int .i64 o.page) rfl (by rfl) (fun w' hw' => ?_) ?_
        · obtain ⟨x0, x1, x2, x3, x4⟩ := HO2.out w' hw'
          go_simp
        go_simp
        refine calm_move _ rfl (by rfl) rfl ?_
        go_simp
        refine calm_move _ rfl (by rfl) rfl ?_
        go_simp
        refine calm_do (.pointer (some ⟨og, 1, none⟩)) rfl (by rfl) (fun w' hw' => ?_) ?_
        · skip
          go_simp
        go_simp
        refine calm_do (.int .i64 o.block) rfl (by rfl) (fun w' hw' => ?_) ?_
        · obtain ⟨x0, x1, x2, x3, x4⟩ := HO2.out w' hw'
          go_simp
        go_simp
        refine calm_do (.pointer (some ⟨og, 2, none⟩)) rfl (by rfl) (fun w' hw' => ?_) ?_
        · skip
          go_simp
        go_simp
        refine calm_do (.int .i64 o.page) rfl (by rfl) (fun w' hw' => ?_) ?_
        · obtain ⟨x0, x1, x2, x3, x4⟩ := HO2.out w' hw'
          go_simp
        go_simp
        refine calm_do (.pointer (some ⟨og, 4, none⟩)) rfl (by rfl) (fun w' hw' => ?_) ?_
        · skip
          go_simp
        go_simp
        refine calm_do (.slice o.ra o.rl o.rc) rfl (by rfl) (fun w' hw' => ?_) ?_
        · obtain ⟨x0, x1, x2, x3, x4⟩ := HO2.out w' hw'
          go_simp
        go_simp
        refine calm_nil (hK.out _ ?_)
        clear hK K
        refine held_op (i := 6) (fuel := 11) (by kernel_rfl) rfl (by rfl) (fun K hK => ?_)
        go_simp
        have hwr := drvWrite_yes o.block o.page hB hPg ao co o.rz _ hd.box hd.offC hd.chip (hRL.out _ (hso.below (Since.drew w2)).row) hZB (by omega) hpi hui
        rw [← HRE.out] at hwr
        refine hwr.mono ?_
        rintro e w3 ⟨z, hz, rfl, d3⟩
        obtain ⟨FC3, h3, t3, f3⟩ := hd.doesC d3 (inb_after (inb_doProgram hd.inb _ _ _) _)
        replace t3 : Turned (fun k => FC k ∨ FR k) w2 w3 := (Turned.refl (fun k => FC k ∨ FR k) w2).drew.trans t3
        refine hK _ _ t3 ?_
        clear hK K
        refine held_op (i := 14) (fuel := 10) (by kernel_rfl) rfl (by rfl) (fun K hK => ?_)
        go_simp
        have hr3 := hs2.step t3 f3
        have hwr2 := ref8Write_yes o.block o.page o.ra o.rc o.rz _ h3.ref (hRL.out _ hr3.row) hZB hpi hui
        rw [← HRE.out] at hwr2
        refine hwr2.mono ?_
        rintro e w4 ⟨z', hz', he, d4⟩
        obtain rfl : z' = z := pack_unique (by have := G.ok.hf; omega) G.ok.hW (by have := G.ok.W2; omega) hz' hz
        subst he
        obtain ⟨FR4, h4, t4, f4⟩ := h3.doesR d4
        have t5 : Turned (fun k => FC k ∨ FR k) w2 w4 := t3.andThen t4 f3
        have HR : Hid (∃ FC' FR' S', DBoth W G B FC' (N + 4) R FR' S' S' d w4) := ⟨_, _, _, h4.mono (by omega)⟩
        refine hK _ _ t5 ?_
        clear hK K h4 h3 hd t4 t3 f3 f4 d3 d4 hz hz' hr3 hwr hwr2
        refine held_reads (rs := [15, 16, 17, 18, 19, 20, 21, 22, 23, 24]) (fuel := 0) (by kernel_rfl) (fun c d v a w h => by cases d <;> exact h) (by kernel_rfl) (t5) (fun K hK => ?_)
        go_simp
        refine calm_do (.bool true) rfl (by rfl) (fun w' hw' => ?_) ?_
        · go_simp
        go_simp
        refine calm_move _ rfl (by rfl) rfl ?_
        go_simp
        refine calm_move _ rfl (by rfl) rfl ?_
        go_simp
        refine calm_do (.string (strOfNums o.rz)) rfl (by rfl) (fun w' hw' => ?_) ?_
        · have hcc := conv_row Tryz.underlying38 Tryz.underlying5 Tryz.underlying9 (hso.row.turned hw' hso.off)
          go_simp
        go_simp
        refine calm_do (.pointer (some ⟨og, 4, none⟩)) rfl (by rfl) (fun w' hw' => ?_) ?_
        · skip
          go_simp
        go_simp
        refine calm_do (.slice o.ra o.rl o.rc) rfl (by rfl) (fun w' hw' => ?_) ?_
        · obtain ⟨x0, x1, x2, x3, x4⟩ := HO2.out w' hw'
          go_simp
        go_simp
        refine calm_do (.string (strOfNums o.rz)) rfl (by rfl) (fun w' hw' => ?_) ?_
        · have hcc := conv_row Tryz.underlying38 Tryz.underlying5 Tryz.underlying9 (hs2.row.turned hw' hs2.off)
          go_simp
        go_simp
        refine calm_do (.bool true) rfl (by rfl) (fun w' hw' => ?_) ?_
        · go_simp
        go_simp
        refine calm_do (.bool true) rfl (by rfl) (fun w' hw' => ?_) ?_
        · go_simp
        go_simp
        refine calm_assign _ rfl (by rfl) rfl ?_
        go_simp
        refine calm_nil (hK.out _ ?_)
        clear hK K
        refine wpAnyH_done (by kernel_rfl) ?_ _
        go_wp2_with fail
        go_ret
        exact ⟨rfl, HR.out⟩
      · clear hU
        go_wp2_with fail
        have hd := h2.below (Since.drew w2)
        clear x0 x1 x2 x3 x4
        refine held_open (Turned (fun k => FC k ∨ FR k) w2) (by kernel_rfl) ?_
        refine held_reads (rs := [0, 1, 2, 3, 4, 5, 7, 8, 9, 10, 11, 12, 13]) (fuel := 12) (by kernel_rfl) (fun c d v a w h => by cases d <;> exact h) (by kernel_rfl) ((Turned.refl _ _).drew) (fun K hK => ?_)
        refine calm_move _ rfl (by rfl) rfl ?_
        go_simp
        refine calm_do (.pointer (some ⟨og, 1, none⟩)) rfl (by rfl) (fun w' hw' => ?_) ?_
        · skip
          go_simp
        go_simp
        refine calm_do (.int .i64 o.block) rfl (by rfl) (fun w' hw' => ?_) ?_
        · obtain ⟨x0, x1, x2, x3, x4⟩ := HO2.out w' hw'
          go_simp
        go_simp
        refine calm_do (.pointer (some ⟨og, 2, none⟩)) rfl (by rfl) (fun w' hw' => ?_) ?_
        · skip
          go_simp
        go_simp
        refine calm_do (.int .i64 o.page) rfl (by rfl) (fun w' hw' => ?_) ?_
        · obtain ⟨x0, x1, x2, x3, x4⟩ := HO2.out w' hw'
          go_simp
        go_simp
        refine calm_move _ rfl (by rfl) rfl ?_
        go_simp
        refine calm_move _ rfl (by rfl) rfl ?_
        go_simp
        refine calm_do (.pointer (some ⟨og, 1, none⟩)) rfl (by rfl) (fun w' hw' => ?_) ?_
        · skip
          go_simp
        go_simp
        refine calm_do (.int .i64 o.block) rfl (by rfl) (fun w' hw' => ?_) ?_
        · obtain ⟨x0, x1, x2, x3, x4⟩ := HO2.out w' hw'
          go_simp
        go_simp
        refine calm_do (.pointer (some ⟨og, 2, none⟩)) rfl (by rfl) (fun w' hw' => ?_) ?_
        · skip
          go_simp
        go_simp
        refine calm_do (.int .i64 o.page) rfl (by rfl) (fun w' hw' => ?_) ?_
        · obtain ⟨x0, x1, x2, x3, x4⟩ := HO2.out w' hw'
          go_simp
        go_simp
        refine calm_do (.pointer (some ⟨og, 4, none⟩)) rfl (by rfl) (fun w' hw' => ?_) ?_
        · skip
          go_simp
        go_simp
        refine calm_do (.slice o.ra o.rl o.rc) rfl (by rfl) (fun w' hw' => ?_) ?_
        · obtain ⟨x0, x1, x2, x3, x4⟩ := HO2.out w' hw'
          go_simp
        go_simp
        refine calm_nil (hK.out _ ?_)
        clear hK K
        refine held_op (i := 6) (fuel := 11) (by kernel_rfl) rfl (by rfl) (fun K hK => ?_)
        go_simp
        refine (drvWrite_no o.block o.page hB ao o.rl co hlm _ hd.box hd.chip u hu HU).mono ?_
        rintro e w3 ⟨rfl, q3⟩
        have h3 := hd.below q3
        have t3 : Turned (fun k => FC k ∨ FR k) w2 w3 := (Turned.refl (fun k => FC k ∨ FR k) w2).drew.trans (Turned.of_below _ q3)
        refine hK _ _ t3 ?_
        clear hK K
        refine held_op (i := 14) (fuel := 10) (by kernel_rfl) rfl (by rfl) (fun K hK => ?_)
        go_simp
        refine (ref8Write_no o.block o.page o.ra o.rl o.rc hlm _ h3.ref u hu HU).mono ?_
        rintro e w4 ⟨rfl, q4⟩
        have h4 := h3.below q4
        have t5 : Turned (fun k => FC k ∨ FR k) w2 w4 := t3.trans (Turned.of_below _ q4)
        have HR : Hid (∃ FC' FR' S', DBoth W G B FC' (N + 4) R FR' S' S' d w4) := ⟨_, _, _, h4.mono (by omega)⟩
        refine hK _ _ t5 ?_
        clear hK K h4 h3 hd t3 q3 q4
        refine held_reads (rs := [15, 16, 17, 18, 19, 20, 21, 22, 23, 24]) (fuel := 0) (by kernel_rfl) (fun c d v a w h => by cases d <;> exact h) (by kernel_rfl) (t5) (fun K hK => ?_)
        go_simp
        refine calm_do (.bool true) rfl (by rfl) (fun w' hw' => ?_) ?_
        · go_simp
        go_simp
        refine calm_move _ rfl (by rfl) rfl ?_
        go_simp
        refine calm_move _ rfl (by rfl) rfl ?_
        go_simp
        refine calm_do (.string (strOfNums o.rz)) rfl (by rfl) (fun w' hw' => ?_) ?_
        · have hcc := conv_row Tryz.underlying38 Tryz.underlying5 Tryz.underlying9 (hso.row.turned hw' hso.off)
          go_simp
        go_simp
        refine calm_do (.pointer (some ⟨og, 4, none⟩)) rfl (by rfl) (fun w' hw' => ?_) ?_
        · skip
          go_simp
        go_simp
        refine calm_do (.slice o.ra o.rl o.rc) rfl (by rfl) (fun w' hw' => ?_) ?_
        · obtain ⟨x0, x1, x2, x3, x4⟩ := HO2.out w' hw'
          go_simp
        go_simp
        refine calm_do (.string (strOfNums o.rz)) rfl (by rfl) (fun w' hw' => ?_) ?_
        · have hcc := conv_row Tryz.underlying38 Tryz.underlying5 Tryz.underlying9 (hs2.row.turned hw' hs2.off)
          go_simp
        go_simp
        refine calm_do (.bool true) rfl (by rfl) (fun w' hw' => ?_) ?_
        · go_simp
        go_simp
        refine calm_do (.bool true) rfl (by rfl) (fun w' hw' => ?_) ?_
        · go_simp
        go_simp
        refine calm_assign _ rfl (by rfl) rfl ?_
        go_simp
        refine calm_nil (hK.out _ ?_)
        clear hK K
        refine wpAnyH_done (by kernel_rfl) ?_ _
        go_wp2_with fail
        go_ret
        exact ⟨rfl, HR.out⟩
    · go_wp2_with fail
      have hd := h1.below (Since.drew w1)
      clear x0 x1 x2 x3 x4
      refine held_open (Turned (fun k => FC k ∨ FR k) w1) (by kernel_rfl) ?_
      refine held_reads (rs := [0, 1, 2, 4, 5, 6]) (fuel := 4) (by kernel_rfl) (fun c d v a w h => by cases d <;> exact h) (by kernel_rfl) ((Turned.refl _ _).drew) (fun K hK => ?_)
      refine calm_move _ rfl (by rfl) rfl ?_
      go_simp
      refine calm_do (.pointer (some ⟨og, 1, none⟩)) rfl (by rfl) (fun w' hw' => ?_) ?_
      · skip
        go_simp
      go_simp
      refine calm_do (.int .i64 o.block) rfl (by rfl) (fun w' hw' => ?_) ?_
      · obtain ⟨x0, x1, x2, x3, x4⟩ := HO.out w' hw'
        go_simp
      go_simp
      refine calm_move _ rfl (by rfl) rfl ?_
      go_simp
      refine calm_do (.pointer (some ⟨og, 1, none⟩)) rfl (by rfl) (fun w' hw' => ?_) ?_
      · skip
        go_simp
      go_simp
      refine calm_do (.int .i64 o.block) rfl (by rfl) (fun w' hw' => ?_) ?_
      · obtain ⟨x0, x1, x2, x3, x4⟩ := HO.out w' hw'
        go_simp
      go_simp
      refine calm_nil (hK.out _ ?_)
      clear hK K
      refine held_op (i := 3) (fuel := 3) (by kernel_rfl) rfl (by rfl) (fun K hK => ?_)
      go_simp
      refine (drvErase_any o.block hB _ hd.box hd.offC hd.chip (by omega)).mono ?_
      rintro e w3 ⟨rfl, d3⟩
      obtain ⟨FC3, h3, t3, f3⟩ := hd.doesC d3 (inb_eraseD hd.inb _)
      replace t3 : Turned (fun k => FC k ∨ FR k) w1 w3 := (Turned.refl (fun k => FC k ∨ FR k) w1).drew.trans t3
      refine hK _ _ t3 ?_
      clear hK K
      refine held_op (i := 7) (fuel := 2) (by kernel_rfl) rfl (by rfl) (fun K hK => ?_)
      go_simp
      have hr3 := hsr.step t3 f3
      refine (ref8Erase_any o.block _ h3.ref).mono ?_
      rintro e w4 ⟨rfl, d4⟩
      obtain ⟨FR4, h4, t4, f4⟩ := h3.doesR d4
      have t5 : Turned (fun k => FC k ∨ FR k) w1 w4 := t3.andThen t4 f3
      have HR : Hid (∃ FC' FR' S', DBoth W G B FC' (N + 4) R FR' S' S' d w4) := ⟨_, _, _, h4.mono (by omega)⟩
      refine hK _ _ t5 ?_
      clear hK K h4 h3 hd t4 t3 f3 f4 d3 d4
      refine held_reads (rs := [8, 9]) (fuel := 0) (by kernel_rfl) (fun c d v a w h => by cases d <;> exact h) (by kernel_rfl) (t5) (fun K hK => ?_)
      go_simp
      refine calm_do (.bool true) rfl (by rfl) (fun w' hw' => ?_) ?_
      · go_simp
      go_simp
      refine calm_assign _ rfl (by rfl) rfl ?_
      go_simp
      refine calm_nil (hK.out _ ?_)
      clear hK K
      refine wpAnyH_done (by kernel_rfl) ?_ _
      go_wp2_with fail
      go_ret
      exact ⟨rfl, HR.out⟩
    · go_wp2_with fail
      clear x0 x1 x2 x3 x4
      refine (drvWhole_any o.block o.page hB _ h1.box h1.chip).mono ?_
      rintro e w3 ⟨rfl, q3⟩
      have h3 := h1.below q3
      obtain ⟨x0, x1, x2, x3, x4⟩ := hbx1.same (q3.block og hog1)
      go_wp2_with fail
      clear x0 x1 x2 x3 x4
      refine (ref8Whole_any o.block o.page _ h3.ref).mono ?_
      rintro e w4 ⟨rfl, q4⟩
      have h4 := h3.below q4
      have HR : Hid (∃ FC' FR' S', DBoth W G B FC' (N + 4) R FR' S' S' d w4) := ⟨_, _, _, h4.mono (by omega)⟩
      clear h4 h3 h1 q3 q4
      generalize S.wholeD G o.block o.page = r at *
      go_wp2_with fail
      go_ret
      exact ⟨rfl, HR.out⟩
    · go_wp2_with fail
      clear x0 x1 x2 x3 x4
      refine (chipWeak_any o.block hB _ h1.chip (by omega)).mono ?_
      rintro e w3 ⟨⟨r3, rfl⟩, d3⟩
      obtain ⟨FC3, h3, t3, f3⟩ := h1.doesC d3 (inb_doWeak h1.inb _)
      have hx3 := HO.out w3 t3
      obtain ⟨x0, x1, x2, x3, x4⟩ := id hx3
      have hog3 : og < w3.heap.size := Nat.lt_of_lt_of_le hog1 t3.size
      have hRl := h3.ref.lt
      have c0 := h3.ref.cell.cells.c0
      cases hib : inB0 o.block G.b
      · have hni := inB0_no hib
        have hW : S.doWeak G o.block = S := by unfold CS.doWeak; rw [if_neg (by rw [hib]; simp)]
        rw [hW] at h3
        have HRd : Hid (∀ j, ∃ FC' FR' S', DBoth W G B FC' (N + 4) R FR' S' S' d (w3.drewN j) ∧ OpFive (w3.drewN j) og o) := fun j => ⟨_, _, _, (h3.below (below_drews w3 j)).mono (by omega), hx3.same rfl⟩
        clear h3 t3 f3 d3 hx3 hW h1
        generalize o.block = ob at *
        generalize G.b = gb at *
        by_cases h0 : 0 ≤ ob
        · have hl : ¬ ob < gb := fun hh => hni ⟨h0, hh⟩
          clear hni hib
          go_wp2_with fail
          go_quiet (fail)
          go_wp2_with fail
          go_meet
          exact HRd.out _
        · have hx1 : decide (0 ≤ ob) = false := by rw [decide_eq_false_iff_not]; exact h0
          have HX1 : Hid (∀ w', Since w3 w' → w'.cell? ⟨og, 1, none⟩ = some (.int .i64 ob)) := fun w' hw' => (cell_same (hw'.block og hog3) _).trans x1
          clear hni hib
          go_wp2_with fail
          refine held_open (Since w3) (by kernel_rfl) ?_
          refine held_reads (rs := [0, 1, 2, 3, 4, 5, 6, 7, 8, 9, 10, 11, 12]) (fuel := 0) (by kernel_rfl) (fun c d v a w h => by cases d <;> exact h) (by kernel_rfl) (Since.drew _) (fun K hK => ?_)
          refine calm_do (.pointer (some ⟨og, 1, none⟩)) rfl (by rfl) (fun w' hw' => ?_) ?_
          · skip
            go_simp
          go_simp
          refine calm_do (.int .i64 ob) rfl (by rfl) (fun w' hw' => ?_) ?_
          · have y1 := HX1.out w' hw'
            go_simp
          go_simp
          refine calm_do (.bool false) rfl (by rfl) (fun w' hw' => ?_) ?_
          · skip
            go_simp
          go_simp
          refine calm_move _ rfl (by rfl) rfl ?_
          go_simp
          refine calm_skip rfl (by rfl) ?_
          go_simp
          refine calm_skip rfl (by rfl) ?_
          go_simp
          refine calm_skip rfl (by rfl) ?_
          go_simp
          refine calm_skip rfl (by rfl) ?_
          go_simp
          refine calm_skip rfl (by rfl) ?_
          go_simp
          refine calm_skip rfl (by rfl) ?_
          go_simp
          refine calm_skip rfl (by rfl) ?_
          go_simp
          refine calm_skip rfl (by rfl) ?_
          go_simp
          refine calm_do (.bool false) rfl (by rfl) (fun w' hw' => ?_) ?_
          · go_simp
          go_simp
          refine calm_nil (hK.out _ ?_)
          clear hK K
          refine wpAnyH_done (by kernel_rfl) ?_ _
          go_wp2_with fail
          go_meet
          exact HRd.out 1
      · have hyi := inB0_yes hib
        have hW : S.doWeak G o.block = S.weaken o.block := by unfold CS.doWeak; rw [if_pos hib]
        rw [hW] at h3
        obtain ⟨k, hkk, hk⟩ := inB0_nat hib
        have HR0 : Hid (∀ j, OpFive (w3.drewN j) og o ∧ DBoth W G B FC3 (N + 2) R FR (S.weaken (k : Int)) S d (w3.drewN j)) := fun j => ⟨hx3.same rfl, by rw [← hkk]; exact h3.below (below_drews w3 j)⟩
        have hy0 : (0 : Int) ≤ (k : Int) := by omega
        have hyb : (k : Int) < G.b := by omega
        have hkI : (k : Int) < ((G.b.toNat : Nat) : Int) := by omega
        have HHK : Hid (o.block = (k : Int) ∧ k < G.b.toNat) := ⟨hkk, hk⟩
        rw [hkk] at x1
        clear h3 t3 f3 d3 hx3 hW hyi hib hkk hk x0 x2 x3 x4 h1
        have HX1 : Hid (∀ w', Since w3 w' → w'.cell? ⟨og, 1, none⟩ = some (.int .i64 (k : Int)) ∧ w'.cell? ⟨R.c, 0, none⟩ = some (.int .i64 G.b)) := fun w' hw' => ⟨(cell_same (hw'.block og hog3) _).trans x1, (cell_same (hw'.block R.c hRl) _).trans c0⟩
        go_wp2_with fail
        refine held_open (Since w3) (by kernel_rfl) ?_
        refine held_reads (rs := [0, 1, 2, 3, 4, 5, 6, 7, 8, 9, 10, 11, 12]) (fuel := 0) (by kernel_rfl) (fun c d v a w h => by cases d <;> exact h) (by kernel_rfl) (Since.drew _) (fun K hK => ?_)
        refine calm_do (.pointer (some ⟨og, 1, none⟩)) rfl (by rfl) (fun w' hw' => ?_) ?_
        · skip
          go_simp
        go_simp
        refine calm_do (.int .i64 (k : Int)) rfl (by rfl) (fun w' hw' => ?_) ?_
        · obtain ⟨y1, y2⟩ := HX1.out w' hw'
          go_simp
        go_simp
        refine calm_do (.bool true) rfl (by rfl) (fun w' hw' => ?_) ?_
        · skip
          go_simp
        go_simp
        refine calm_move _ rfl (by rfl) rfl ?_
        go_simp
        refine calm_do (.pointer (some ⟨og, 1, none⟩)) rfl (by rfl) (fun w' hw' => ?_) ?_
        · skip
          go_simp
        go_simp
        refine calm_do (.int .i64 (k : Int)) rfl (by rfl) (fun w' hw' => ?_) ?_
        · obtain ⟨y1, y2⟩ := HX1.out w' hw'
          go_simp
        go_simp
        refine calm_move _ rfl (by rfl) rfl ?_
        go_simp
        refine calm_do (.pointer (some ⟨R.c, 0, none⟩)) rfl (by rfl) (fun w' hw' => ?_) ?_
        · go_simp
        go_simp
        refine calm_do (.pointer (some ⟨R.c, 0, none⟩)) rfl (by rfl) (fun w' hw' => ?_) ?_
        · go_simp
        go_simp
        refine calm_do (.pointer (some ⟨R.c, 0, none⟩)) rfl (by rfl) (fun w' hw' => ?_) ?_
        · go_simp
        go_simp
        refine calm_do (.int .i64 G.b) rfl (by rfl) (fun w' hw' => ?_) ?_
        · obtain ⟨y1, y2⟩ := HX1.out w' hw'
          go_simp
        go_simp
        refine calm_do (.bool true) rfl (by rfl) (fun w' hw' => ?_) ?_
        · skip
          go_simp
        go_simp
        refine calm_do (.bool true) rfl (by rfl) (fun w' hw' => ?_) ?_
        · go_simp
        go_simp
        refine calm_nil (hK.out _ ?_)
        clear hK K
        refine wpAnyH_done (by kernel_rfl) ?_ _
        clear x1 c0 HX1
        obtain ⟨hx4, h4⟩ := HR0.out 1
        replace hx4 : OpFive w3.drew og o := hx4
        replace h4 : DBoth W G B FC3 (N + 2) R FR (S.weaken (k : Int)) S d w3.drew := h4
        have hog4 : og < w3.drew.heap.size := hog3
        clear HR0
        go_upto_region 14 with fail
        generalize w3.drew = w4 at *
        have HX : Hid (∀ w', Turned (fun k => k = R.bb) w4 w' → w'.cell? ⟨R.c, 5, none⟩ = some (.slice (some ⟨R.bb, 0, none⟩) G.b.toNat R.bcap) ∧ w'.cell? ⟨og, 1, none⟩ = some (.int .i64 (k : Int))) := fun w' hw' => by
          have e1 := hx4.2.1
          rw [HHK.out.1] at e1
          exact ⟨(cell_same (hw'.block R.c h4.ref.lt h4.ref.ne1) _).trans h4.ref.cell.cells.c5, (cell_same (hw'.block og hog4 (fun e => hogF (.inr (e ▸ h4.ref.inF R.bb (.inr (.inl rfl)))))) _).trans e1⟩
        have d3 := (h4.ref.blocks k HHK.out.2).c3
        have f3 := h4.ref.bfr (k * 4 + 3)
        have t5 : Turned FR w4 (w4.setCell ⟨R.bb, k * 4 + 3, none⟩ (.bool true)).drew := ((Turned.refl FR w4).setCell (p := ⟨R.bb, k * 4 + 3, none⟩) (.inl (h4.ref.inF R.bb (.inr (.inl rfl)))) _).drew
        have h5 := h4.turnedR (h4.ref.set_wk (x := (k : Int)) rfl HHK.out.2).drew t5
        have hx5 := hx4.same (t5.block og hog4 (fun hf => hogF (.inr hf)))
        have HR : Hid (∃ FC' FR' S', DBoth W G B FC' (N + 4) R FR' S' S' d (w4.setCell ⟨R.bb, k * 4 + 3, none⟩ (.bool true)).drew ∧ OpFive (w4.setCell ⟨R.bb, k * 4 + 3, none⟩ (.bool true)).drew og o) := ⟨_, _, _, h5.mono (by omega), hx5⟩
        clear h4 h5 hx4 hx5 t5
        generalize S.wk (k : Int) = old at *
        generalize G.b.toNat = Bn at *
        refine held_open (Turned (fun k => k = R.bb) w4) (by kernel_rfl) ?_
        refine held_reads (rs := [0, 1, 2, 3, 4, 5, 6, 7]) (fuel := 1) (by kernel_rfl) (fun c d v a w h => by cases d <;> exact h) (by kernel_rfl) ((Turned.refl _ _).drew) (fun K hK => ?_)
        refine calm_move _ rfl (by rfl) rfl ?_
        go_simp
        refine calm_do (.pointer (some ⟨R.c, 0, none⟩)) rfl (by rfl) (fun w' hw' => ?_) ?_
        · go_simp
        go_simp
        refine calm_do (.pointer (some ⟨R.c, 5, none⟩)) rfl (by rfl) (fun w' hw' => ?_) ?_
        · go_simp
        go_simp
        refine calm_do (.slice (some ⟨R.bb, 0, none⟩) Bn R.bcap) rfl (by rfl) (fun w' hw' => ?_) ?_
        · have y5 := (HX.out w' hw').1
          go_simp
        go_simp
        refine calm_do (.pointer (some ⟨og, 1, none⟩)) rfl (by rfl) (fun w' hw' => ?_) ?_
        · skip
          go_simp
        go_simp
        refine calm_do (.int .i64 (k : Int)) rfl (by rfl) (fun w' hw' => ?_) ?_
        · have y6 := (HX.out w' hw').2
          go_simp
        go_simp
        refine calm_do (.pointer (some ⟨R.bb, k * 4, none⟩)) rfl (by rfl) (fun w' hw' => ?_) ?_
        · skip
          go_simp
        go_simp
        refine calm_do (.pointer (some ⟨R.bb, k * 4 + 3, none⟩)) rfl (by rfl) (fun w' hw' => ?_) ?_
        · skip
          go_simp
        go_simp
        refine calm_nil (hK.out _ ?_)
        clear hK K
        refine held_op (i := 8) (fuel := 0) (by kernel_rfl) rfl (by rfl) (fun K hK => ?_)
        have s5 : Turned (fun k => k = R.bb) w4 (w4.setCell ⟨R.bb, k * 4 + 3, none⟩ (.bool true)).drew := ((Turned.refl (fun k => k = R.bb) w4).setCell (p := ⟨R.bb, k * 4 + 3, none⟩) (.inl rfl) _).drew
        go_simp
        refine hK _ _ s5 ?_
        clear hK K
        refine wpAnyH_done (by kernel_rfl) ?_ _
        go_wp2_with fail
        go_meet
        exact HR.out
    · go_wp2_with fail
      clear x0 x1 x2 x3 x4
      refine (chipOn_any _ h1.chip).mono ?_
      rintro e w3 ⟨⟨r3, rfl⟩, hc3, t3⟩
      have h3 := h1.turnedC hc3 t3 (h1.inb.same rfl)
      have hx3 := HO.out w3 (t3.mono (fun k _ hk => .inl hk))
      have c7 := h3.ref.cell.cells.c7
      have f7 := h3.ref.cell.cells.fr 7
      have hcF := h3.ref.inF R.c (.inl rfl)
      have t4 : Turned FR w3 (w3.setCell ⟨R.c, 7, none⟩ (.bool true)) := (Turned.refl FR w3).setCell (p := ⟨R.c, 7, none⟩) (.inl hcF) _
      have h4 := h3.turnedR (h3.ref.set_up true) t4
      have hx4 := hx3.same (t4.block og (Nat.lt_of_lt_of_le hog1 t3.size) (fun hf => hogF (.inr hf)))
      have HR : Hid (∃ FC' FR' S', DBoth W G B FC' (N + 4) R FR' S' S' d (w3.setCell ⟨R.c, 7, none⟩ (.bool true)) ∧ OpFive (w3.setCell ⟨R.c, 7, none⟩ (.bool true)) og o) := ⟨_, _, _, h4.mono (by omega), hx4⟩
      clear h4 h3 hx3 hx4 t4 t3 hc3 hcF
      generalize S.up = old at *
      go_wp2_with fail
      go_meet
      exact HR.out
    · go_wp2_with fail
      clear x0 x1 x2 x3 x4
      refine (chipOff_any _ h1.chip).mono ?_
      rintro e w3 ⟨⟨r3, rfl⟩, hc3, t3⟩
      have h3 := h1.turnedC hc3 t3 (h1.inb.same rfl)
      have hx3 := HO.out w3 (t3.mono (fun k _ hk => .inl hk))
      have c7 := h3.ref.cell.cells.c7
      have f7 := h3.ref.cell.cells.fr 7
      have hcF := h3.ref.inF R.c (.inl rfl)
      have t4 : Turned FR w3 (w3.setCell ⟨R.c, 7, none⟩ (.bool false)) := (Turned.refl FR w3).setCell (p := ⟨R.c, 7, none⟩) (.inl hcF) _
      have h4 := h3.turnedR (h3.ref.set_up false) t4
      have hx4 := hx3.same (t4.block og (Nat.lt_of_lt_of_le hog1 t3.size) (fun hf => hogF (.inr hf)))
      have HR : Hid (∃ FC' FR' S', DBoth W G B FC' (N + 4) R FR' S' S' d (w3.setCell ⟨R.c, 7, none⟩ (.bool false)) ∧ OpFive (w3.setCell ⟨R.c, 7, none⟩ (.bool false)) og o) := ⟨_, _, _, h4.mono (by omega), hx4⟩
      clear h4 h3 hx3 hx4 t4 t3 hc3 hcF
      generalize S.up = old at *
      go_wp2_with fail
      go_meet
      exact HR.out
    · go_wp2_with fail
      clear x0 x1 x2 x3 x4
      refine (chipArm_any o.n o.page hNn hPg _ h1.chip).mono ?_
      rintro e w3 ⟨⟨r3, rfl⟩, hc3, t3⟩
      have h3 := h1.turnedC hc3 t3 (h1.inb.same rfl)
      have hx3 := HO.out w3 (t3.mono (fun k _ hk => .inl hk))
      obtain ⟨x0, x1, x2, x3, x4⟩ := id hx3
      go_wp2_with fail
      clear x0 x1 x2 x3 x4
      refine (ref7Arm_any o.n o.page hNn hPg _ h3.ref).mono ?_
      rintro e w4 ⟨⟨r4, rfl⟩, hc4, t4⟩
      have h4 := h3.turnedR hc4 t4
      have hx4 := hx3.same (t4.block og (Nat.lt_of_lt_of_le hog1 t3.size) (fun hf => hogF (.inr hf)))
      have HR : Hid (∃ FC' FR' S', DBoth W G B FC' (N + 4) R FR' S' S' d w4 ∧ OpFive w4 og o) := ⟨_, _, _, h4.mono (by omega), hx4⟩
      clear h4 h3 hx3 hx4 t4 t3 hc3 hc4
      go_wp2_with fail
      go_meet
      exact HR.out
    · go_wp2_with fail
      have hd := h1.below (Since.drew w1)
      clear x0 x1 x2 x3 x4
      refine held_open (Turned (fun k => FC k ∨ FR k) w1) (by kernel_rfl) ?_
      refine held_reads (rs := [0, 1, 2, 3, 4, 5, 6, 8, 9, 10, 11, 12, 13, 14]) (fuel := 4) (by kernel_rfl) (fun c d v a w h => by cases d <;> exact h) (by kernel_rfl) ((Turned.refl _ _).drew) (fun K hK => ?_)
      refine calm_move _ rfl (by rfl) rfl ?_
      go_simp
      refine calm_do (.pointer (some ⟨og, 1, none⟩)) rfl (by rfl) (fun w' hw' => ?_) ?_
      · skip
        go_simp
      go_simp
      refine calm_do (.int .i64 o.block) rfl (by rfl) (fun w' hw' => ?_) ?_
      · obtain ⟨x0, x1, x2, x3, x4⟩ := HO.out w' hw'
        go_simp
      go_simp
      refine calm_do (.pointer (some ⟨og, 2, none⟩)) rfl (by rfl) (fun w' hw' => ?_) ?_
      · skip
        go_simp
      go_simp
      refine calm_do (.int .i64 o.page) rfl (by rfl) (fun w' hw' => ?_) ?_
      · obtain ⟨x0, x1, x2, x3, x4⟩ := HO.out w' hw'
        go_simp
      go_simp
      refine calm_do (.pointer (some ⟨og, 4, none⟩)) rfl (by rfl) (fun w' hw' => ?_) ?_
      · skip
        go_simp
      go_simp
      refine calm_do (.slice o.ra o.rl o.rc) rfl (by rfl) (fun w' hw' => ?_) ?_
      · obtain ⟨x0, x1, x2, x3, x4⟩ := HO.out w' hw'
        go_simp
      go_simp
      refine calm_move _ rfl (by rfl) rfl ?_
      go_simp
      refine calm_do (.pointer (some ⟨og, 1, none⟩)) rfl (by rfl) (fun w' hw' => ?_) ?_
      · skip
        go_simp
      go_simp
      refine calm_do (.int .i64 o.block) rfl (by rfl) (fun w' hw' => ?_) ?_
      · obtain ⟨x0, x1, x2, x3, x4⟩ := HO.out w' hw'
        go_simp
      go_simp
      refine calm_do (.pointer (some ⟨og, 2, none⟩)) rfl (by rfl) (fun w' hw' => ?_) ?_
      · skip
        go_simp
      go_simp
      refine calm_do (.int .i64 o.page) rfl (by rfl) (fun w' hw' => ?_) ?_
      · obtain ⟨x0, x1, x2, x3, x4⟩ := HO.out w' hw'
        go_simp
      go_simp
      refine calm_do (.pointer (some ⟨og, 4, none⟩)) rfl (by rfl) (fun w' hw' => ?_) ?_
      · skip
        go_simp
      go_simp
      refine calm_do (.slice o.ra o.rl o.rc) rfl (by rfl) (fun w' hw' => ?_) ?_
      · obtain ⟨x0, x1, x2, x3, x4⟩ := HO.out w' hw'
        go_simp
      go_simp
      refine calm_nil (hK.out _ ?_)
      clear hK K
      refine held_op (i := 7) (fuel := 3) (by kernel_rfl) rfl (by rfl) (fun K hK => ?_)
      go_simp
      refine (chipForce_any o.block o.page hB hPg _ _ _ _ _ hd.chip (hsr.below (Since.drew w1)).row (fun h0 x hx hf => hsr.off h0 x hx (.inl hf)) hZB (by omega)).mono ?_
      rintro e w3 ⟨rfl, d3⟩
      obtain ⟨FC3, h3, t3, f3⟩ := hd.doesC d3 (inb_doForce hd.inb _ _ _)
      replace t3 : Turned (fun k => FC k ∨ FR k) w1 w3 := (Turned.refl (fun k => FC k ∨ FR k) w1).drew.trans t3
      refine hK _ _ t3 ?_
      clear hK K
      refine held_op (i := 15) (fuel := 2) (by kernel_rfl) rfl (by rfl) (fun K hK => ?_)
      go_simp
      have hr3 := hsr.step t3 f3
      refine (ref7Force_any o.block o.page _ _ _ _ _ h3.ref hr3.row hZB).mono ?_
      rintro e w4 ⟨rfl, d4⟩
      obtain ⟨FR4, h4, t4, f4⟩ := h3.doesR d4
      have t5 : Turned (fun k => FC k ∨ FR k) w1 w4 := t3.andThen t4 f3
      have HR : Hid (∃ FC' FR' S', DBoth W G B FC' (N + 4) R FR' S' S' d w4) := ⟨_, _, _, h4.mono (by omega)⟩
      refine hK _ _ t5 ?_
      clear hK K h4 h3 hd t4 t3 f3 f4 d3 d4
      refine held_reads (rs := [16, 17]) (fuel := 0) (by kernel_rfl) (fun c d v a w h => by cases d <;> exact h) (by kernel_rfl) (t5) (fun K hK => ?_)
      go_simp
      refine calm_do (.bool true) rfl (by rfl) (fun w' hw' => ?_) ?_
      · go_simp
      go_simp
      refine calm_assign _ rfl (by rfl) rfl ?_
      go_simp
      refine calm_nil (hK.out _ ?_)
      clear hK K
      refine wpAnyH_done (by kernel_rfl) ?_ _
      go_wp2_with fail
      go_ret
      exact ⟨rfl, HR.out⟩
    · have e0 : (kd == 0) = false := by simp [n0]
      have e1 : (kd == 1) = false := by simp [n1]
      have e3 : (kd == 3) = false := by simp [n3]
      have e5 : (kd == 5) = false := by simp [n5]
      have e6 : (kd == 6) = false := by simp [n6]
      have e7 : (kd == 7) = false := by simp [n7]
      have e8 : (kd == 8) = false := by simp [n8]
      have e9 : (kd == 9) = false := by simp [n9]
      have HR : Hid (∃ FC' FR' S', DBoth W G B FC' (N + 4) R FR' S' S' d w1 ∧ OpFive w1 og o) := ⟨_, _, _, h1.mono (by omega), hbx1⟩
      clear h1 hbx1 hsr
      go_wp2_with fail
      go_meet
      exact HR.out
  case rest =>
    clear h1 hsr HO hbx1 x0 x1 x2 x3 x4
    obtain ⟨FC3, FR3, S3, h3, hx3⟩ := hcut
    obtain ⟨x0, x1, x2, x3, x4⟩ := id hx3
    have hol : og < wc.heap.size := by
      rcases Nat.lt_or_ge og wc.heap.size with hh | hh
      · exact hh
      · have := hx3.1; simp [World.cell?, Array.getElem?_eq_none hh] at this
    obtain ⟨u, hU⟩ : ∃ u, S3.use G o.block (inB0 o.page G.p) = u := ⟨_, rfl⟩
    have HU : Hid (S3.use G o.block (inB0 o.page G.p) = u) := hU
    have HU2 : Hid (S3.use G o.block (inB0 o.page G.p && true) = u) := by show _ = _; rw [Bool.and_true]; exact hU
    by_cases hu : u = 0
    case neg =>
      have hq : (u != 0) = true := by simp [hu]
      go_wp2_with fail
      clear x0 x1 x2 x3 x4
      refine (drvRead_no o.block o.page hB _ h3.box h3.chip u hu HU).mono ?_
      rintro e w5 ⟨rfl, q5⟩
      have h5 := h3.below q5
      obtain ⟨x0, x1, x2, x3, x4⟩ := hx3.same (q5.block og hol)
      have hah := ref8Ahead_any o.block o.page true w5 h5.ref
      rw [HU2.out] at hah
      go_wp2_with fail
      refine hah.mono ?_
      rintro e w6 ⟨rfl, rfl⟩
      have HR : Hid (∃ FC' FR' S', DBoth W G B FC' (N + 4) R FR' S' S' d w5) := ⟨_, _, _, h5⟩
      clear x0 x1 x2 x3 x4 h3 h5 hx3 q5 hah hU hu
      go_wp2_with fail
      go_ret
      exact ⟨rfl, HR.out⟩
    subst hu
    obtain ⟨⟨hup, hib, hpi⟩, _⟩ := use_zero hU
    rw [hpi] at hU
    have hpp : hasP G o.block o.page = true := by unfold hasP; rw [hib, hpi]; rfl
    go_wp2_with fail
    clear x0 x1 x2 x3 x4
    refine (drvRead_yes o.block o.page hB hPg _ h3.box h3.chip hpi hU).mono ?_
    rintro e w5 ⟨X, k, er, ao, co, ⟨hX, _, _⟩, rfl, rX, q5⟩
    have h5 := h3.below q5
    obtain ⟨x0, x1, x2, x3, x4⟩ := hx3.same (q5.block og hol)
    have hah := ref8Ahead_any o.block o.page true w5 h5.ref
    rw [HU2.out] at hah
    go_wp2_with fail
    refine hah.mono ?_
    rintro e w6 ⟨rfl, rfl⟩
    go_wp2_with fail
    clear x0 x1 x2 x3 x4 hah
    refine (ref7Read_yes _ _ _ h5.ref hup hpp).mono ?_
    rintro e w6 ⟨a6, c6, rfl, r6, q6⟩
    have h6 := h5.below q6
    have hzl : (readZ G.L (S3.pg o.block o.page) (S3.wr o.block o.page)).length = G.L := r6.hlen
    have hzb := isB_readZ (L := G.L) (h6.chip.pg_ok (x := o.block) (y := o.page)).1 (S3.wr o.block o.page)
    obtain ⟨c0, c1, c2, c3, c4⟩ := h6.ref.geo
    have hec := eccRead_is G a6 c6 _ w6 r6 hzb
    go_wp2_with fail
    clear c0 c1 c2 c3 c4
    refine hec.mono ?_
    rintro e w7 ⟨Y, k', er', ao', co', ⟨hY, _, _⟩, rfl, rY, q7⟩
    obtain ⟨rfl, rfl, rfl⟩ := isRead_one hzl hX hY
    have h7 := h6.below q7
    have HR : Hid (∃ FC' FR' S', DBoth W G B FC' (N + 4) R FR' S' S' d w7) := ⟨_, _, _, h7⟩
    have hc1 := conv_row Tryz.underlying38 Tryz.underlying5 Tryz.underlying9 ((rX.below q6 (Nat.le_refl _)).below q7 (Nat.le_refl _))
    have hc2 := conv_row Tryz.underlying38 Tryz.underlying5 Tryz.underlying9 rY
    clear h3 h5 h6 h7 r6 rX rY q5 q6 q7 hx3 hX hY hzl hzb hec hU HU HU2 hpp hpi hib hup
    generalize X.length = lx at *
    generalize strOfNums X = ss at *
    go_wp2_with fail
    go_ret
    exact ⟨rfl, HR.out⟩
end Go.Proofs.YtggpgdaacbmmdaaGreat
