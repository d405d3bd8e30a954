/-
  A walk of layer 7's law ChipKeeps. (Written by tools/gen/chip_law_keeps.py.)
-/
import Derived.Test.YtjagnpljhedfjaaChipScript
import Derived.Deep.LoopGhost
import Derived.Deep.CutRange
import Derived.Deep.CutBlock
namespace Go.Proofs.Ytjagnpljhedfjaa
open Go.RowKit Go.Maps
set_option linter.unusedVariables false
set_option maxRecDepth 8192

theorem Try.info4 : (Try.prog.info? 4).map (fun i => (i.zero, i.size, i.bytes)) = some (some (.bool false), 1, 1) := by kernel_rfl

/-- The fuse does not fall, marks stay. -/
def Mono (S S' : CS) : Prop := (∀ b, S.bd b = true → S'.bd b = true) ∧ S.fu ≤ S'.fu
theorem Mono.same {S S' : CS} (h1 : S'.bd = S.bd) (h2 : S'.fu = S.fu) : Mono S S' := ⟨fun b h => by rw [h1]; exact h, by rw [h2]; exact Int.le_refl _⟩
theorem Mono.refl (S : CS) : Mono S S := Mono.same rfl rfl
theorem counted_bd (S : CS) : S.counted.bd = S.bd := by unfold CS.counted; split; · rfl
                                                        · split <;> rfl
theorem counted_fu (S : CS) : S.counted.fu = S.fu := by unfold CS.counted; split; · rfl
                                                        · split <;> rfl
theorem mono_counted (S : CS) : Mono S S.counted := Mono.same (counted_bd S) (counted_fu S)
theorem mono_program (G : Geo) (S : CS) (x y : Int) (z : List Int) : Mono S (S.doProgram G x y z).2 := by
  unfold CS.doProgram
  repeat' split
  all_goals first | exact Mono.refl S | exact mono_counted S | exact Mono.same (counted_bd S) (counted_fu S)
theorem mono_erase (G : Geo) (S : CS) (x : Int) : Mono S (S.doErase G x).2 := by
  unfold CS.doErase
  repeat' split
  all_goals first | exact Mono.refl S | exact mono_counted S | exact Mono.same (counted_bd S) (counted_fu S)
theorem mono_marked (S S1 : CS) (h : Mono S S1) (x : Int) : Mono S (S1.mark x) := ⟨fun b hb => by unfold CS.mark; simp [h.1 b hb], h.2⟩
theorem mono_mark (G : Geo) (S : CS) (x : Int) : Mono S (S.doMark G x).2 := by
  unfold CS.doMark
  repeat' split
  all_goals first | exact Mono.refl S | exact mono_counted S | exact mono_marked S _ (mono_counted S) x
theorem mono_burn (S : CS) (x : Int) : Mono S (S.doBurn x).2 := by
  unfold CS.doBurn
  repeat' split
  all_goals first | exact Mono.refl S | exact mono_counted S | exact ⟨fun b hb => (counted_bd S ▸ hb : S.counted.bd b = true), (by show S.fu ≤ x; omega)⟩
theorem mono_weak (G : Geo) (S : CS) (x : Int) : Mono S (S.doWeak G x) := by unfold CS.doWeak; split <;> exact Mono.same rfl rfl
theorem mono_force (G : Geo) (S : CS) (x y : Int) (z : List Int) : Mono S (S.doForce G x y z).2 := by unfold CS.doForce; split <;> exact Mono.same rfl rfl

/-- A row of bools in a block that is none of F. -/
structure BK (F : Nat → Prop) (w : World) (r : Nat) (M : List Bool) : Prop where
  blk : w.heap[r]? = some (.cells (M.map Value.bool).toArray 4 (0, 0))
  off : ¬ F r
theorem BK.lt {F : Nat → Prop} {w : World} {r : Nat} {M : List Bool} (h : BK F w r M) : r < w.heap.size := (Array.getElem?_eq_some_iff.1 h.blk).1
theorem BK.step {F F' : Nat → Prop} {w w' : World} {r : Nat} {M : List Bool} (h : BK F w r M) (t : Turned F w w') (f : ∀ x, F' x → F x ∨ w.heap.size ≤ x) : BK F' w' r M :=
  ⟨(t.block r h.lt h.off).trans h.blk, fun hf => (f r hf).elim h.off (fun e => by have := h.lt; omega)⟩
theorem BK.below {F : Nat → Prop} {w w' : World} {r : Nat} {M : List Bool} (h : BK F w r M) (q : Below w.heap.size w w') : BK F w' r M := ⟨(q.block r h.lt).trans h.blk, h.off⟩
theorem BK.cell {F : Nat → Prop} {w : World} {r : Nat} {M : List Bool} (h : BK F w r M) {i : Nat} (hi : i < M.length) : w.cell? ⟨r, i, none⟩ = some (.bool (M[i]?.getD false)) := by
  have := h.blk
  simp [World.cell?, this, hi]
theorem BK.frozen {F : Nat → Prop} {w : World} {r : Nat} {M : List Bool} (h : BK F w r M) (i : Nat) : w.frozen? ⟨r, i, none⟩ = false := by
  have := h.blk
  simp [World.frozen?, this]
theorem BK.set {F : Nat → Prop} {w : World} {r : Nat} {M : List Bool} (h : BK F w r M) (i : Nat) (v : Bool) : BK F (w.setCell ⟨r, i, none⟩ (.bool v)) r (M.set i v) := by
  refine ⟨?_, h.off⟩
  rw [block_setC (i := i) h.blk (.bool v), List.map_set]
  simp
theorem makeBools (n : Nat) (hn : n ≤ 1000) (w : World) : ∃ w', Sem.run Try.prog (Instr.makeSlice 47 (.int .i64 (n : Int)) (.int .i64 (n : Int))) w = .ok (.slice (some ⟨w.heap.size, 0, none⟩) n n) w' ∧
    w'.heap[w.heap.size]? = some (.cells ((List.replicate n false).map Value.bool).toArray 4 (0, 0)) ∧ Below w.heap.size w w' := by
  obtain ⟨i0, hi0, hz0, hz1, hz2⟩ := info_parts Try.info4
  obtain ⟨w', hrun, r1, r2⟩ := run_make_full (P := Try.prog) w w.heap.size 47 4 i0 (.bool false) 1 Try.underlying47 hi0 hz0 hz1 .i64 .i64 n (by rw [hz2]; omega) (by unfold maxLen; omega) (Nat.le_refl _)
  have e : (madeCells (Value.bool false).cells (n * 1)).toList = (List.replicate n false).map Value.bool := by
    rw [Nat.mul_one]
    simpa [Value.cells] using toList_madeCells_one (Value.bool false) n
  rw [e] at r1
  exact ⟨w', hrun, heap_of_owns r1, (Below.refl _ _).grown r2 (Nat.le_refl _) (by simp)⟩
theorem Here.does2 {W w w' : World} {G : Geo} {B : CB} {F : Nat → Prop} {N N' : Nat} {S S' : CS} {r : Nat} {M : List Bool} (h : Here W G B F N S w) (k : BK F w r M) (d : Does G B F N' w S' w') : ∃ F', Here W G B F' N' S' w' ∧ BK F' w' r M := by
  obtain ⟨F', h1, h2, h3⟩ := d
  exact ⟨F', ⟨h1, fun x hx => (h3 x hx).elim (h.low x) (fun e => Nat.le_trans h.bel.size e), h.bel.trans (h2.below h.bel.size h.low)⟩, k.step h2 h3⟩
theorem Does.turned {G : Geo} {B : CB} {F : Nat → Prop} {N : Nat} {S' : CS} {w w' : World} (h : ChipAt G B F N S' w') (t : Turned F w w') : Does G B F N w S' w' := ⟨F, h, t, fun _ hx => .inl hx⟩
set_option maxHeartbeats 6400000 in
set_option maxRecDepth 100000 in
theorem walk_chipKeeps (b p s n f : Int) (ba : Option Addr) (bl bc : Nat) (bz : List Int) (sa : Option Addr) (sl sc : Nat) (ops : Nat → OpV) (w : World) (hbad : Row .i64 w ba bl bc bz) (hbw : ∀ n ∈ bz, (Lit.int .i64 n).wf = true) (hsc : ScriptAt w sa sl sc ops) :
    Calls Try.prog 4 #[.agg #[.int .i64 b, .int .i64 p, .int .i64 s, .int .i64 n, .int .i64 f], .slice ba bl bc, .slice sa sl sc] w fun e w' => e = .returned (.bool true) ∧ Below w.heap.size w w' := by
  have hbm : bl ≤ maxLen := Nat.le_trans hbad.hcap hbad.hmax
  unfold maxLen at hbm
  cases hsm : small7 b p s n f
  · go_enter Try.func4, Try.ntmps4
    go_wp2_with fail
    refine (small7_any b p s n f _).mono ?_
    rintro e w1 ⟨rfl, q1⟩
    rw [hsm]
    go_wp2_with fail
    go_ret
    exact ⟨rfl, btrans (below_one _ _) q1⟩
  by_cases h60 : 60 < bl
  · have h60' : (60 : Int) < (bl : Int) := by omega
    go_enter Try.func4, Try.ntmps4
    go_wp2_with fail
    refine (small7_any b p s n f _).mono ?_
    rintro e w1 ⟨rfl, q1⟩
    rw [hsm]
    go_wp2_with fail
    go_ret
    exact ⟨rfl, btrans (below_one _ _) q1⟩
  have h60' : ¬ (60 : Int) < (bl : Int) := by omega
  cases hfew : fewB sl ops
  · go_enter Try.func4, Try.ntmps4
    go_wp2_with fail
    refine (small7_any b p s n f _).mono ?_
    rintro e w1 ⟨rfl, q1⟩
    rw [hsm]
    go_wp2_with fail
    refine (few_any _ _ _ ops _ (hsc.below (btrans (below_one _ _) q1) (Nat.le_refl _))).mono ?_
    rw [hfew]
    rintro e w2 ⟨rfl, rfl⟩
    go_wp2_with fail
    go_ret
    exact ⟨rfl, btrans (below_one _ _) q1⟩
  have TOFEW : Hid True := trivial
  cases hmy : mayG b p s n f
  · go_enter Try.func4, Try.ntmps4
    go_wp2_with fail
    refine (small7_any b p s n f _).mono ?_
    rintro e w1 ⟨rfl, q1⟩
    rw [hsm]
    go_wp2_with fail
    refine (few_any _ _ _ ops _ (hsc.below (btrans (below_one _ _) q1) (Nat.le_refl _))).mono ?_
    rw [hfew]
    rintro e w2 ⟨rfl, rfl⟩
    obtain ⟨_, c0, c1, c2, c3, c4⟩ := (gbox_new w 23 b p s n f).below q1 (Nat.le_refl _)
    go_wp2_with fail
    refine (chipNew_no b p s n f _ _ _ _ hmy).mono ?_
    rintro e w3 ⟨rfl, q3⟩
    go_wp2_with fail
    refine (awake7_any _).mono ?_
    rintro e w4 ⟨rfl, q4⟩
    go_wp2_with fail
    go_ret
    exact ⟨rfl, btrans (btrans (btrans (below_one _ _) q1) q3) q4⟩
  obtain ⟨G, rfl, rfl, rfl, rfl, rfl, hb16, hp8⟩ := geo_ex hsm hmy
  have HSM : Hid (small7 G.b G.p G.s G.n G.f = true) := hsm
  clear hsm hmy
  have hbb := G.ok.hb
  by_cases hall : ∀ x ∈ bz, inB0 x G.b = true
  case neg =>
    obtain ⟨x, hx, hxb⟩ : ∃ x ∈ bz, inB0 x G.b = false := by
      by_cases hh : ∃ x ∈ bz, inB0 x G.b = false
      · exact hh
      · exact absurd (fun x hx => by cases h : inB0 x G.b; · exact absurd ⟨x, hx, h⟩ hh
                                     · rfl) hall
    go_enter Try.func4, Try.ntmps4
    go_wp2_with fail
    refine (small7_any G.b G.p G.s G.n G.f _).mono ?_
    rintro e w1 ⟨rfl, q1⟩
    rw [HSM.out]
    go_wp2_with fail
    refine (few_any _ _ _ ops _ (hsc.below (btrans (below_one _ _) q1) (Nat.le_refl _))).mono ?_
    rw [hfew]
    rintro e w2 ⟨rfl, rfl⟩
    obtain ⟨_, c0, c1, c2, c3, c4⟩ := (gbox_new w 23 G.b G.p G.s G.n G.f).below q1 (Nat.le_refl _)
    go_wp2_with fail
    refine (chipNew_bad G _ _ _ bz _ (hbad.below (btrans (below_one _ _) q1) (Nat.le_refl _)) hbw (by omega) hx hxb).mono ?_
    rintro e w3 ⟨rfl, q3⟩
    go_wp2_with fail
    refine (awake7_any _).mono ?_
    rintro e w4 ⟨rfl, q4⟩
    go_wp2_with fail
    go_ret
    exact ⟨rfl, btrans (btrans (btrans (below_one _ _) q1) q3) q4⟩
  have hfw : sl ≤ 200 ∧ ∀ i, i < sl → (ops i).rl ≤ 200 ∧ (ops i).pl ≤ 60 := by unfold fewB at hfew; exact of_decide_eq_true hfew
  have hsl : sl ≤ 200 := hfw.1
  clear hfw
  obtain ⟨Bn, hBn⟩ : ∃ Bn : Nat, G.b = (Bn : Int) := ⟨G.b.toNat, by omega⟩
  have hBn2 : 1 ≤ Bn ∧ Bn ≤ 16 := by omega
  have HBn : Hid (G.b = (Bn : Int)) := hBn
  clear hBn
  go_enter Try.func4, Try.ntmps4
  go_wp2_with fail
  have q0 := below_one w (.cells #[.int .i64 G.b, .int .i64 G.p, .int .i64 G.s, .int .i64 G.n, .int .i64 G.f] 23)
  have gb := gbox_new w 23 G.b G.p G.s G.n G.f
  have HQ0 : Hid (Below w.heap.size w (w.alloc (.cells #[.int .i64 G.b, .int .i64 G.p, .int .i64 G.s, .int .i64 G.n, .int .i64 G.f] 23))) := q0
  have HLT : Hid (∀ i, i < sl → (0 < (ops i).rl → ∀ x, (ops i).ra = some x → x.block < w.heap.size)) := fun i hi => (hsc.ok i hi).raw.lt
  have hsc0 := hsc.below q0 (Nat.le_refl _)
  have hbad0 := hbad.below q0 (Nat.le_refl _)
  clear q0 hsc hbad
  generalize hg0 : w.heap.size = g at gb ⊢
  have HG0 : Hid (w.heap.size = g) := hg0
  clear hg0
  generalize w.alloc (.cells #[.int .i64 G.b, .int .i64 G.p, .int .i64 G.s, .int .i64 G.n, .int .i64 G.f] 23) = W at *
  refine (small7_any _ _ _ _ _ _).mono ?_
  rintro e w1 ⟨rfl, q1⟩
  rw [HSM.out]
  go_wp2_with fail
  refine (few_any _ _ _ ops _ (hsc0.below q1 (Nat.le_refl _))).mono ?_
  rw [hfew]
  rintro e w2 ⟨rfl, rfl⟩
  obtain ⟨_, c0, c1, c2, c3, c4⟩ := gb.below q1 (Nat.le_refl _)
  go_wp2_with fail
  clear c0 c1 c2 c3 c4
  refine (chipNew_yes G _ _ _ bz _ (hbad0.below q1 (Nat.le_refl _)) hbw (by omega) hall).mono ?_
  rintro e w3 ⟨c, rfl, hnew⟩
  obtain ⟨B, F, rfl, h3⟩ := newChip_here q1 hnew
  clear q1 hnew hbad0 hall hbw
  obtain ⟨_, c0, c1, c2, c3, c4⟩ := gb.below h3.bel (Nat.le_refl _)
  rw [HBn.out] at c0
  obtain ⟨w4, hmk, hg4, q4⟩ := makeBools Bn (by omega) w3
  have hrF : ¬ F w3.heap.size := fun hf => by have := h3.chip.fresh _ hf; omega
  have k4 : BK F w4 w3.heap.size (List.replicate Bn false) := ⟨hg4, hrF⟩
  have h4 := h3.below q4
  have hrW : Hid (W.heap.size ≤ w3.heap.size) := h3.bel.size
  clear hg4 hrF h3 q4
  generalize w3.heap.size = r at *
  have H0 : Hid (∃ F S M, Here W G B F (60 + 2 * 0) S w4 ∧ BK F w4 r M ∧ M.length = Bn ∧ 0 ≤ S.fu ∧ ∀ j, j < Bn → M[j]?.getD false = true → S.bd (j : Int) = true) :=
    ⟨F, _, _, ⟨h4.chip.mono (by omega), h4.low, h4.bel⟩, k4, by simp, Int.le_refl 0, fun j hj hm => by simp [hj] at hm⟩
  clear h4 k4
  go_wp2_with fail
  clear hmk c0 c1 c2 c3 c4
  go_loopg [9, 11] sl (fun k x9 x11 wr => ∃ (i : Nat) (fz : Int), i ≤ sl ∧ k = sl - i ∧ 0 ≤ fz ∧ fz ≤ 64 ∧ x11 = .int .i64 (i : Int) ∧ x9 = .int .i64 fz ∧ Hid (∃ F S M, Here W G B F (60 + 2 * i) S wr ∧ BK F wr r M ∧ M.length = Bn ∧ fz ≤ S.fu ∧ ∀ j, j < Bn → M[j]?.getD false = true → S.bd (j : Int) = true))
  case atStart => exact ⟨0, 0, Nat.zero_le _, rfl, by omega, by omega, rfl, rfl, H0⟩
  case round =>
    clear H0
    obtain ⟨i, fz, hi, rfl, hf0, hf64, rfl, rfl, HI⟩ := hrel
    obtain ⟨F1, S1, M1, h1, k1, hM1, hfz, hmk⟩ := HI.out
    by_cases hlt : i < sl
    · have hlt' : (i : Int) < (sl : Int) := by omega
      have hscr := hsc0.below h1.bel (Nat.le_refl _)
      obtain ⟨sb, so, rfl, hsb, hcs⟩ := hscr.cells i hlt
      obtain ⟨s0, s1, s2, s3, s4, s5⟩ := hcs
      have hok := hscr.ok i hlt
      have HRL : Hid (0 < (ops i).rl → ∀ x, (ops i).ra = some x → x.block < w.heap.size) := HLT.out i hlt
      clear hscr HI
      generalize ops i = o at *
      have hbx : OpCells (wr.alloc (.cells #[.int .i64 o.kind, .int .i64 o.block, .int .i64 o.page, .int .i64 o.n, .slice o.ra o.rl o.rc, .slice o.pa o.pl o.pc] 40)) wr.heap.size 0 o := by
        refine ⟨?_, ?_, ?_, ?_, ?_, ?_⟩ <;> (rw [World.cell?_alloc_at _ _ _ _ rfl]; rfl)
      have q2 := below_one wr (.cells #[.int .i64 o.kind, .int .i64 o.block, .int .i64 o.page, .int .i64 o.n, .slice o.ra o.rl o.rc, .slice o.pa o.pl o.pc] 40)
      have h2 := h1.below q2
      have k2 := k1.below q2
      have hraw := hok.raw.below q2 (Nat.le_refl _)
      go_upto_block 2 with fail
      generalize wr.alloc (.cells #[.int .i64 o.kind, .int .i64 o.block, .int .i64 o.page, .int .i64 o.n, .slice o.ra o.rl o.rc, .slice o.pa o.pl o.pc] 40) = w2 at *
      generalize wr.heap.size = og at *
      clear s0 s1 s2 s3 s4 s5 h1 k1 q2
      have hoff : Off F1 .u8 w2 o.ra o.rl o.rc o.rz := Off.of_old hraw (fun h0 x hx => HRL.out h0 x hx) (fun x hx => Nat.le_trans HQ0.out.size (h2.low x hx))
      have hgk : True := trivial
      obtain ⟨x0, x1, x2, x3, x4, x5⟩ := hbx
      rw [Nat.zero_add] at x1 x2 x3 x4 x5
      have hK := hok.kind
      have hB := hok.block
      have hPg := hok.page
      have hN := hok.n
      have hZB := hok.rb
      clear hok hraw
      go_cut [] from 47 to 149 (fun wx => ∃ F S, Here W G B F (60 + 2 * (i + 1)) S wx ∧ BK F wx r M1 ∧ Mono S1 S)
      case first =>
        generalize o.kind = kd at *
        rcases (show kd = 0 ∨ kd = 1 ∨ kd = 3 ∨ kd = 5 ∨ kd = 6 ∨ kd = 7 ∨ kd = 8 ∨ kd = 9 ∨ kd = 11 ∨ (¬ kd = 0 ∧ ¬ kd = 1 ∧ ¬ kd = 3 ∧ ¬ kd = 5 ∧ ¬ kd = 6 ∧ ¬ kd = 7 ∧ ¬ kd = 8 ∧ ¬ kd = 9 ∧ ¬ kd = 11) by omega) with rfl | rfl | rfl | rfl | rfl | rfl | rfl | rfl | rfl | ⟨n0, n1, n3, n5, n6, n7, n8, n9, n11⟩
        · go_wp2_with fail
          refine (chipProgram_any o.block o.page hB hPg _ _ _ _ w2 h2.chip hoff.row hoff.off hZB (by omega)).mono ?_
          rintro e w3 ⟨rfl, d3⟩
          obtain ⟨F3, h3, k3⟩ := h2.does2 k2 d3
          have HR : Hid (∃ F S, Here W G B F (60 + 2 * (i + 1)) S w3 ∧ BK F w3 r M1 ∧ Mono S1 S) := ⟨F3, _, ⟨h3.chip.mono (by omega), h3.low, h3.bel⟩, k3, mono_program G S1 o.block o.page o.rz⟩
          clear h3 k3 d3
          go_wp2_with fail
          go_meet
          exact HR.out
        · go_wp2_with fail
          refine (chipErase_any o.block hB w2 h2.chip).mono ?_
          rintro e w3 ⟨rfl, d3⟩
          obtain ⟨F3, h3, k3⟩ := h2.does2 k2 d3
          have HR : Hid (∃ F S, Here W G B F (60 + 2 * (i + 1)) S w3 ∧ BK F w3 r M1 ∧ Mono S1 S) := ⟨F3, _, ⟨h3.chip.mono (by omega), h3.low, h3.bel⟩, k3, mono_erase G S1 o.block⟩
          clear h3 k3 d3
          go_wp2_with fail
          go_meet
          exact HR.out
        · go_wp2_with fail
          refine (chipMark_any o.block hB w2 h2.chip (by omega)).mono ?_
          rintro e w3 ⟨rfl, d3⟩
          obtain ⟨F3, h3, k3⟩ := h2.does2 k2 d3
          have HR : Hid (∃ F S, Here W G B F (60 + 2 * (i + 1)) S w3 ∧ BK F w3 r M1 ∧ Mono S1 S) := ⟨F3, _, ⟨h3.chip.mono (by omega), h3.low, h3.bel⟩, k3, mono_mark G S1 o.block⟩
          clear h3 k3 d3
          go_wp2_with fail
          go_meet
          exact HR.out
        · go_wp2_with fail
          refine (chipBurn_any o.n w2 h2.chip).mono ?_
          rintro e w3 ⟨rfl, d3⟩
          obtain ⟨F3, h3, k3⟩ := h2.does2 k2 d3
          have HR : Hid (∃ F S, Here W G B F (60 + 2 * (i + 1)) S w3 ∧ BK F w3 r M1 ∧ Mono S1 S) := ⟨F3, _, ⟨h3.chip.mono (by omega), h3.low, h3.bel⟩, k3, mono_burn S1 o.n⟩
          clear h3 k3 d3
          go_wp2_with fail
          go_meet
          exact HR.out
        · go_wp2_with fail
          refine (chipOn_any w2 h2.chip).mono ?_
          rintro e w3 ⟨⟨r3, rfl⟩, hc3, t3⟩
          have d3 := Does.turned hc3 t3
          obtain ⟨F3, h3, k3⟩ := h2.does2 k2 d3
          have HR : Hid (∃ F S, Here W G B F (60 + 2 * (i + 1)) S w3 ∧ BK F w3 r M1 ∧ Mono S1 S) := ⟨F3, _, ⟨h3.chip.mono (by omega), h3.low, h3.bel⟩, k3, Mono.same rfl rfl⟩
          clear h3 k3 d3 hc3 t3
          go_wp2_with fail
          go_meet
          exact HR.out
        · go_wp2_with fail
          refine (chipOff_any w2 h2.chip).mono ?_
          rintro e w3 ⟨⟨r3, rfl⟩, hc3, t3⟩
          have d3 := Does.turned hc3 t3
          obtain ⟨F3, h3, k3⟩ := h2.does2 k2 d3
          have HR : Hid (∃ F S, Here W G B F (60 + 2 * (i + 1)) S w3 ∧ BK F w3 r M1 ∧ Mono S1 S) := ⟨F3, _, ⟨h3.chip.mono (by omega), h3.low, h3.bel⟩, k3, Mono.same rfl rfl⟩
          clear h3 k3 d3 hc3 t3
          go_wp2_with fail
          go_meet
          exact HR.out
        · go_wp2_with fail
          refine (chipArm_any o.n o.page hN hPg w2 h2.chip).mono ?_
          rintro e w3 ⟨⟨r3, rfl⟩, hc3, t3⟩
          have d3 := Does.turned hc3 t3
          obtain ⟨F3, h3, k3⟩ := h2.does2 k2 d3
          have HR : Hid (∃ F S, Here W G B F (60 + 2 * (i + 1)) S w3 ∧ BK F w3 r M1 ∧ Mono S1 S) := ⟨F3, _, ⟨h3.chip.mono (by omega), h3.low, h3.bel⟩, k3, Mono.same rfl rfl⟩
          clear h3 k3 d3 hc3 t3
          go_wp2_with fail
          go_meet
          exact HR.out
        · go_wp2_with fail
          refine (chipWeak_any o.block hB w2 h2.chip (by omega)).mono ?_
          rintro e w3 ⟨⟨r3, rfl⟩, d3⟩
          obtain ⟨F3, h3, k3⟩ := h2.does2 k2 d3
          have HR : Hid (∃ F S, Here W G B F (60 + 2 * (i + 1)) S w3 ∧ BK F w3 r M1 ∧ Mono S1 S) := ⟨F3, _, ⟨h3.chip.mono (by omega), h3.low, h3.bel⟩, k3, mono_weak G S1 o.block⟩
          clear h3 k3 d3
          go_wp2_with fail
          go_meet
          exact HR.out
        · go_wp2_with fail
          refine (chipForce_any o.block o.page hB hPg _ _ _ _ w2 h2.chip hoff.row hoff.off hZB (by omega)).mono ?_
          rintro e w3 ⟨rfl, d3⟩
          obtain ⟨F3, h3, k3⟩ := h2.does2 k2 d3
          have HR : Hid (∃ F S, Here W G B F (60 + 2 * (i + 1)) S w3 ∧ BK F w3 r M1 ∧ Mono S1 S) := ⟨F3, _, ⟨h3.chip.mono (by omega), h3.low, h3.bel⟩, k3, mono_force G S1 o.block o.page o.rz⟩
          clear h3 k3 d3
          go_wp2_with fail
          go_meet
          exact HR.out
        · have e0 : (kd == 0) = false := by simp [n0]
          have e1 : (kd == 1) = false := by simp [n1]
          have e3 : (kd == 3) = false := by simp [n3]
          have e5 : (kd == 5) = false := by simp [n5]
          have e6 : (kd == 6) = false := by simp [n6]
          have e7 : (kd == 7) = false := by simp [n7]
          have e8 : (kd == 8) = false := by simp [n8]
          have e9 : (kd == 9) = false := by simp [n9]
          have e11 : (kd == 11) = false := by simp [n11]
          have HR : Hid (∃ F S, Here W G B F (60 + 2 * (i + 1)) S w2 ∧ BK F w2 r M1 ∧ Mono S1 S) := ⟨F1, S1, ⟨h2.chip.mono (by omega), h2.low, h2.bel⟩, k2, Mono.refl S1⟩
          clear h2 k2
          go_wp2_with fail
          go_meet
          exact HR.out
      case rest =>
        clear h2 k2 hoff x0 x1 x2 x3 x4 x5
        obtain ⟨F3, S3, h3, k3, hmono⟩ := hcut
        have hm3 : ∀ j, j < Bn → M1[j]?.getD false = true → S3.bd (j : Int) = true := fun j hj hm => hmono.1 _ (hmk j hj hm)
        have hfz3 : fz ≤ S3.fu := by have := hmono.2; omega
        have hfu3 := h3.chip.fu
        clear hmono hmk hfz
        go_wp2_with fail
        refine (chipUp_any _ h3.chip.cell).mono ?_
        cases hu : S3.up
        · rintro e w5 ⟨rfl, rfl⟩
          have HR : Hid (∃ F S M, Here W G B F (60 + 2 * (i + 1)) S wc ∧ BK F wc r M ∧ M.length = Bn ∧ fz ≤ S.fu ∧ ∀ j, j < Bn → M[j]?.getD false = true → S.bd (j : Int) = true) := ⟨F3, S3, M1, h3, k3, hM1, hfz3, hm3⟩
          clear h3 k3 hm3 hfz3 hfu3
          go_wp2_with fail
          go_roundg (sl - (i + 1))
          case measure => omega
          case rel => exact ⟨i + 1, fz, by omega, rfl, hf0, hf64, by go_num, rfl, HR⟩
        · rintro e w5 ⟨rfl, rfl⟩
          go_wp2_with fail
          refine (chipFuse_any _ h3.chip.cell).mono ?_
          rw [if_pos hu]
          rintro e w5 ⟨rfl, rfl⟩
          have hnl : ¬ S3.fu < fz := by omega
          have HFU : Hid (S3.fu = S3.fu) := rfl
          obtain ⟨fu, hfu⟩ : ∃ fu, S3.fu = fu := ⟨_, rfl⟩
          have hfz4 : fz ≤ fu := by omega
          have hfu64 : 0 ≤ fu ∧ fu ≤ 64 := by omega
          rw [hfu]
          have HFE : Hid (S3.fu = fu) := hfu
          clear HFU hfz3 hnl hfu3 hfu
          have hnl : ¬ fu < fz := by omega
          go_wp2_with fail
          refine (chipFuse_any _ h3.chip.cell).mono ?_
          rw [if_pos hu, HFE.out]
          rintro e w5 ⟨rfl, rfl⟩
          have HI0 : Hid (∃ M, Here W G B F3 (60 + 2 * (i + 1)) S3 wc ∧ BK F3 wc r M ∧ M.length = Bn ∧ ∀ j, j < Bn → M[j]?.getD false = true → S3.bd (j : Int) = true) := ⟨M1, h3, k3, hM1, hm3⟩
          clear h3 k3 hm3 hM1
          go_wp2_with fail
          go_loopg [13] Bn (fun k x13 wi => ∃ j : Nat, j ≤ Bn ∧ k = Bn - j ∧ x13 = .int .i64 (j : Int) ∧ Hid (∃ M, Here W G B F3 (60 + 2 * (i + 1)) S3 wi ∧ BK F3 wi r M ∧ M.length = Bn ∧ ∀ j, j < Bn → M[j]?.getD false = true → S3.bd (j : Int) = true))
          case atStart => exact ⟨0, Nat.zero_le _, rfl, rfl, HI0⟩
          case round =>
            clear HI0
            obtain ⟨j, hj, rfl, rfl, HI⟩ := hrel
            obtain ⟨M2, h5, k5, hM2, hm5⟩ := HI.out
            obtain ⟨_, c0, c1, c2, c3, c4⟩ := gb.below h5.bel (Nat.le_refl _)
            rw [HBn.out] at c0
            clear HI
            by_cases hlt2 : j < Bn
            · have hlt2' : (j : Int) < (Bn : Int) := by omega
              have hj64 : I64 (j : Int) := i64_small (by omega)
              have cj := k5.cell (i := j) (by omega)
              have HSTORE : Hid (∀ w6 : World, Below wr.heap.size wr w6 → ∃ M, Here W G B F3 (60 + 2 * (i + 1)) S3 (w6.setCell ⟨r, j, none⟩ (.bool (S3.up && S3.bd (j : Int)))) ∧ BK F3 (w6.setCell ⟨r, j, none⟩ (.bool (S3.up && S3.bd (j : Int)))) r M ∧ M.length = Bn ∧ ∀ j, j < Bn → M[j]?.getD false = true → S3.bd (j : Int) = true) := fun w6 q6 => by
                have k6 := k5.below q6
                have h6 := h5.below q6
                have t6 : Turned (fun k => k = r) w6 (w6.setCell ⟨r, j, none⟩ (.bool (S3.up && S3.bd (j : Int)))) := (Turned.refl (fun k => k = r) w6).setCell (p := ⟨r, j, none⟩) (.inl rfl) _
                refine ⟨M2.set j (S3.up && S3.bd (j : Int)), ⟨h6.chip.turned t6 (fun k hk e => k6.off (e ▸ hk)), h6.low, h6.bel.trans (t6.below h6.bel.size (fun k e => by rw [e]; exact hrW.out))⟩, k6.set j _, by simpa using hM2, fun q hq hm => ?_⟩
                by_cases e : q = j
                · subst e
                  rw [hu] at hm
                  simpa [hM2, hq] using hm
                · rw [List.getElem?_set_ne (by omega)] at hm
                  exact hm5 q hq hm
              have HCELL : Hid (∀ w6 : World, Below wr.heap.size wr w6 → w6.cell? ⟨r, j, none⟩ = some (.bool (M2[j]?.getD false)) ∧ w6.frozen? ⟨r, j, none⟩ = false) := fun w6 q6 => ⟨(k5.below q6).cell (by omega), (k5.below q6).frozen j⟩
              have hmj := hm5 j hlt2
              cases hMj : M2[j]?.getD false
              · rw [hMj] at cj
                go_wp2_with fail
                clear c0 c1 c2 c3 c4
                refine (chipBad_any (j : Int) hj64 _ h5.chip).mono ?_
                rintro e w6 ⟨rfl, q6⟩
                have HS := HSTORE.out w6 q6
                have HS2 : Hid (∃ M, Here W G B F3 (60 + 2 * (i + 1)) S3 (w6.setCell ⟨r, j, none⟩ (.bool (S3.up && S3.bd (j : Int)))) ∧ BK F3 (w6.setCell ⟨r, j, none⟩ (.bool (S3.up && S3.bd (j : Int)))) r M ∧ M.length = Bn ∧ ∀ j, j < Bn → M[j]?.getD false = true → S3.bd (j : Int) = true) := HS
                obtain ⟨d1, d2⟩ := HCELL.out w6 q6
                clear HS HSTORE HCELL h5 k5 hm5 q6 hmj
                generalize (S3.up && S3.bd (j : Int)) = bv at *
                go_wp2_with fail
                go_roundg (Bn - (j + 1))
                case measure => omega
                case rel => exact ⟨j + 1, by omega, rfl, by go_num, HS2⟩
              · rw [hMj] at cj
                have hbt : (S3.up && S3.bd (j : Int)) = true := by rw [hu, hmj hMj]; rfl
                go_wp2_with fail
                clear c0 c1 c2 c3 c4
                refine (chipBad_any (j : Int) hj64 _ h5.chip).mono ?_
                rw [hbt]
                rintro e w6 ⟨rfl, q6⟩
                have h6 := h5.below q6
                go_wp2_with fail
                refine (chipBad_any (j : Int) hj64 _ h6.chip).mono ?_
                rw [hbt]
                rintro e w7 ⟨rfl, q7⟩
                have HS := HSTORE.out w7 (btrans q6 q7)
                rw [hbt] at HS
                have HS2 : Hid (∃ M, Here W G B F3 (60 + 2 * (i + 1)) S3 (w7.setCell ⟨r, j, none⟩ (.bool true)) ∧ BK F3 (w7.setCell ⟨r, j, none⟩ (.bool true)) r M ∧ M.length = Bn ∧ ∀ j, j < Bn → M[j]?.getD false = true → S3.bd (j : Int) = true) := HS
                obtain ⟨d1, d2⟩ := HCELL.out w7 (btrans q6 q7)
                clear HS HSTORE HCELL h5 h6 k5 hm5 q6 q7 hmj hbt
                go_wp2_with fail
                go_roundg (Bn - (j + 1))
                case measure => omega
                case rel => exact ⟨j + 1, by omega, rfl, by go_num, HS2⟩
            · have hge2 : ¬ (j : Int) < (Bn : Int) := by omega
              have HR : Hid (∃ F S M, Here W G B F (60 + 2 * (i + 1)) S wr ∧ BK F wr r M ∧ M.length = Bn ∧ fu ≤ S.fu ∧ ∀ j, j < Bn → M[j]?.getD false = true → S.bd (j : Int) = true) := ⟨F3, S3, M2, h5, k5, hM2, by rw [HFE.out]; exact Int.le_refl _, hm5⟩
              clear h5 k5 hm5
              go_wp2_with fail
              go_roundg (sl - (i + 1))
              case measure => omega
              case rel => exact ⟨i + 1, fu, by omega, rfl, hfu64.1, hfu64.2, by go_num, rfl, HR⟩
    · have e : i = sl := by omega
      have hge : ¬ (i : Int) < (sl : Int) := by omega
      have hb1 := h1.bel
      clear h1 k1 HI
      go_wp2_with fail
      refine (awake7_any _).mono ?_
      rintro e w9 ⟨rfl, q9⟩
      go_wp2_with fail
      go_ret
      exact ⟨rfl, btrans HQ0.out (btrans hb1 q9)⟩
end Go.Proofs.Ytjagnpljhedfjaa
