/-
  The document's answer of layer 9 (casemateref09): Parse. (Written by tools/gen/head_ref4.py.)
-/
import Derived.Test.YtefpmidjedfjmaaHeadRef3
import Derived.Test.YtefpmidjedfjmaaHeadCode3
import Derived.Test.YtefpmidjedfjmaaHeld
import Derived.Deep.CutRange
namespace Go.Proofs.Ytefpmidjedfjmaa
open Go.RowKit
set_option linter.unusedVariables false
set_option maxRecDepth 8192

section
variable {P : Program} {ops : Array Oper} {Q : Exit → Act → World → Prop} {md : Region.Mode} {S : World → Prop}
/-- A drawn region under whatever condition on the worlds. -/
theorem hop_open (S : World → Prop) {id : Nat} {a : Act} {w : World} (hm : P.follows .mixedOrders = true)
    (h : wpAnyH P .any ops Q S ops.size (Array.replicate ops.size false) a w.drew) : (Code.region id ops true).wp P Q a w := wp_region_held hm h
/-- One operation may come up, or two, or three. -/
theorem hop1 {i : Nat} {oi : Oper} {fuel : Nat} {listed : Array Bool} {a : Act} {w : World} (hr : Region.ready md ops listed = [i]) (hoi : ops[i]? = some oi) (hwi : Region.wanted oi (yielded ops a.tmps) = true)
    (hi : ∀ K' : Act → World → Prop, (∀ a w1, S w1 → wpAnyH P md ops Q S fuel (listed.setIfInBounds i true) a w1 → K' a w1) → Oper.wp P oi a w K' Q) :
    wpAnyH P md ops Q S (fuel + 1) listed a w := by
  refine wpAnyH_all hr (by simp) fun k hk => ?_
  simp only [List.mem_cons, List.not_mem_nil, or_false] at hk
  subst hk
  refine wpOp_step hoi fun K' hK => ?_
  rw [if_pos hwi]
  exact hi K' fun a w1 hs hh => hK a w1 ⟨hs, hh⟩
theorem hop2 {i j : Nat} {oi oj : Oper} {fuel : Nat} {listed : Array Bool} {a : Act} {w : World} (hr : Region.ready md ops listed = [i, j]) (hoi : ops[i]? = some oi) (hwi : Region.wanted oi (yielded ops a.tmps) = true)
    (hoj : ops[j]? = some oj) (hwj : Region.wanted oj (yielded ops a.tmps) = true)
    (hi : ∀ K' : Act → World → Prop, (∀ a w1, S w1 → wpAnyH P md ops Q S fuel (listed.setIfInBounds i true) a w1 → K' a w1) → Oper.wp P oi a w K' Q)
    (hj : ∀ K' : Act → World → Prop, (∀ a w1, S w1 → wpAnyH P md ops Q S fuel (listed.setIfInBounds j true) a w1 → K' a w1) → Oper.wp P oj a w K' Q) :
    wpAnyH P md ops Q S (fuel + 1) listed a w := by
  refine wpAnyH_all hr (by simp) fun k hk => ?_
  simp only [List.mem_cons, List.not_mem_nil, or_false] at hk
  rcases hk with rfl | rfl
  · refine wpOp_step hoi fun K' hK => ?_
    rw [if_pos hwi]
    exact hi K' fun a w1 hs hh => hK a w1 ⟨hs, hh⟩
  · refine wpOp_step hoj fun K' hK => ?_
    rw [if_pos hwj]
    exact hj K' fun a w1 hs hh => hK a w1 ⟨hs, hh⟩
theorem hop3 {i j l : Nat} {oi oj ol : Oper} {fuel : Nat} {listed : Array Bool} {a : Act} {w : World} (hr : Region.ready md ops listed = [i, j, l]) (hoi : ops[i]? = some oi) (hwi : Region.wanted oi (yielded ops a.tmps) = true)
    (hoj : ops[j]? = some oj) (hwj : Region.wanted oj (yielded ops a.tmps) = true) (hol : ops[l]? = some ol) (hwl : Region.wanted ol (yielded ops a.tmps) = true)
    (hi : ∀ K' : Act → World → Prop, (∀ a w1, S w1 → wpAnyH P md ops Q S fuel (listed.setIfInBounds i true) a w1 → K' a w1) → Oper.wp P oi a w K' Q)
    (hj : ∀ K' : Act → World → Prop, (∀ a w1, S w1 → wpAnyH P md ops Q S fuel (listed.setIfInBounds j true) a w1 → K' a w1) → Oper.wp P oj a w K' Q)
    (hl : ∀ K' : Act → World → Prop, (∀ a w1, S w1 → wpAnyH P md ops Q S fuel (listed.setIfInBounds l true) a w1 → K' a w1) → Oper.wp P ol a w K' Q) :
    wpAnyH P md ops Q S (fuel + 1) listed a w := by
  refine wpAnyH_all hr (by simp) fun k hk => ?_
  simp only [List.mem_cons, List.not_mem_nil, or_false] at hk
  rcases hk with rfl | rfl | rfl
  · refine wpOp_step hoi fun K' hK => ?_
    rw [if_pos hwi]
    exact hi K' fun a w1 hs hh => hK a w1 ⟨hs, hh⟩
  · refine wpOp_step hoj fun K' hK => ?_
    rw [if_pos hwj]
    exact hj K' fun a w1 hs hh => hK a w1 ⟨hs, hh⟩
  · refine wpOp_step hol fun K' hK => ?_
    rw [if_pos hwl]
    exact hl K' fun a w1 hs hh => hK a w1 ⟨hs, hh⟩
end
/-- A part of a row that lies somewhere. -/
theorem row_cut {k : IntKind} {w : World} {b off len cap : Nat} {z : List Int} (hr : Row k w (some ⟨b, off, none⟩) len cap z) (o n c : Nat) (ho : o + n ≤ len) (hn : n ≤ c) (hc : c ≤ maxLen) : Row k w (some ⟨b, off + o, none⟩) n c ((z.drop o).take n) := by
  refine ⟨by rw [List.length_take, List.length_drop, hr.hlen]; omega, hn, hc, by simp, fun h0 => ?_⟩
  obtain ⟨b', off', he, hbs, hcell⟩ := hr.hcell (by omega)
  simp only [Option.some.injEq, Addr.mk.injEq, and_true] at he
  obtain ⟨rfl, rfl⟩ := he
  refine ⟨b, off + o, rfl, hbs, fun i hi => ?_⟩
  rw [List.getElem?_take, if_pos hi, List.getElem?_drop, Nat.add_assoc]
  exact hcell (o + i) (by omega)
theorem isB_cut {z : List Int} (h : IsB z) (o n : Nat) : IsB ((z.drop o).take n) := fun x hx => h x (List.mem_of_mem_drop (List.mem_of_mem_take hx))
/-- A block of three noughts. -/
structure Blk9 (w : World) (g : Nat) : Prop where
  out : w.heap[g]? = some (.cells #[.int .i64 0, .int .i64 0, .int .i64 0] 25 (0, 0))
theorem Blk9.below {w w' : World} {g B : Nat} (h : Blk9 w g) (hb : Below B w w') (hB : w.heap.size ≤ B) : Blk9 w' g := ⟨block_below h.out hb (by have := lt_of_block h.out; omega)⟩
set_option maxHeartbeats 6400000 in
theorem refParse9_any {b p : Int} {s n : Nat} {f : Int} {R C : Nat} (G : GMay b p s n f R C) (a : Option Addr) (cap : Nat) (z : List Int) (w : World) (hr : Row .u8 w a R cap z) (hz : IsB z) :
    Calls Try.prog 19 #[.agg #[.int .i64 b, .int .i64 p, .int .i64 ((s : Nat)), .int .i64 ((n : Nat)), .int .i64 f], .slice a R cap] w fun e w' => (e = .returned (.tuple #[.agg #[.int .i64 0, .int .i64 0, .int .i64 0], .bool false]) ∧ readH C R z = false ∨ e = .returned (.tuple #[.agg #[.int .i64 (numAt z 4), .int .i64 (numAt z 8), .int .i64 (numAt z 12)], .bool true]) ∧ readH C R z = true) ∧ Below w.heap.size w w' := by
  have hmay := refMay9_any G (numAt z 4) (numAt z 8) (numAt z 12)
  have hbyt := refBytes9_any G (numAt z 4) (numAt z 8) (numAt z 12)
  have hR := G.hR1
  clear G
  obtain ⟨rb, off, rfl, hrb, hcl⟩ := hr.hcell (by omega)
  clear hcl hrb
  have hcap := hr.hcap
  have hmx := hr.hmax
  unfold maxLen at hmx
  have HRD : Hid (readH C R z = (mayH C (numAt z 4) (numAt z 8) (numAt z 12) && decide (pageOf R (numAt z 4) (numAt z 8) (numAt z 12) = z))) := rfl
  have q0 := below_two w (.cells #[.int .i64 b, .int .i64 p, .int .i64 s, .int .i64 n, .int .i64 f] 23) (.cells #[.int .i64 0, .int .i64 0, .int .i64 0] 25)
  have hb0 := block_two w (.cells #[.int .i64 b, .int .i64 p, .int .i64 s, .int .i64 n, .int .i64 f] 23) #[.int .i64 0, .int .i64 0, .int .i64 0] 25
  have gb := gbox_two w 23 b p s n f (.cells #[.int .i64 0, .int .i64 0, .int .i64 0] 25)
  replace hr := hr.below q0 (Nat.le_refl _)
  go_enter Try.func19, Try.ntmps19
  go_upto_region 1 with fail
  generalize (w.alloc (.cells #[.int .i64 b, .int .i64 p, .int .i64 s, .int .i64 n, .int .i64 f] 23)).alloc (.cells #[.int .i64 0, .int .i64 0, .int .i64 0] 25) = wp at *
  generalize hgg : w.heap.size = g at *
  have HGG : Hid (w.heap.size = g) := hgg
  clear hgg
  have r0 := row_cut hr 4 4 (cap - 4) (by omega) (by omega) (by unfold maxLen; omega)
  have hN0 : ∀ w', Row .u8 w' (some ⟨rb, off + 4, none⟩) 4 (cap - 4) ((z.drop 4).take 4) → Calls Try.prog 28 #[.slice (some ⟨rb, off + 4, none⟩) 4 (cap - 4)] w' fun e w'' => e = .returned (.int .i64 (numAt z 4)) ∧ w' = w'' := fun w' h => by have := refNumber_any _ _ _ _ w' h (isB_cut hz 4 4) (Nat.le_refl _); rwa [numAt_drop z 4 4 (Nat.le_refl _)] at this
  have r1 := row_cut hr 8 4 (cap - 8) (by omega) (by omega) (by unfold maxLen; omega)
  have hN1 : ∀ w', Row .u8 w' (some ⟨rb, off + 8, none⟩) 4 (cap - 8) ((z.drop 8).take 4) → Calls Try.prog 28 #[.slice (some ⟨rb, off + 8, none⟩) 4 (cap - 8)] w' fun e w'' => e = .returned (.int .i64 (numAt z 8)) ∧ w' = w'' := fun w' h => by have := refNumber_any _ _ _ _ w' h (isB_cut hz 8 4) (Nat.le_refl _); rwa [numAt_drop z 8 4 (Nat.le_refl _)] at this
  have r2 := row_cut hr 12 4 (cap - 12) (by omega) (by omega) (by unfold maxLen; omega)
  have hN2 : ∀ w', Row .u8 w' (some ⟨rb, off + 12, none⟩) 4 (cap - 12) ((z.drop 12).take 4) → Calls Try.prog 28 #[.slice (some ⟨rb, off + 12, none⟩) 4 (cap - 12)] w' fun e w'' => e = .returned (.int .i64 (numAt z 12)) ∧ w' = w'' := fun w' h => by have := refNumber_any _ _ _ _ w' h (isB_cut hz 12 4) (Nat.le_refl _); rwa [numAt_drop z 12 4 (Nat.le_refl _)] at this
  have hS0 : Since wp wp.drew := Since.drew _
  have hS1 : Since wp (wp.alloc (.cells #[.int .i64 0, .int .i64 0, .int .i64 0] 25)).drew := (below_one wp _).drew
  have hS2 : Since wp (wp.alloc (.cells #[.int .i64 (numAt z 4), .int .i64 (numAt z 8), .int .i64 (numAt z 12)] 25)).drew := (below_one wp _).drew
  have hh2 : HBox (wp.alloc (.cells #[.int .i64 (numAt z 4), .int .i64 (numAt z 8), .int .i64 (numAt z 12)] 25)).drew wp.heap.size (numAt z 4) (numAt z 8) (numAt z 12) := (hbox_new wp 25 _ _ _).below (Since.drew _) (Nat.le_refl _)
  go_cut [6] from 7 to 16 (fun x6 wx => ∃ h, x6 = .pointer (some ⟨h, 0, none⟩) ∧ HBox wx h (numAt z 4) (numAt z 8) (numAt z 12) ∧ Below wp.heap.size wp wx)
  case first =>
    refine hop_open (Since wp) (by kernel_rfl) ?_
    refine held_reads (rs := [0, 1, 3, 4, 6, 7]) (fuel := 6) (by kernel_rfl) (fun c d v a w h => by cases d <;> exact h) (by kernel_rfl) hS0 (fun K hK => ?_)
    refine calm_move _ rfl (by rfl) rfl ?_
    go_simp
    refine calm_do (.slice (some ⟨rb, off + 4, none⟩) 4 (cap - 4)) rfl (by rfl) (fun w' hw' => ?_) ?_
    · have e2 : (8 : Int) ≤ (cap : Int) := by omega
      have e3 : ¬ cap = 4 := by omega
      go_simp
    go_simp
    refine calm_move _ rfl (by rfl) rfl ?_
    go_simp
    refine calm_do (.slice (some ⟨rb, off + 8, none⟩) 4 (cap - 8)) rfl (by rfl) (fun w' hw' => ?_) ?_
    · have e2 : (12 : Int) ≤ (cap : Int) := by omega
      have e3 : ¬ cap = 8 := by omega
      go_simp
    go_simp
    refine calm_move _ rfl (by rfl) rfl ?_
    go_simp
    refine calm_do (.slice (some ⟨rb, off + 12, none⟩) 4 (cap - 12)) rfl (by rfl) (fun w' hw' => ?_) ?_
    · have e2 : (16 : Int) ≤ (cap : Int) := by omega
      have e3 : ¬ cap = 12 := by omega
      go_simp
    go_simp
    refine calm_nil (hK.out _ ?_)
    clear hK K
    refine hop2 (i := 2) (j := 10) (fuel := 5) (by kernel_rfl) rfl (by rfl) rfl (by rfl) (fun K hK => ?_) (fun K hK => ?_)
    · go_simp
      refine (hN0 _ (r0.below hS0 (Nat.le_refl _))).mono ?_
      rintro e w' ⟨rfl, rfl⟩
      refine hK _ _ hS0 ?_
      clear hK K
      refine hop2 (i := 5) (j := 10) (fuel := 4) (by kernel_rfl) rfl (by rfl) rfl (by rfl) (fun K hK => ?_) (fun K hK => ?_)
      · go_simp
        refine (hN1 _ (r1.below hS0 (Nat.le_refl _))).mono ?_
        rintro e w' ⟨rfl, rfl⟩
        refine hK _ _ hS0 ?_
        clear hK K
        refine hop2 (i := 8) (j := 10) (fuel := 3) (by kernel_rfl) rfl (by rfl) rfl (by rfl) (fun K hK => ?_) (fun K hK => ?_)
        · go_simp
          refine (hN2 _ (r2.below hS0 (Nat.le_refl _))).mono ?_
          rintro e w' ⟨rfl, rfl⟩
          refine hK _ _ hS0 ?_
          clear hK K
          refine held_reads (rs := [9]) (fuel := 2) (by kernel_rfl) (fun c d v a w h => by cases d <;> exact h) (by kernel_rfl) hS0 (fun K hK => ?_)
          go_simp
          refine calm_do (.agg #[.int .i64 (numAt z 4), .int .i64 (numAt z 8), .int .i64 (numAt z 12)]) rfl (by rfl) (fun w' hw' => ?_) ?_
          · go_simp
          go_simp
          refine calm_nil (hK.out _ ?_)
          clear hK K
          refine hop1 (i := 10) (fuel := 1) (by kernel_rfl) rfl (by rfl) (fun K hK => ?_)
          go_simp
          refine hK _ _ hS1 ?_
          clear hK K
          refine hop1 (i := 11) (fuel := 0) (by kernel_rfl) rfl (by rfl) (fun K hK => ?_)
          go_simp
          refine hK _ _ hS2 ?_
          clear hK K
          refine wpAnyH_done (by kernel_rfl) ?_ _
          go_wp2
          go_meet
          exact ⟨_, rfl, hh2, hS2⟩
        · go_simp
          refine hK _ _ hS1 ?_
          clear hK K
          refine hop1 (i := 8) (fuel := 2) (by kernel_rfl) rfl (by rfl) (fun K hK => ?_)
          go_simp
          refine (hN2 _ (r2.below hS1 (Nat.le_refl _))).mono ?_
          rintro e w' ⟨rfl, rfl⟩
          refine hK _ _ hS1 ?_
          clear hK K
          refine held_reads (rs := [9]) (fuel := 1) (by kernel_rfl) (fun c d v a w h => by cases d <;> exact h) (by kernel_rfl) hS1 (fun K hK => ?_)
          go_simp
          refine calm_do (.agg #[.int .i64 (numAt z 4), .int .i64 (numAt z 8), .int .i64 (numAt z 12)]) rfl (by rfl) (fun w' hw' => ?_) ?_
          · go_simp
          go_simp
          refine calm_nil (hK.out _ ?_)
          clear hK K
          refine hop1 (i := 11) (fuel := 0) (by kernel_rfl) rfl (by rfl) (fun K hK => ?_)
          go_simp
          refine hK _ _ hS2 ?_
          clear hK K
          refine wpAnyH_done (by kernel_rfl) ?_ _
          go_wp2
          go_meet
          exact ⟨_, rfl, hh2, hS2⟩
      · go_simp
        refine hK _ _ hS1 ?_
        clear hK K
        refine hop1 (i := 5) (fuel := 3) (by kernel_rfl) rfl (by rfl) (fun K hK => ?_)
        go_simp
        refine (hN1 _ (r1.below hS1 (Nat.le_refl _))).mono ?_
        rintro e w' ⟨rfl, rfl⟩
        refine hK _ _ hS1 ?_
        clear hK K
        refine hop1 (i := 8) (fuel := 2) (by kernel_rfl) rfl (by rfl) (fun K hK => ?_)
        go_simp
        refine (hN2 _ (r2.below hS1 (Nat.le_refl _))).mono ?_
        rintro e w' ⟨rfl, rfl⟩
        refine hK _ _ hS1 ?_
        clear hK K
        refine held_reads (rs := [9]) (fuel := 1) (by kernel_rfl) (fun c d v a w h => by cases d <;> exact h) (by kernel_rfl) hS1 (fun K hK => ?_)
        go_simp
        refine calm_do (.agg #[.int .i64 (numAt z 4), .int .i64 (numAt z 8), .int .i64 (numAt z 12)]) rfl (by rfl) (fun w' hw' => ?_) ?_
        · go_simp
        go_simp
        refine calm_nil (hK.out _ ?_)
        clear hK K
        refine hop1 (i := 11) (fuel := 0) (by kernel_rfl) rfl (by rfl) (fun K hK => ?_)
        go_simp
        refine hK _ _ hS2 ?_
        clear hK K
        refine wpAnyH_done (by kernel_rfl) ?_ _
        go_wp2
        go_meet
        exact ⟨_, rfl, hh2, hS2⟩
    · go_simp
      refine hK _ _ hS1 ?_
      clear hK K
      refine hop1 (i := 2) (fuel := 4) (by kernel_rfl) rfl (by rfl) (fun K hK => ?_)
      go_simp
      refine (hN0 _ (r0.below hS1 (Nat.le_refl _))).mono ?_
      rintro e w' ⟨rfl, rfl⟩
      refine hK _ _ hS1 ?_
      clear hK K
      refine hop1 (i := 5) (fuel := 3) (by kernel_rfl) rfl (by rfl) (fun K hK => ?_)
      go_simp
      refine (hN1 _ (r1.below hS1 (Nat.le_refl _))).mono ?_
      rintro e w' ⟨rfl, rfl⟩
      refine hK _ _ hS1 ?_
      clear hK K
      refine hop1 (i := 8) (fuel := 2) (by kernel_rfl) rfl (by rfl) (fun K hK => ?_)
      go_simp
      refine (hN2 _ (r2.below hS1 (Nat.le_refl _))).mono ?_
      rintro e w' ⟨rfl, rfl⟩
      refine hK _ _ hS1 ?_
      clear hK K
      refine held_reads (rs := [9]) (fuel := 1) (by kernel_rfl) (fun c d v a w h => by cases d <;> exact h) (by kernel_rfl) hS1 (fun K hK => ?_)
      go_simp
      refine calm_do (.agg #[.int .i64 (numAt z 4), .int .i64 (numAt z 8), .int .i64 (numAt z 12)]) rfl (by rfl) (fun w' hw' => ?_) ?_
      · go_simp
      go_simp
      refine calm_nil (hK.out _ ?_)
      clear hK K
      refine hop1 (i := 11) (fuel := 0) (by kernel_rfl) rfl (by rfl) (fun K hK => ?_)
      go_simp
      refine hK _ _ hS2 ?_
      clear hK K
      refine wpAnyH_done (by kernel_rfl) ?_ _
      go_wp2
      go_meet
      exact ⟨_, rfl, hh2, hS2⟩
  case rest =>
    obtain ⟨h, rfl, hx, q1⟩ := hcut
    clear hS0 hS1 hS2 hh2 hN0 hN1 hN2 r0 r1 r2
    replace gb := gb.below q1 (Nat.le_refl _)
    replace hr := hr.below q1 (Nat.le_refl _)
    have hb1 := block_below hb0 q1 (lt_of_block hb0)
    replace q0 := q0.trans (q1.mono (by have := q0.size; have := HGG.out; omega))
    clear q1 hb0
    have hb2 : Blk9 wc (g + 1) := ⟨hb1⟩
    clear hb1
    cases hm : mayH C (numAt z 4) (numAt z 8) (numAt z 12)
    · have HRV : Hid (readH C R z = false) := by show _ = _; rw [HRD.out, hm]; rfl
      have q1 : Below w.heap.size w wc := by rw [HGG.out]; exact q0
      go_wp2_with fail
      refine held_begin (by kernel_rfl) ?_
      refine held_reads (rs := [0, 1]) (fuel := 11) (by kernel_rfl) (fun c d v a w h => by cases d <;> exact h) (by kernel_rfl) (Since.drew _) (fun K hK => ?_)
      refine calm_do (.agg #[.int .i64 b, .int .i64 p, .int .i64 s, .int .i64 n, .int .i64 f]) rfl (by rfl) (fun w' hw' => ?_) ?_
      · have gb' := gb.below hw' (Nat.le_refl _)
        obtain ⟨_, c0, c1, c2, c3, c4⟩ := gb'
        go_simp
      go_simp
      refine calm_do (.agg #[.int .i64 (numAt z 4), .int .i64 (numAt z 8), .int .i64 (numAt z 12)]) rfl (by rfl) (fun w' hw' => ?_) ?_
      · have hx' := hx.below hw' (Nat.le_refl _)
        obtain ⟨_, d0, d1, d2⟩ := hx'
        go_simp
      go_simp
      refine calm_nil (hK.out _ ?_)
      clear hK K
      refine held_call (i := 2) (fuel := 10) (by kernel_rfl) rfl (by rfl) (fun K hK => ?_)
      go_simp
      have qd := Since.drew wc
      replace gb := gb.below qd (Nat.le_refl _)
      replace hx := hx.below qd (Nat.le_refl _)
      replace hr := hr.below qd (Nat.le_refl _)
      replace hb2 := hb2.below qd (Nat.le_refl _)
      replace q1 := btrans q1 qd
      clear qd
      refine (hmay _).mono ?_
      rintro e w1 ⟨rfl, qq0⟩
      refine hK _ _ (Since.trans (Since.drew _) qq0) ?_
      have qq : Since _ _ := qq0
      clear hK K qq0
      replace gb := gb.below qq (Nat.le_refl _)
      replace hx := hx.below qq (Nat.le_refl _)
      replace hr := hr.below qq (Nat.le_refl _)
      replace hb2 := hb2.below qq (Nat.le_refl _)
      replace q1 := btrans q1 qq
      clear qq
      rw [hm]
      refine held_reads (rs := [3, 4, 5, 6, 7, 8, 9, 10, 11, 12]) (fuel := 0) (by kernel_rfl) (fun c d v a w h => by cases d <;> exact h) (by kernel_rfl) (Since.refl _) (fun K hK => ?_)
      go_simp
      refine calm_do (.bool true) rfl (by rfl) (fun w' hw' => ?_) ?_
      · skip
        go_simp
      go_simp
      refine calm_move _ rfl (by rfl) rfl ?_
      go_simp
      refine calm_skip rfl (by rfl) ?_
      go_simp
      refine calm_skip rfl (by rfl) ?_
      go_simp
      refine calm_skip rfl (by rfl) ?_
      go_simp
      refine calm_skip rfl (by rfl) ?_
      go_simp
      refine calm_skip rfl (by rfl) ?_
      go_simp
      refine calm_skip rfl (by rfl) ?_
      go_simp
      refine calm_skip rfl (by rfl) ?_
      go_simp
      refine calm_do (.bool true) rfl (by rfl) (fun w' hw' => ?_) ?_
      · skip
        go_simp
      go_simp
      refine calm_nil (hK.out _ ?_)
      clear hK K
      refine wpAnyH_done (by kernel_rfl) ?_ _
      have k0 : w1.cell? ⟨g + 1, 0, none⟩ = some (.int .i64 0) := by simp [World.cell?, hb2.out]
      have k1 : w1.cell? ⟨g + 1, 1, none⟩ = some (.int .i64 0) := by simp [World.cell?, hb2.out]
      have k2 : w1.cell? ⟨g + 1, 2, none⟩ = some (.int .i64 0) := by simp [World.cell?, hb2.out]
      have kf : ∀ i, w1.frozen? ⟨g + 1, i, none⟩ = false := fun i => by simp [World.frozen?, hb2.out]
      have HQE : Hid (Below w.heap.size w w1) := q1
      clear hb2 gb hr q0 q1
      go_wp2_with fail
      refine bodyPost_ret (v := .tuple #[.agg #[.int .i64 0, .int .i64 0, .int .i64 0], .bool false]) (by simp [results, Try.results19, go_sem, k0, k1, k2]) rfl ?_
      rw [HGG.out] at *
      exact ⟨.inl ⟨rfl, HRV.out⟩, below_set3 HQE.out (Nat.le_succ _) _ _ _⟩
    · by_cases hpz : pageOf R (numAt z 4) (numAt z 8) (numAt z 12) = z
      · have HRV : Hid (readH C R z = true) := by show _ = _; rw [HRD.out, hm, hpz]; simp
        have heq : strOfNums (pageOf R (numAt z 4) (numAt z 8) (numAt z 12)) = strOfNums z := by rw [hpz]
        have HPZ : Hid _ := hpz
        clear hpz
        have q1 : Below w.heap.size w wc := by rw [HGG.out]; exact q0
        go_wp2_with fail
        refine held_begin (by kernel_rfl) ?_
        refine held_reads (rs := [0, 1]) (fuel := 11) (by kernel_rfl) (fun c d v a w h => by cases d <;> exact h) (by kernel_rfl) (Since.drew _) (fun K hK => ?_)
        refine calm_do (.agg #[.int .i64 b, .int .i64 p, .int .i64 s, .int .i64 n, .int .i64 f]) rfl (by rfl) (fun w' hw' => ?_) ?_
        · have gb' := gb.below hw' (Nat.le_refl _)
          obtain ⟨_, c0, c1, c2, c3, c4⟩ := gb'
          go_simp
        go_simp
        refine calm_do (.agg #[.int .i64 (numAt z 4), .int .i64 (numAt z 8), .int .i64 (numAt z 12)]) rfl (by rfl) (fun w' hw' => ?_) ?_
        · have hx' := hx.below hw' (Nat.le_refl _)
          obtain ⟨_, d0, d1, d2⟩ := hx'
          go_simp
        go_simp
        refine calm_nil (hK.out _ ?_)
        clear hK K
        refine held_call (i := 2) (fuel := 10) (by kernel_rfl) rfl (by rfl) (fun K hK => ?_)
        go_simp
        have qd := Since.drew wc
        replace gb := gb.below qd (Nat.le_refl _)
        replace hx := hx.below qd (Nat.le_refl _)
        replace hr := hr.below qd (Nat.le_refl _)
        replace hb2 := hb2.below qd (Nat.le_refl _)
        replace q1 := btrans q1 qd
        clear qd
        refine (hmay _).mono ?_
        rintro e w1 ⟨rfl, qq0⟩
        refine hK _ _ (Since.trans (Since.drew _) qq0) ?_
        have qq : Since _ _ := qq0
        clear hK K qq0
        replace gb := gb.below qq (Nat.le_refl _)
        replace hx := hx.below qq (Nat.le_refl _)
        replace hr := hr.below qq (Nat.le_refl _)
        replace hb2 := hb2.below qq (Nat.le_refl _)
        replace q1 := btrans q1 qq
        clear qq
        rw [hm]
        refine held_reads (rs := [3, 4, 5, 6, 9, 10]) (fuel := 4) (by kernel_rfl) (fun c d v a w h => by cases d <;> exact h) (by kernel_rfl) (Since.refl _) (fun K hK => ?_)
        go_simp
        refine calm_do (.bool false) rfl (by rfl) (fun w' hw' => ?_) ?_
        · skip
          go_simp
        go_simp
        refine calm_move _ rfl (by rfl) rfl ?_
        go_simp
        refine calm_do (.agg #[.int .i64 b, .int .i64 p, .int .i64 s, .int .i64 n, .int .i64 f]) rfl (by rfl) (fun w' hw' => ?_) ?_
        · have gb' := gb.below hw' (Nat.le_refl _)
          obtain ⟨_, c0, c1, c2, c3, c4⟩ := gb'
          go_simp
        go_simp
        refine calm_do (.agg #[.int .i64 (numAt z 4), .int .i64 (numAt z 8), .int .i64 (numAt z 12)]) rfl (by rfl) (fun w' hw' => ?_) ?_
        · have hx' := hx.below hw' (Nat.le_refl _)
          obtain ⟨_, d0, d1, d2⟩ := hx'
          go_simp
        go_simp
        refine calm_move _ rfl (by rfl) rfl ?_
        go_simp
        refine calm_do (.string (strOfNums z)) rfl (by rfl) (fun w' hw' => ?_) ?_
        · have hcc := conv_row Try.underlying30 Try.underlying5 Try.underlying9 (hr.below hw' (Nat.le_refl _))
          go_simp
        go_simp
        refine calm_nil (hK.out _ ?_)
        clear hK K
        refine held_call (i := 7) (fuel := 3) (by kernel_rfl) rfl (by rfl) (fun K hK => ?_)
        go_simp
        refine (hbyt _ hm).mono ?_
        rintro e w2 ⟨v, rfl, own, qq0⟩
        refine hK _ _ (Since.trans (Since.refl _) qq0) ?_
        have qq : Since _ _ := qq0
        clear hK K qq0
        replace gb := gb.below qq (Nat.le_refl _)
        replace hx := hx.below qq (Nat.le_refl _)
        replace hr := hr.below qq (Nat.le_refl _)
        replace hb2 := hb2.below qq (Nat.le_refl _)
        replace q1 := btrans q1 qq
        clear qq
        obtain ⟨av, cv, rfl, rv⟩ := row_of_owns own
        refine held_reads (rs := [8, 11, 12]) (fuel := 0) (by kernel_rfl) (fun c d v a w h => by cases d <;> exact h) (by kernel_rfl) (Since.refl _) (fun K hK => ?_)
        go_simp
        refine calm_do (.string (strOfNums (pageOf R (numAt z 4) (numAt z 8) (numAt z 12)))) rfl (by rfl) (fun w' hw' => ?_) ?_
        · have hcc := conv_row Try.underlying30 Try.underlying5 Try.underlying9 (rv.below hw' (Nat.le_refl _))
          go_simp
        go_simp
        refine calm_do (.bool false) rfl (by rfl) (fun w' hw' => ?_) ?_
        · skip
          go_simp
          all_goals first | (rw [heq]; done) | (simp [heq]; done)
        go_simp
        refine calm_do (.bool false) rfl (by rfl) (fun w' hw' => ?_) ?_
        · skip
          go_simp
        go_simp
        refine calm_nil (hK.out _ ?_)
        clear hK K
        refine wpAnyH_done (by kernel_rfl) ?_ _
        have k0 : w2.cell? ⟨g + 1, 0, none⟩ = some (.int .i64 0) := by simp [World.cell?, hb2.out]
        have k1 : w2.cell? ⟨g + 1, 1, none⟩ = some (.int .i64 0) := by simp [World.cell?, hb2.out]
        have k2 : w2.cell? ⟨g + 1, 2, none⟩ = some (.int .i64 0) := by simp [World.cell?, hb2.out]
        have kf : ∀ i, w2.frozen? ⟨g + 1, i, none⟩ = false := fun i => by simp [World.frozen?, hb2.out]
        have HQE : Hid (Below w.heap.size w w2) := q1
        obtain ⟨_, d0, d1, d2⟩ := hx
        clear hb2 gb hr q0 q1
        go_wp2_with fail
        refine bodyPost_ret (v := .tuple #[.agg #[.int .i64 (numAt z 4), .int .i64 (numAt z 8), .int .i64 (numAt z 12)], .bool true]) (by simp [results, Try.results19, go_sem, k0, k1, k2]) rfl ?_
        rw [HGG.out] at *
        exact ⟨.inr ⟨rfl, HRV.out⟩, below_set3 HQE.out (Nat.le_succ _) _ _ _⟩
      · have HRV : Hid (readH C R z = false) := by show _ = _; rw [HRD.out, hm, decide_eq_false hpz]; rfl
        have heq : ((strOfNums (pageOf R (numAt z 4) (numAt z 8) (numAt z 12))).toList == (strOfNums z).toList) = false := by rw [str_beq (isB_page _ _ _ _) hz]; exact decide_eq_false hpz
        clear hpz
        have q1 : Below w.heap.size w wc := by rw [HGG.out]; exact q0
        go_wp2_with fail
        refine held_begin (by kernel_rfl) ?_
        refine held_reads (rs := [0, 1]) (fuel := 11) (by kernel_rfl) (fun c d v a w h => by cases d <;> exact h) (by kernel_rfl) (Since.drew _) (fun K hK => ?_)
        refine calm_do (.agg #[.int .i64 b, .int .i64 p, .int .i64 s, .int .i64 n, .int .i64 f]) rfl (by rfl) (fun w' hw' => ?_) ?_
        · have gb' := gb.below hw' (Nat.le_refl _)
          obtain ⟨_, c0, c1, c2, c3, c4⟩ := gb'
          go_simp
        go_simp
        refine calm_do (.agg #[.int .i64 (numAt z 4), .int .i64 (numAt z 8), .int .i64 (numAt z 12)]) rfl (by rfl) (fun w' hw' => ?_) ?_
        · have hx' := hx.below hw' (Nat.le_refl _)
          obtain ⟨_, d0, d1, d2⟩ := hx'
          go_simp
        go_simp
        refine calm_nil (hK.out _ ?_)
        clear hK K
        refine held_call (i := 2) (fuel := 10) (by kernel_rfl) rfl (by rfl) (fun K hK => ?_)
        go_simp
        have qd := Since.drew wc
        replace gb := gb.below qd (Nat.le_refl _)
        replace hx := hx.below qd (Nat.le_refl _)
        replace hr := hr.below qd (Nat.le_refl _)
        replace hb2 := hb2.below qd (Nat.le_refl _)
        replace q1 := btrans q1 qd
        clear qd
        refine (hmay _).mono ?_
        rintro e w1 ⟨rfl, qq0⟩
        refine hK _ _ (Since.trans (Since.drew _) qq0) ?_
        have qq : Since _ _ := qq0
        clear hK K qq0
        replace gb := gb.below qq (Nat.le_refl _)
        replace hx := hx.below qq (Nat.le_refl _)
        replace hr := hr.below qq (Nat.le_refl _)
        replace hb2 := hb2.below qq (Nat.le_refl _)
        replace q1 := btrans q1 qq
        clear qq
        rw [hm]
        refine held_reads (rs := [3, 4, 5, 6, 9, 10]) (fuel := 4) (by kernel_rfl) (fun c d v a w h => by cases d <;> exact h) (by kernel_rfl) (Since.refl _) (fun K hK => ?_)
        go_simp
        refine calm_do (.bool false) rfl (by rfl) (fun w' hw' => ?_) ?_
        · skip
          go_simp
        go_simp
        refine calm_move _ rfl (by rfl) rfl ?_
        go_simp
        refine calm_do (.agg #[.int .i64 b, .int .i64 p, .int .i64 s, .int .i64 n, .int .i64 f]) rfl (by rfl) (fun w' hw' => ?_) ?_
        · have gb' := gb.below hw' (Nat.le_refl _)
          obtain ⟨_, c0, c1, c2, c3, c4⟩ := gb'
          go_simp
        go_simp
        refine calm_do (.agg #[.int .i64 (numAt z 4), .int .i64 (numAt z 8), .int .i64 (numAt z 12)]) rfl (by rfl) (fun w' hw' => ?_) ?_
        · have hx' := hx.below hw' (Nat.le_refl _)
          obtain ⟨_, d0, d1, d2⟩ := hx'
          go_simp
        go_simp
        refine calm_move _ rfl (by rfl) rfl ?_
        go_simp
        refine calm_do (.string (strOfNums z)) rfl (by rfl) (fun w' hw' => ?_) ?_
        · have hcc := conv_row Try.underlying30 Try.underlying5 Try.underlying9 (hr.below hw' (Nat.le_refl _))
          go_simp
        go_simp
        refine calm_nil (hK.out _ ?_)
        clear hK K
        refine held_call (i := 7) (fuel := 3) (by kernel_rfl) rfl (by rfl) (fun K hK => ?_)
        go_simp
        refine (hbyt _ hm).mono ?_
        rintro e w2 ⟨v, rfl, own, qq0⟩
        refine hK _ _ (Since.trans (Since.refl _) qq0) ?_
        have qq : Since _ _ := qq0
        clear hK K qq0
        replace gb := gb.below qq (Nat.le_refl _)
        replace hx := hx.below qq (Nat.le_refl _)
        replace hr := hr.below qq (Nat.le_refl _)
        replace hb2 := hb2.below qq (Nat.le_refl _)
        replace q1 := btrans q1 qq
        clear qq
        obtain ⟨av, cv, rfl, rv⟩ := row_of_owns own
        refine held_reads (rs := [8, 11, 12]) (fuel := 0) (by kernel_rfl) (fun c d v a w h => by cases d <;> exact h) (by kernel_rfl) (Since.refl _) (fun K hK => ?_)
        go_simp
        refine calm_do (.string (strOfNums (pageOf R (numAt z 4) (numAt z 8) (numAt z 12)))) rfl (by rfl) (fun w' hw' => ?_) ?_
        · have hcc := conv_row Try.underlying30 Try.underlying5 Try.underlying9 (rv.below hw' (Nat.le_refl _))
          go_simp
        go_simp
        refine calm_do (.bool true) rfl (by rfl) (fun w' hw' => ?_) ?_
        · skip
          go_simp
          all_goals first | (rw [heq]; done) | (simp [heq]; done)
        go_simp
        refine calm_do (.bool true) rfl (by rfl) (fun w' hw' => ?_) ?_
        · skip
          go_simp
        go_simp
        refine calm_nil (hK.out _ ?_)
        clear hK K
        refine wpAnyH_done (by kernel_rfl) ?_ _
        have k0 : w2.cell? ⟨g + 1, 0, none⟩ = some (.int .i64 0) := by simp [World.cell?, hb2.out]
        have k1 : w2.cell? ⟨g + 1, 1, none⟩ = some (.int .i64 0) := by simp [World.cell?, hb2.out]
        have k2 : w2.cell? ⟨g + 1, 2, none⟩ = some (.int .i64 0) := by simp [World.cell?, hb2.out]
        have kf : ∀ i, w2.frozen? ⟨g + 1, i, none⟩ = false := fun i => by simp [World.frozen?, hb2.out]
        have HQE : Hid (Below w.heap.size w w2) := q1
        clear hb2 gb hr q0 q1
        go_wp2_with fail
        refine bodyPost_ret (v := .tuple #[.agg #[.int .i64 0, .int .i64 0, .int .i64 0], .bool false]) (by simp [results, Try.results19, go_sem, k0, k1, k2]) rfl ?_
        rw [HGG.out] at *
        exact ⟨.inl ⟨rfl, HRV.out⟩, below_set3 HQE.out (Nat.le_succ _) _ _ _⟩

end Go.Proofs.Ytefpmidjedfjmaa
