/-
  The code of layer 20 (manifest), as it landed: the reader: manifest.
-/
import Derived.Test.YtennmhenlhaliaaManCode5
import Derived.Lib.Strings
import Derived.Great.BuildSlice
namespace Go.Proofs.Ytennmhenlhaliaa.N
open Go.RowKit
set_option linter.unusedVariables false
set_option maxRecDepth 8192

theorem noMf_len {D : List Int} (h : D.length < 24) : isMf D = false := by
  unfold isMf fits
  rw [decide_eq_false (show ¬ 24 ≤ D.length by omega), Bool.false_and, Bool.false_and, Bool.and_false]
theorem noMf_head {D : List Int} (h : decide (D.take 4 = mani) = false) : isMf D = false := by
  unfold isMf
  rw [h, Bool.false_and]
theorem noMf_cnt {D : List Int} (h : ¬ numAt D 20 ≤ 8) : isMf D = false := by
  unfold isMf fits
  rw [decide_eq_false h, Bool.false_and, Bool.and_false, Bool.false_and, Bool.and_false]
theorem noMf_fit {D : List Int} (h : ¬ D.length = 24 + 40 * cnt D) : isMf D = false := by
  unfold isMf fits
  rw [decide_eq_false h, Bool.and_false, Bool.and_false, Bool.false_and, Bool.and_false]
theorem noMf_may {D : List Int} (h : mayM (dec D) = false) : isMf D = false := by
  unfold isMf
  rw [h, Bool.and_false, Bool.and_false]
theorem yesMf {D : List Int} (h0 : decide (D.take 4 = mani) = true) (h1 : 24 ≤ D.length) (h2 : numAt D 20 ≤ 8) (h3 : D.length = 24 + 40 * cnt D) (h4 : mayM (dec D) = true) : isMf D = true := by
  unfold isMf fits
  rw [h0, h4, decide_eq_true h1, decide_eq_true h2, decide_eq_true h3]
  rfl
theorem str_beqN {x y : List Int} (hx : IsB x) (hy : IsB y) : ((strOfNums x).toList == (strOfNums y).toList) = decide (x = y) := by
  rw [Lib.toList_data, Lib.toList_data]
  by_cases e : x = y
  · subst e; simp
  · rw [decide_eq_false e, beq_eq_false_iff_ne]
    exact fun h => e (strOfNums_inj hx hy (WideShapes.bytes_inj h))
theorem mani_beq {x : List Int} (hx : IsB x) : ((strOfNums x).toList == [109, 97, 110, 105]) = decide (x = mani) := by
  have h := str_beqN hx (y := mani) (by unfold mani IsB; decide)
  have e : (strOfNums mani).toList = [109, 97, 110, 105] := by rw [Lib.toList_data]; rfl
  rw [e] at h
  exact h
theorem built_mf (x y z u : Int) : Try.prog.built 24 [(0, .int .i64 x), (1, .int .i64 y), (2, .int .i64 z), (3, .int .i64 u)] = some #[.int .i64 x, .int .i64 y, .int .i64 z, .int .i64 u, .slice none 0 0] := by kernel_rfl
theorem Try.szMf : (Try.prog.info? 24).map (·.size) = some 5 := by kernel_rfl
theorem mf_one (x y z u : Int) : (#[.int .i64 x, .int .i64 y, .int .i64 z, .int .i64 u, .slice none 0 0] : Array Value).all (·.oneCell') = true :=
  all_oneCell_toArray (cs := [.int .i64 x, .int .i64 y, .int .i64 z, .int .i64 u, .slice none 0 0]) (by
    intro v hv
    simp only [List.mem_cons, List.not_mem_nil, or_false] at hv
    rcases hv with rfl | rfl | rfl | rfl | rfl <;> rfl)
theorem mf_oneS (x y z u : Int) (a : Option Addr) (n c : Nat) : (#[.int .i64 x, .int .i64 y, .int .i64 z, .int .i64 u, .slice a n c] : Array Value).all (·.oneCell') = true :=
  all_oneCell_toArray (cs := [.int .i64 x, .int .i64 y, .int .i64 z, .int .i64 u, .slice a n c]) (by
    intro v hv
    simp only [List.mem_cons, List.not_mem_nil, or_false] at hv
    rcases hv with rfl | rfl | rfl | rfl | rfl <;> rfl)
theorem zeroMf (w : World) : (zeroValue 24).run Try.prog w = .ok (.agg #[.int .i64 0, .int .i64 0, .int .i64 0, .int .i64 0, .slice none 0 0]) w := by kernel_rfl
theorem seg_info : ∃ i, Try.prog.info? 45 = some i ∧ i.zero = some (.agg (sA sg0)) ∧ i.size = 34 ∧ i.bytes = 48 := by
  have h : (Try.prog.info? 45).map (fun i => (i.zero, i.size, i.bytes)) = some (some (.agg (sA sg0)), 34, 48) := by kernel_rfl
  obtain ⟨i, hi, he⟩ := Option.map_eq_some_iff.1 h
  simp only [Prod.mk.injEq] at he
  exact ⟨i, hi, he.1, he.2.1, he.2.2⟩
theorem made_seg {s : Sg} (h : s.Ok) (w : World) : (Instr.buildSlice 22 1 [(0, .agg (sA s))].toArray).run Try.prog w = .ok (.slice (some ⟨w.heap.size, 0, none⟩) 1 1) (w.alloc (.cells (sA s) 45)) := by
  obtain ⟨i, hi, hz, hs, _⟩ := seg_info
  obtain ⟨r, hr, hsz, hk⟩ := Great.fill_dense (s := 34) (by decide) [.agg (sA s)] 0 ((Array.range (1 * 34)).map ((Value.agg (sA sg0)).cells[· % (Value.agg (sA sg0)).cells.size]!)) (by
    intro v hv
    rw [List.mem_singleton.1 hv]
    exact sA_size h) (by simp)
  have e : r = sA s := by
    apply Array.ext_getElem?
    intro k
    rw [hk k]
    have e34 : (sA s).size = 34 := sA_size h
    by_cases hk34 : k < 34
    · rw [if_pos (by simp; omega), show k / 34 - 0 = 0 by omega, Nat.mod_eq_of_lt hk34]
      rfl
    · rw [if_neg (by simp; omega), Array.getElem?_eq_none (by simp; omega), Array.getElem?_eq_none (by omega)]
  rw [e] at hr
  refine run_buildSlice w _ _ 1 _ (sA s) i (.agg (sA sg0)) Try.underlying22 hi hz (by rw [hs]; decide) (by rw [hs]; decide) ?_
  rw [hs]
  exact hr
theorem wp_madeB {P : Program} {o : Oper} {a : Act} {w : World} {K : Act → World → Prop} {Q : Exit → Act → World → Prop} (d : Tmp) (t : TypeId) (n : Nat) (ps : List (Nat × Operand)) (hd : o.dst = some d) (ho : o.op = .buildSlice t n ps.toArray) (T : TypeId) (X : Array Value)
    (hb : ∀ w, (Instr.buildSlice t n (ps.map fun p => (p.1, a.eval p.2)).toArray).run P w = .ok (.slice (some ⟨w.heap.size, 0, none⟩) n n) (w.alloc (.cells X T)))
    (h : K (a.put (some d) (.slice (some ⟨w.heap.size, 0, none⟩) n n)) (w.alloc (.cells X T))) : o.wp P a w K Q := by
  have hm : (ps.toArray.map fun (p : Nat × Operand) => match p with | (i, x) => (i, a.eval x)) = (ps.map fun p => (p.1, a.eval p.2)).toArray := by
    rw [List.map_toArray]
  unfold Oper.wp execOp
  simp only [ho, hm, hb, Sem.run_bind, Sem.run_pure, Result.andThen_ok]
  rw [← hd] at h
  exact h
/-- What the reader's loop keeps. -/
structure MI (w : World) (g : Nat) (D : List Int) (n : Nat) (x y z u : Int) (g2 g3 : Nat) (i : Nat) (wr : World) : Prop where
  gr : w.grownBy wr (some g)
  len : 24 + 40 * i ≤ n
  rd : ∃ a c, RAt wr g a (n - (24 + 40 * i)) c (D.drop (24 + 40 * i))
  b2 : wr.heap[g2]? = some (.cells #[.int .i64 0, .int .i64 0, .int .i64 0, .int .i64 0, .slice none 0 0] 24 (0, 0))
  b3 : ∃ sv, wr.heap[g3]? = some (.cells #[.int .i64 x, .int .i64 y, .int .i64 z, .int .i64 u, sv] 24 (0, 0)) ∧ wr.ownsRow (g3 + 1) 45 34 sv i (sCs (sgsTo D i))
/-- A segment lies ready to be appended. -/
structure MJ (w : World) (g : Nat) (D : List Int) (n : Nat) (x y z u : Int) (g2 g3 : Nat) (i : Nat) (sv : Value) (gq : Nat) (wr : World) : Prop where
  gr : w.grownBy wr (some g)
  rd : ∃ a c, RAt wr g a (n - (24 + 40 * (i + 1))) c (D.drop (24 + 40 * (i + 1)))
  b2 : wr.heap[g2]? = some (.cells #[.int .i64 0, .int .i64 0, .int .i64 0, .int .i64 0, .slice none 0 0] 24 (0, 0))
  b3 : wr.heap[g3]? = some (.cells #[.int .i64 x, .int .i64 y, .int .i64 z, .int .i64 u, sv] 24 (0, 0))
  own : wr.ownsRow (g3 + 1) 45 34 sv i (sCs (sgsTo D i))
  nw : wr.heap[gq]? = some (.cells (sA (sgAt D (24 + 40 * i))) 45 (0, 0))
theorem sCs_snoc (D : List Int) (i : Nat) : sCs (sgsTo D (i + 1)) = sCs (sgsTo D i) ++ sC (sgAt D (24 + 40 * i)) := by
  rw [sgsTo_succ]
  simp [sCs]
/-- A segment is read: it lies in a block of its own. -/
theorem MJ.made {w wr w7 : World} {g n g2 g3 i : Nat} {D : List Int} {x y z u : Int} {sv : Value} {a' : Option Addr} {c' : Nat} (hgr : w.grownBy wr (some g)) (hb2 : wr.heap[g2]? = some (.cells #[.int .i64 0, .int .i64 0, .int .i64 0, .int .i64 0, .slice none 0 0] 24 (0, 0)))
    (hb3 : wr.heap[g3]? = some (.cells #[.int .i64 x, .int .i64 y, .int .i64 z, .int .i64 u, sv] 24 (0, 0))) (own : wr.ownsRow (g3 + 1) 45 34 sv i (sCs (sgsTo D i))) (h2 : g2 ≠ g) (h3 : g < g3)
    (G : wr.grownBy w7 (some g)) (hr : RAt w7 g a' (n - (24 + 40 * (i + 1))) c' (D.drop (24 + 40 * (i + 1)))) :
    MJ w g D n x y z u g2 g3 i sv w7.heap.size (w7.alloc (.cells (sA (sgAt D (24 + 40 * i))) 45)) := by
  have q := below_one w7 (.cells (sA (sgAt D (24 + 40 * i))) 45)
  have hb2' := grown_heap G hb2 h2
  have hb3' := grown_heap G hb3 (by omega)
  have own' := own.kept G (by
    rcases hv : sv.ownBlock with _ | k
    · exact .inl rfl
    · right
      intro e
      have := (own.lt k hv).1
      cases e
      omega)
  exact ⟨grown_then (grown_trans hgr G) (q.mono (Nat.le_trans hgr.size G.size)), ⟨a', c', hr.below q (Nat.le_refl _)⟩, by rw [q.block _ (lt_of_heap hb2')]; exact hb2', by rw [q.block _ (lt_of_heap hb3')]; exact hb3', own'.alloc _, heap_alloc_last w7 _⟩
/-- It is appended, and the list laid into the manifest's variable. -/
theorem MJ.put {w w8 w9 : World} {g n g2 g3 i gq : Nat} {D : List Int} {x y z u : Int} {sv sv' : Value} (h : MJ w g D n x y z u g2 g3 i sv gq w8) (h2 : g < g2) (h23 : g2 < g3) (h3 : w.heap.size ≤ g3) (hl : 24 + 40 * (i + 1) ≤ n)
    (own : w9.ownsRow (g3 + 1) 45 34 sv' (i + 1) (sCs (sgsTo D i) ++ sC (sgAt D (24 + 40 * i)))) (G : w8.grownBy w9 sv.ownBlock) :
    MI w g D n x y z u g2 g3 (i + 1) (w9.setCell ⟨g3, 4, none⟩ sv') ∧ w9.cell? ⟨g3, 4, none⟩ = some sv ∧ w9.frozen? ⟨g3, 4, none⟩ = false := by
  have l3 := lt_of_heap h.b3
  have q : Below (g3 + 1) w8 w9 := (Below.refl _ _).grown G (by omega) (fun k hk => (h.own.lt k hk).1)
  have hb3 : w9.heap[g3]? = some (.cells #[.int .i64 x, .int .i64 y, .int .i64 z, .int .i64 u, sv] 24 (0, 0)) := by rw [q.block g3 (by omega)]; exact h.b3
  have q2 : Below g3 w9 (w9.setCell ⟨g3, 4, none⟩ sv') := (Below.refl g3 w9).setCell (show g3 ≤ (⟨g3, 4, none⟩ : Addr).block from Nat.le_refl _) sv'
  obtain ⟨a, c, rd⟩ := h.rd
  refine ⟨⟨?_, hl, ⟨a, c, (rd.above q (by omega)).above q2 (by omega)⟩, ?_, sv', ?_, ?_⟩, man_c hb3 4, arr_unfrozen hb3 4⟩
  · exact grown_then (grown_then h.gr (q.mono (by omega))) (q2.mono h3)
  · rw [q2.block g2 h23, q.block g2 (by omega)]; exact h.b2
  · rw [heap_setCell_same w9 g3 4 _ _ _ hb3]; rfl
  · rw [sCs_snoc]
    refine own.kept (row := some g3) ⟨rfl, rfl, rfl, by simp, fun k _ hk => Below.heap_setCell w9 _ _ k (fun e => hk (by rw [e]))⟩ ?_
    rcases hv : sv'.ownBlock with _ | k
    · exact .inl rfl
    · right
      intro e
      have := (own.lt k hv).1
      cases e
      omega
set_option maxHeartbeats 3200000 in
theorem manifest_any {w : World} {g : Nat} {a : Option Addr} {n c : Nat} {D : List Int} (h : RAt w g a n c D) (hD : IsB D) :
    Calls Try.prog 21 #[.pointer (some ⟨g, 0, none⟩)] w fun e w' => w.grownBy w' (some g) ∧
      ((isMf D = true ∧ ∃ sa sc, e = .returned (.agg #[.int .i64 (numAt D 4), .int .i64 (numAt D 8), .int .i64 (numAt D 12), .int .i64 (numAt D 16), .slice sa ((cnt D)) sc]) ∧ SegRow w' sa (cnt D) sc (sgsTo D (cnt D)) ∧ ∀ q, sa = some q → w.heap.size ≤ q.block) ∨ (isMf D = false ∧ e = .panicked gaveUp)) := by
  have hlt := h.lt
  have HL : Hid (D.length = n) := h.row.hlen
  have V1 := (Vars.start w).new 24 #[.int .i64 0, .int .i64 0, .int .i64 0, .int .i64 0, .slice none 0 0]
  have h1 := h.below V1.bel (Nat.le_refl _)
  have G1 := grown_below V1.bel (some g)
  have hg1 := V1.at 0 rfl
  go_enter Try.func21, Try.ntmps21
  go_wp2_with fail
  have hl1 : (w.alloc (.cells #[.int .i64 0, .int .i64 0, .int .i64 0, .int .i64 0, .slice none 0 0] 24)).heap.size = w.heap.size + 1 := by simp
  generalize w.alloc (.cells #[.int .i64 0, .int .i64 0, .int .i64 0, .int .i64 0, .slice none 0 0] 24) = w1 at *
  obtain ⟨g2, hg2⟩ : ∃ g2, g2 = w.heap.size := ⟨_, rfl⟩
  have HG2 : Hid (g2 = w.heap.size) := hg2
  clear V1 h
  by_cases hn4 : n < 4
  · refine (take_no h1 4 hn4 (by decide)).mono ?_
    rintro e w2 ⟨rfl, rfl⟩
    go_wp2_with fail
    exact ⟨rfl, G1, .inr ⟨noMf_len (by rw [HL.out]; omega), rfl⟩⟩
  have hr1 := row_take h1.row 4 (by omega)
  refine (take_yes h1 4 (by decide) (by omega)).mono ?_
  rintro e w2 ⟨a2, rfl, hw2, h2⟩
  have G2 : w.grownBy w2 (some g) := by rw [hw2]; exact grown_trans G1 (grown_set _ _ _ _)
  replace hg1 : w2.heap[w.heap.size]? = some (.cells #[.int .i64 0, .int .i64 0, .int .i64 0, .int .i64 0, .slice none 0 0] 24 (0, 0)) := by rw [hw2]; exact grown_heap (grown_set _ _ _ _) hg1 (by omega)
  have hr2 := row_set (j := 0) hr1 (fun q hq => Nat.ne_of_lt (h1.apart (by omega) q hq)) (.slice a2 (n - 4) (c - 4))
  rw [← hw2] at hr2
  have kc := conv_row (P := Try.prog) Try.underlying25 Try.underlying5 Try.underlying9 hr2
  clear hw2 hr1 h1 G1 hr2
  go_wp2_with fail
  have hbq := mani_beq (isB_take hD 4)
  cases hq : decide (D.take 4 = mani)
  · rw [hq] at hbq
    rw [hbq]
    have HF : Hid (isMf D = false) := noMf_head hq
    clear hq hbq kc
    refine (need_no g w2).mono ?_
    rintro e w' ⟨rfl, rfl⟩
    go_wp2_with fail
    exact ⟨rfl, G2, .inr ⟨HF.out, rfl⟩⟩
  rw [hq] at hbq
  rw [hbq]
  have HQ : Hid (decide (D.take 4 = mani) = true) := hq
  clear hq hbq kc
  refine (need_yes g w2).mono ?_
  rintro e w' ⟨rfl, rfl⟩
  go_wp2_with fail
  by_cases hn8 : n < 8
  · refine (number_no h2 (by omega)).mono ?_
    rintro e w' ⟨rfl, rfl⟩
    go_wp2_with fail
    exact ⟨rfl, G2, .inr ⟨noMf_len (by rw [HL.out]; omega), rfl⟩⟩
  refine (number_yes h2 (isB_drop hD _) (by omega)).mono ?_
  rintro e w3 ⟨a3, rfl, hw, h3⟩
  rw [numAt_from, Nat.add_zero]
  rw [List.drop_drop, Nat.sub_sub, Nat.sub_sub] at h3
  have G3 : w.grownBy w3 (some g) := by rw [hw]; exact grown_trans G2 (grown_set _ _ _ _)
  replace hg1 : w3.heap[w.heap.size]? = some (.cells #[.int .i64 0, .int .i64 0, .int .i64 0, .int .i64 0, .slice none 0 0] 24 (0, 0)) := by rw [hw]; exact grown_heap (grown_set _ _ _ _) hg1 (by omega)
  clear hw h2 G2 hn4
  go_wp2_with fail
  by_cases hn12 : n < 12
  · refine (number_no h3 (by omega)).mono ?_
    rintro e w' ⟨rfl, rfl⟩
    go_wp2_with fail
    exact ⟨rfl, G3, .inr ⟨noMf_len (by rw [HL.out]; omega), rfl⟩⟩
  refine (number_yes h3 (isB_drop hD _) (by omega)).mono ?_
  rintro e w4 ⟨a4, rfl, hw, h4⟩
  rw [numAt_from, Nat.add_zero]
  rw [List.drop_drop, Nat.sub_sub, Nat.sub_sub] at h4
  have G4 : w.grownBy w4 (some g) := by rw [hw]; exact grown_trans G3 (grown_set _ _ _ _)
  replace hg1 : w4.heap[w.heap.size]? = some (.cells #[.int .i64 0, .int .i64 0, .int .i64 0, .int .i64 0, .slice none 0 0] 24 (0, 0)) := by rw [hw]; exact grown_heap (grown_set _ _ _ _) hg1 (by omega)
  clear hw h3 G3 hn8
  go_wp2_with fail
  by_cases hn16 : n < 16
  · refine (number_no h4 (by omega)).mono ?_
    rintro e w' ⟨rfl, rfl⟩
    go_wp2_with fail
    exact ⟨rfl, G4, .inr ⟨noMf_len (by rw [HL.out]; omega), rfl⟩⟩
  refine (number_yes h4 (isB_drop hD _) (by omega)).mono ?_
  rintro e w5 ⟨a5, rfl, hw, h5⟩
  rw [numAt_from, Nat.add_zero]
  rw [List.drop_drop, Nat.sub_sub, Nat.sub_sub] at h5
  have G5 : w.grownBy w5 (some g) := by rw [hw]; exact grown_trans G4 (grown_set _ _ _ _)
  replace hg1 : w5.heap[w.heap.size]? = some (.cells #[.int .i64 0, .int .i64 0, .int .i64 0, .int .i64 0, .slice none 0 0] 24 (0, 0)) := by rw [hw]; exact grown_heap (grown_set _ _ _ _) hg1 (by omega)
  clear hw h4 G4 hn12
  go_wp2_with fail
  by_cases hn20 : n < 20
  · refine (number_no h5 (by omega)).mono ?_
    rintro e w' ⟨rfl, rfl⟩
    go_wp2_with fail
    exact ⟨rfl, G5, .inr ⟨noMf_len (by rw [HL.out]; omega), rfl⟩⟩
  refine (number_yes h5 (isB_drop hD _) (by omega)).mono ?_
  rintro e w6 ⟨a6, rfl, hw, h6⟩
  rw [numAt_from, Nat.add_zero]
  rw [List.drop_drop, Nat.sub_sub, Nat.sub_sub] at h6
  have G6 : w.grownBy w6 (some g) := by rw [hw]; exact grown_trans G5 (grown_set _ _ _ _)
  replace hg1 : w6.heap[w.heap.size]? = some (.cells #[.int .i64 0, .int .i64 0, .int .i64 0, .int .i64 0, .slice none 0 0] 24 (0, 0)) := by rw [hw]; exact grown_heap (grown_set _ _ _ _) hg1 (by omega)
  clear hw h5 G5 hn16
  have HDC : Hid (dec D = ⟨numAt D 4, numAt D 8, numAt D 12, numAt D 16, sgsTo D (cnt D)⟩) := rfl
  generalize hex : numAt D 4 = x at *
  have HEx : Hid (numAt D 4 = x) := hex
  clear hex
  generalize hey : numAt D 8 = y at *
  have HEy : Hid (numAt D 8 = y) := hey
  clear hey
  generalize hez : numAt D 12 = z at *
  have HEz : Hid (numAt D 12 = z) := hez
  clear hez
  generalize heu : numAt D 16 = u at *
  have HEu : Hid (numAt D 16 = u) := heu
  clear heu
  have V6 := Vars.start w6
  go_wp2_with (first
    | (refine wpList_buildV 19 24 _ rfl rfl rfl #[.int .i64 x, .int .i64 y, .int .i64 z, .int .i64 u, .slice none 0 0] (built_mf x y z u) ?_)
    | (refine wpList_allocV V6 3 24 rfl rfl rfl #[.int .i64 0, .int .i64 0, .int .i64 0, .int .i64 0, .slice none 0 0] zeroMf ?_; intro wa g3 V7)
    | (refine wpList_storeV V7 0 rfl _ (.tmp 19) rfl rfl rfl #[.int .i64 x, .int .i64 y, .int .i64 z, .int .i64 u, .slice none 0 0] rfl rfl Try.szMf rfl rfl (mf_one x y z u) ?_; intro wb V8))
  have h8 := h6.below V8.bel (Nat.le_refl _)
  have G8 := grown_trans G6 (grown_below V8.bel (some g))
  have hb3 := V8.at 0 rfl
  have hlo3 : w6.heap.size ≤ g3 := V8.low _ (List.mem_cons_self ..)
  have l16 := lt_of_heap hg1
  replace hg1 : wb.heap[w.heap.size]? = some (.cells #[.int .i64 0, .int .i64 0, .int .i64 0, .int .i64 0, .slice none 0 0] 24 (0, 0)) := by rw [V8.bel.block _ l16]; exact hg1
  clear V6 V7 V8 h6 G6
  by_cases hn24 : n < 24
  · refine (number_no h8 (by omega)).mono ?_
    rintro e w' ⟨rfl, rfl⟩
    go_wp2_with fail
    exact ⟨rfl, G8, .inr ⟨noMf_len (by rw [HL.out]; omega), rfl⟩⟩
  refine (number_yes h8 (isB_drop hD _) (by omega)).mono ?_
  rintro e w7 ⟨a7, rfl, hw, h7⟩
  rw [numAt_from, Nat.add_zero]
  rw [List.drop_drop, Nat.sub_sub, Nat.sub_sub] at h7
  have G7 : w.grownBy w7 (some g) := by rw [hw]; exact grown_trans G8 (grown_set _ _ _ _)
  replace hg1 : w7.heap[w.heap.size]? = some (.cells #[.int .i64 0, .int .i64 0, .int .i64 0, .int .i64 0, .slice none 0 0] 24 (0, 0)) := by rw [hw]; exact grown_heap (grown_set _ _ _ _) hg1 (by omega)
  replace hb3 : w7.heap[g3]? = some (.cells #[.int .i64 x, .int .i64 y, .int .i64 z, .int .i64 u, .slice none 0 0] 24 (0, 0)) := by rw [hw]; exact grown_heap (grown_set _ _ _ _) hb3 (by omega)
  clear hw h8 G8 hn20
  have hcn : numAt D (4 + 4 + 4 + 4 + 4) = ((cnt D : Nat) : Int) := (numAt_back hD).symm
  have hfit : ¬ D.length = 24 + 40 * cnt D → isMf D = false := noMf_fit
  have hsok := fun k => sgsTo_ok hD (k := k)
  have hcnt : ¬ ((cnt D : Nat) : Int) ≤ 8 → isMf D = false := fun h => noMf_cnt (by rw [show numAt D 20 = ((cnt D : Nat) : Int) from hcn]; exact h)
  have hyes : ((cnt D : Nat) : Int) ≤ 8 → D.length = 24 + 40 * cnt D → mayM (dec D) = true → isMf D = true := fun h1 h2 h3 => yesMf HQ.out (by rw [HL.out]; omega) (by rw [show numAt D 20 = ((cnt D : Nat) : Int) from hcn]; exact h1) h2 h3
  have hmay : mayM (dec D) = false → isMf D = false := noMf_may
  rw [hcn]
  clear hcn
  rw [HL.out] at hfit hyes
  rw [HDC.out] at hyes hmay
  have HFIT : Hid _ := hfit
  have HCNT : Hid _ := hcnt
  have HYES : Hid _ := hyes
  have HMAY : Hid _ := hmay
  have HSOK : Hid _ := hsok
  have HII : Hid (MI w g D n x y z u w.heap.size g3 0 w7) := ⟨G7, by omega, ⟨a7, _, h7⟩, hg1, _, hb3, World.ownsRow_nil _ _ _ _⟩
  clear hfit hcnt hyes hmay hsok h7 hb3 hg1 HDC
  generalize hek : cnt D = k at *
  have HEK : Hid (cnt D = k) := hek
  clear hek
  go_wp2_with fail
  have hwi := within_any (k : Int) 0 8 w7
  cases h8 : within (k : Int) 0 8
  · rw [h8] at hwi
    have hF : isMf D = false := HCNT.out (by have := within_no h8; omega)
    have HF : Hid (isMf D = false) := hF
    clear hF h8 HCNT HFIT HYES HMAY
    refine hwi.mono ?_
    rintro e w' ⟨rfl, rfl⟩
    clear hwi
    go_wp2_with fail
    refine (need_no g _).mono ?_
    rintro e w' ⟨rfl, rfl⟩
    go_wp2_with fail
    exact ⟨rfl, G7, .inr ⟨HF.out, rfl⟩⟩
  rw [h8] at hwi
  have hk8 := (within_yes h8).2
  clear h8 HCNT
  refine hwi.mono ?_
  rintro e w' ⟨rfl, rfl⟩
  clear hwi G7
  go_wp2_with fail
  refine (need_yes g _).mono ?_
  rintro e w' ⟨rfl, rfl⟩
  go_wp2_with fail
  clear hn24
  have HSZ : Hid (w.heap.size < w6.heap.size) := l16
  go_loopw [27] (fun y' wr => ∃ i : Nat, i ≤ k ∧ y' = .int .i64 (i : Int) ∧ Hid (MI w g D n x y z u w.heap.size g3 i wr)) (fun y' _ => k - (RowKit.intOf y').toNat)
  case atStart => exact ⟨0, Nat.zero_le _, rfl, HII⟩
  case round =>
    clear HII
    obtain ⟨i, hi, rfl, HI⟩ := hrel
    obtain ⟨gr, len, ⟨a', c', rd⟩, b2, sv, b3, own⟩ := HI.out
    clear HI
    by_cases hlti : i < k
    · have hlti' : (i : Int) < (k : Int) := by omega
      have hF : n < 24 + 40 * (i + 1) → isMf D = false := fun h => HFIT.out (by omega)
      have HF : Hid _ := hF
      clear hF
      have c4 : wr.drew.cell? ⟨g3, 4, none⟩ = some sv := man_c b3 4
      have rdd := rd.below ((Below.refl _ _).drew) (Nat.le_refl _)
      have grd := grown_then gr ((Below.refl _ _).drew)
      have b2d : wr.drew.heap[w.heap.size]? = _ := b2
      have b3d : wr.drew.heap[g3]? = _ := b3
      have ownd := own.drew
      clear rd gr b2 b3 own
      go_wp2_with fail
      refine av_open (fun _ => True) (by kernel_rfl) ?_
      refine held_reads (rs := [0, 2]) (fuel := 6) (by kernel_rfl) (fun c d v a w h => by cases d <;> exact h) (by kernel_rfl) trivial (fun K hK => ?_)
      refine calm_do (.pointer (some ⟨g3, 4, none⟩)) rfl (by rfl) (fun w' hw' => ?_) ?_
      · go_simp
      go_simp
      refine calm_move _ rfl (by rfl) rfl ?_
      go_simp
      refine calm_nil (hK.out _ ?_)
      clear hK K
      generalize wr.drew = wd at *
      by_cases hseg : n < 24 + 40 * (i + 1)
      · refine av_op2 (i := 1) (j := 3) (fuel := 5) (by kernel_rfl) rfl (by rfl) rfl (by rfl) (fun K hK => ?_) (fun K hK => ?_)
        · go_simp
          refine hK _ _ trivial ?_
          clear hK K
          refine av_op (i := 3) (fuel := 4) (by kernel_rfl) rfl (by rfl) (fun K hK => ?_)
          go_simp
          refine (segment_no rdd (isB_drop hD _) (by omega)).mono ?_
          rintro e w' ⟨rfl, G⟩
          have HG : Hid (w.grownBy w' (some g)) := grown_trans grd G
          clear G
          go_wp2_with fail
          exact ⟨rfl, HG.out, .inr ⟨HF.out hseg, rfl⟩⟩
        · go_simp
          refine (segment_no rdd (isB_drop hD _) (by omega)).mono ?_
          rintro e w' ⟨rfl, G⟩
          have HG : Hid (w.grownBy w' (some g)) := grown_trans grd G
          clear G
          go_wp2_with fail
          exact ⟨rfl, HG.out, .inr ⟨HF.out hseg, rfl⟩⟩
      have hsok := sgAt_ok hD (o := 24 + 40 * i) (by rw [HL.out]; omega)
      have hsg := segment_yes rdd (isB_drop hD _) (by omega)
      rw [sgAt_from, Nat.add_zero, List.drop_drop, show 24 + 40 * i + 40 = 24 + 40 * (i + 1) by omega, Nat.sub_sub, show 24 + 40 * i + 40 = 24 + 40 * (i + 1) by omega] at hsg
      have hmk : ∀ w7 a' c', wd.grownBy w7 (some g) → RAt w7 g a' (n - (24 + 40 * (i + 1))) c' (D.drop (24 + 40 * (i + 1))) → MJ w g D n x y z u w.heap.size g3 i sv w7.heap.size (w7.alloc (.cells (sA (sgAt D (24 + 40 * i))) 45)) ∧ w7.cell? ⟨g3, 4, none⟩ = some sv ∧ (w7.alloc (.cells (sA (sgAt D (24 + 40 * i))) 45)).cell? ⟨g3, 4, none⟩ = some sv := fun w7 a' c' hg hr => by
        have hj := MJ.made grd b2d b3d ownd (by have := HSZ.out; omega) (by have := HSZ.out; omega) hg hr
        exact ⟨hj, man_c (grown_heap hg b3d (by omega)) 4, man_c hj.b3 4⟩
      have HMK : Hid _ := hmk
      have hms := fun w => made_seg hsok w
      have HPUT : Hid (∀ gq w8 w9 sv', MJ w g D n x y z u w.heap.size g3 i sv gq w8 → w9.ownsRow (g3 + 1) 45 34 sv' (i + 1) (sCs (sgsTo D i) ++ sC (sgAt D (24 + 40 * i))) → w8.grownBy w9 sv.ownBlock →
        MI w g D n x y z u w.heap.size g3 (i + 1) (w9.setCell ⟨g3, 4, none⟩ sv') ∧ w9.cell? ⟨g3, 4, none⟩ = some sv ∧ w9.frozen? ⟨g3, 4, none⟩ = false) :=
        fun gq w8 w9 sv' hj ho hg => MJ.put hj (by omega) (by have := HSZ.out; omega) (by have := HSZ.out; omega) (by omega) ho hg
      clear hmk grd b2d b3d ownd rdd
      generalize hse : sgAt D (24 + 40 * i) = s at *
      have HSE : Hid (sgAt D (24 + 40 * i) = s) := hse
      clear hse
      apply av_once (Vg := fun gq w8 => MJ w g D n x y z u w.heap.size g3 i sv gq w8)
      · intro HC
        refine av_op2 (i := 1) (j := 3) (fuel := 5) (by kernel_rfl) rfl (by rfl) rfl (by rfl) (fun K hK => ?_) (fun K hK => ?_)
        · go_simp
          refine hK _ _ trivial ?_
          clear hK K
          refine av_op (i := 3) (fuel := 4) (by kernel_rfl) rfl (by rfl) (fun K hK => ?_)
          go_simp
          refine hsg.mono ?_
          rintro e w7 ⟨a7', rfl, G7, r7⟩
          refine hK _ _ trivial ?_
          clear hK K
          have hj := HMK.out w7 _ _ G7 r7
          refine av_op (i := 4) (fuel := 3) (by kernel_rfl) rfl (by rfl) (fun K hK => ?_)
          refine wp_madeB 33 22 1 _ rfl rfl 45 (sA s) hms ?_
          refine hK _ _ trivial ?_
          clear hK K
          have hj1 := hj.1
          clear hj G7 r7
          generalize w7.alloc (.cells (sA s) 45) = w8 at *
          generalize w7.heap.size = gq at *
          try go_simp
          exact HC gq w8 hj1
        · go_simp
          refine hsg.mono ?_
          rintro e w7 ⟨a7', rfl, G7, r7⟩
          refine hK _ _ trivial ?_
          clear hK K
          have hj := HMK.out w7 _ _ G7 r7
          have c7 := hj.2.1
          have c8 := hj.2.2
          refine av_op2 (i := 1) (j := 4) (fuel := 4) (by kernel_rfl) rfl (by rfl) rfl (by rfl) (fun K hK => ?_) (fun K hK => ?_)
          · clear c8
            go_simp
            refine hK _ _ trivial ?_
            clear hK K c7
            refine av_op (i := 4) (fuel := 3) (by kernel_rfl) rfl (by rfl) (fun K hK => ?_)
            refine wp_madeB 33 22 1 _ rfl rfl 45 (sA s) hms ?_
            refine hK _ _ trivial ?_
            clear hK K
            have hj1 := hj.1
            clear hj G7 r7
            generalize w7.alloc (.cells (sA s) 45) = w8 at *
            generalize w7.heap.size = gq at *
            try go_simp
            exact HC gq w8 hj1
          · clear c7
            refine wp_madeB 33 22 1 _ rfl rfl 45 (sA s) hms ?_
            refine hK _ _ trivial ?_
            clear hK K
            refine av_op (i := 1) (fuel := 3) (by kernel_rfl) rfl (by rfl) (fun K hK => ?_)
            go_simp
            refine hK _ _ trivial ?_
            clear hK K c8
            have hj1 := hj.1
            clear hj G7 r7
            generalize w7.alloc (.cells (sA s) 45) = w8 at *
            generalize w7.heap.size = gq at *
            try go_simp
            exact HC gq w8 hj1
      intro gq w8 hj
      clear hsg HMK hms
      obtain ⟨i1, hi1, hz1, hs1, hb1⟩ := seg_info
      refine av_op (i := 5) (fuel := 2) (by kernel_rfl) rfl (by rfl) (fun K hK => ?_)
      refine wp_append_own _ _ _ 22 rfl (g3 + 1) 45 i1 (.agg (sA sg0)) 34 48 Try.underlying22 hi1 hz1 hs1 hb1 (sA_size sg0_ok) (by decide) sv i (sCs (sgsTo D i)) rfl hj.own ⟨gq, 0, none⟩ 1 1 (sC s) rfl (by rw [sC_len hsok]) (fun j u hu => by have h9 := hj.nw; rw [HSE.out] at h9; rw [plain_add]; exact range_sg h9 j u hu) (sC_one s) (by unfold maxLen; omega) (by omega) (by have := lt_of_heap hj.b3; omega) ?_
      intro sv' w9 own9 g9 _
      have hp := HPUT.out gq w8 w9 sv' hj own9 g9
      refine hK _ _ trivial ?_
      clear hK K hi1 hz1 hs1 hb1
      obtain ⟨sa', sc', rfl⟩ : ∃ sa sc, sv' = .slice sa (i + 1) sc := by
        rcases own9.2 with ⟨_, h0⟩ | ⟨g', cap', cur', rfl, _⟩
        · omega
        · exact ⟨_, _, rfl⟩
      have cp := hp.2.1
      have fp := hp.2.2
      have HP : Hid _ := hp.1
      clear hp own9 g9 hj HPUT
      refine held_reads (rs := [6]) (fuel := 1) (by kernel_rfl) (fun c d v a w h => by cases d <;> exact h) (by kernel_rfl) trivial (fun K hK => ?_)
      go_simp
      refine calm_do (.pointer (some ⟨g3, 4, none⟩)) rfl (by rfl) (fun w' hw' => ?_) ?_
      · go_simp
      go_simp
      refine calm_nil (hK.out _ ?_)
      clear hK K
      refine av_op (i := 7) (fuel := 0) (by kernel_rfl) rfl (by rfl) (fun K hK => ?_)
      go_simp
      refine hK _ _ trivial ?_
      clear hK K
      refine wpAnyH_done (by kernel_rfl) ?_ _
      go_wp2_with fail
      go_roundw
      case rel => exact ⟨i + 1, by omega, by go_num, HP⟩
      case measure => simp [RowKit.intOf]; omega
    · obtain rfl : i = k := by omega
      clear hi
      have hso := HSOK.out i (by rw [HL.out]; exact len)
      obtain ⟨sa, sc, rfl, hrow⟩ := segRow_owns (sgsTo_len D i) hso own
      have d0 : wr.cell? ⟨g3, 0, none⟩ = some (.int .i64 x) := man_c b3 0
      have d1 : wr.cell? ⟨g3, 1, none⟩ = some (.int .i64 y) := man_c b3 1
      have d2 : wr.cell? ⟨g3, 2, none⟩ = some (.int .i64 z) := man_c b3 2
      have d3 : wr.cell? ⟨g3, 3, none⟩ = some (.int .i64 u) := man_c b3 3
      have d4 : wr.cell? ⟨g3, 4, none⟩ = some (.slice sa i sc) := man_c b3 4
      have c0 : wr.cell? ⟨g, 0, none⟩ = some (.slice a' (n - (24 + 40 * i)) c') := man_c rd.box 0
      have hmb := mayBe_any (v := x) (s := y) (k := z) (e := u) hrow hso
      clear rd hso HSOK hrow
      by_cases hr0 : n = 24 + 40 * i
      · rw [show n - (24 + 40 * i) = 0 by omega] at c0
        have HR0 : Hid (n = 24 + 40 * i) := hr0
        clear hr0
        cases hm : mayM ⟨x, y, z, u, sgsTo D i⟩
        · rw [hm] at hmb
          have HF : Hid (isMf D = false) := HMAY.out hm
          clear hm HYES HMAY HFIT
          go_wp2_with fail
          refine hmb.mono ?_
          rintro e w' ⟨rfl, q⟩
          have HG : Hid (w.grownBy w' (some g)) := grown_then gr (q.mono gr.size)
          clear q gr hmb d0 d1 d2 d3 d4 c0 b2 b3 own
          go_wp2_with fail
          refine (need_no g _).mono ?_
          rintro e w'' ⟨rfl, rfl⟩
          go_wp2_with fail
          exact ⟨rfl, HG.out, .inr ⟨HF.out, rfl⟩⟩
        · rw [hm] at hmb
          have HT : Hid (isMf D = true) := HYES.out hk8 HR0.out hm
          clear hm HYES HMAY HFIT
          go_wp2_with fail
          refine hmb.mono ?_
          rintro e w' ⟨rfl, q⟩
          have HG : Hid (w.grownBy w' (some g)) := grown_then gr (q.mono gr.size)
          have b2' : w'.heap[w.heap.size]? = some (.cells #[.int .i64 0, .int .i64 0, .int .i64 0, .int .i64 0, .slice none 0 0] 24 (0, 0)) := by rw [q.block _ (lt_of_heap b2)]; exact b2
          have b3' : w'.heap[g3]? = some (.cells #[.int .i64 x, .int .i64 y, .int .i64 z, .int .i64 u, .slice sa i sc] 24 (0, 0)) := by rw [q.block _ (lt_of_heap b3)]; exact b3
          have own' : w'.ownsRow (g3 + 1) 45 34 (.slice sa i sc) i (sCs (sgsTo D i)) := own_below own q
          clear q gr hmb d0 d1 d2 d3 d4 c0 b2 b3 own
          go_wp2_with fail
          refine (need_yes g _).mono ?_
          rintro e w'' ⟨rfl, rfl⟩
          have d0 : w'.cell? ⟨g3, 0, none⟩ = some (.int .i64 x) := man_c b3' 0
          have d1 : w'.cell? ⟨g3, 1, none⟩ = some (.int .i64 y) := man_c b3' 1
          have d2 : w'.cell? ⟨g3, 2, none⟩ = some (.int .i64 z) := man_c b3' 2
          have d3 : w'.cell? ⟨g3, 3, none⟩ = some (.int .i64 u) := man_c b3' 3
          have d4 : w'.cell? ⟨g3, 4, none⟩ = some (.slice sa i sc) := man_c b3' 4
          go_wp2_with (refine wpList_storeB b2' _ (.tmp 49) rfl rfl rfl #[.int .i64 x, .int .i64 y, .int .i64 z, .int .i64 u, .slice sa i sc] rfl rfl Try.szMf rfl rfl (mf_oneS x y z u sa i sc) ?_)
          have q8 : Below w.heap.size w' (w'.setRow w.heap.size #[.int .i64 x, .int .i64 y, .int .i64 z, .int .i64 u, .slice sa i sc]) := below_setRow (Below.refl _ _) (Nat.le_refl _) _
          have hg8 := setRow_heap w' w.heap.size _ #[.int .i64 x, .int .i64 y, .int .i64 z, .int .i64 u, .slice sa i sc] _ _ b2'
          have own8 : (w'.setRow w.heap.size #[.int .i64 x, .int .i64 y, .int .i64 z, .int .i64 u, .slice sa i sc]).ownsRow (g3 + 1) 45 34 (.slice sa i sc) i (sCs (sgsTo D i)) := by
            refine own'.kept (row := some w.heap.size) ⟨q8.os, q8.tape, q8.output, q8.size, fun k _ hk => setRow_other w' w.heap.size k _ (fun e => hk (by rw [e]))⟩ ?_
            rcases hv : (Value.slice sa i sc).ownBlock with _ | k
            · exact .inl rfl
            · right
              intro e
              have h1 := (own'.lt k hv).1
              have h2 := HSZ.out
              cases e
              omega
          obtain ⟨sa8, sc8, e8, row8⟩ := segRow_owns (sgsTo_len D i) (sgsTo_ok hD (by rw [HL.out]; exact len)) own8
          cases e8
          refine bodyPost_ret (results_cell_row rfl _ _ w.heap.size _ #[.int .i64 x, .int .i64 y, .int .i64 z, .int .i64 u, .slice sa i sc] (0, 0) _ rfl hg8 Try.underlying24 rfl Try.szMf) rfl ?_
          refine ⟨grown_then HG.out q8, .inl ⟨HT.out, sa, sc, ?_, ?_, fun q hq => ?_⟩⟩
          · rw [HEx.out, HEy.out, HEz.out, HEu.out, HEK.out]
          · rw [HEK.out]
            exact row8
          · have h1 := (own'.lt q.block (by rw [hq]; rfl)).1
            have h2 := HSZ.out
            omega
      · have hr1 : ¬ ((n - (24 + 40 * i) : Nat) : Int) = 0 := by omega
        have HF : Hid (isMf D = false) := HFIT.out hr0
        clear hmb HYES HMAY HFIT hr0
        generalize n - (24 + 40 * i) = r at *
        go_wp2_with fail
        refine (need_no g _).mono ?_
        rintro e w'' ⟨rfl, rfl⟩
        go_wp2_with fail
        exact ⟨rfl, gr, .inr ⟨HF.out, rfl⟩⟩
end Go.Proofs.Ytennmhenlhaliaa.N
