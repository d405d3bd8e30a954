/-
 The document's answer of layer 11 (casemateref11): a row of values in a block of its own (VRow); New, Put, Drop, Copy, Count; the law's healthy.
-/
import Derived.Test.YtbafkakhhelcmaaGreatStoreScript
import Derived.Laws.OwnMore
namespace Go.Proofs.YtbafkakhhelcmaaGreat
open Go.RowKit Go.Maps
set_option linter.unusedVariables false
set_option maxRecDepth 8192

/-- A block's first L cells are V's. -/
def VRow (w : World) (hb : Nat) (T : TypeId) (L : Nat) (V : Nat → Value) : Prop := ∃ xs : Array Value, w.heap[hb]? = some (.cells xs T (0, 0)) ∧ ∀ i, i < L → xs[i]? = some (V i)
section
variable {w w' : World} {hb : Nat} {T : TypeId} {L : Nat} {V : Nat → Value}
theorem VRow.same (h : VRow w hb T L V) (e : w'.heap[hb]? = w.heap[hb]?) : VRow w' hb T L V := by
 obtain ⟨xs, h1, h2⟩ := h
 exact ⟨xs, e.trans h1, h2⟩
theorem VRow.lt (h : VRow w hb T L V) : hb < w.heap.size := by
 obtain ⟨xs, h1, h2⟩ := h
 exact (Array.getElem?_eq_some_iff.1 h1).1
theorem VRow.below (h : VRow w hb T L V) (q : Below w.heap.size w w') : VRow w' hb T L V := h.same (q.block hb h.lt)
theorem VRow.turned {F : Nat → Prop} (h : VRow w hb T L V) (t : Turned F w w') (hf : ¬ F hb) : VRow w' hb T L V := h.same (t.block hb h.lt hf)
theorem VRow.at (h : VRow w hb T L V) (i : Nat) (hi : i < L) : w.cell? ⟨hb, i, none⟩ = some (V i) := by
 obtain ⟨xs, h1, h2⟩ := h
 simp [World.cell?, h1, h2 i hi]
theorem VRow.soft (h : VRow w hb T L V) (i : Nat) : w.frozen? ⟨hb, i, none⟩ = false := by
 obtain ⟨xs, h1, h2⟩ := h
 simp [World.frozen?, h1]
theorem VRow.eq (h : VRow w hb T L V) {V' : Nat → Value} (e : ∀ i, i < L → V i = V' i) : VRow w hb T L V' := by
 obtain ⟨xs, h1, h2⟩ := h
 exact ⟨xs, h1, fun i hi => by rw [h2 i hi, e i hi]⟩
theorem VRow.set (h : VRow w hb T L V) (j : Nat) (hj : j < L) (v : Value) : VRow (w.setCell ⟨hb, j, none⟩ v) hb T L (fun i => if i = j then v else V i) := by
 obtain ⟨xs, h1, h2⟩ := h
 have hlt : j < xs.size := (Array.getElem?_eq_some_iff.1 (h2 j hj)).1
 refine ⟨xs.setIfInBounds j v, block_setC (i := j) h1 v, fun i hi => ?_⟩
 rw [Array.getElem?_setIfInBounds]
 by_cases e : i = j
 ·subst e; simp [hlt]
 ·rw [if_neg (fun x => e x.symm)]; simp only [e, if_false]; exact h2 i hi
end
/-- A map: of each logical block whether it has bytes, and these. -/
structure MapAt (w : World) (hb db L : Nat) (M : Int → Option (List Int)) : Prop where
 hs : VRow w hb 4 L (fun i => .bool (M i).isSome)
 ds : ∃ E : Nat → List Int, VRow w db 9 L (fun i => .string (strOfNums (E i))) ∧ ∀ (i : Nat) D, M i = some D → E i = D
 ne : hb ≠ db
theorem MapAt.turned {F : Nat → Prop} {w w' : World} {hb db L : Nat} {M : Int → Option (List Int)} (h : MapAt w hb db L M) (t : Turned F w w') (h1 : ¬ F hb) (h2 : ¬ F db) : MapAt w' hb db L M := by
 obtain ⟨E, e1, e2⟩ := h.ds
 exact ⟨h.hs.turned t h1, ⟨E, e1.turned t h2, e2⟩, h.ne⟩
theorem MapAt.below {w w' : World} {hb db L : Nat} {M : Int → Option (List Int)} (h : MapAt w hb db L M) (q : Below w.heap.size w w') : MapAt w' hb db L M := h.turned (F := fun _ => False) (Turned.of_below _ q) id id
theorem MapAt.lt {w : World} {hb db L : Nat} {M : Int → Option (List Int)} (h : MapAt w hb db L M) : hb < w.heap.size ∧ db < w.heap.size := by
 obtain ⟨E, e1, e2⟩ := h.ds
 exact ⟨h.hs.lt, e1.lt⟩
section
variable {P : Program} {ops : Array Oper} {Q : Exit → Act → World → Prop} {md : Region.Mode} {S : World → Prop}
/-- The beginning, whatever the condition. -/
theorem held_open11 (S : World → Prop) {id : Nat} {a : Act} {w : World} (hm : P.follows .mixedOrders = true)
  (h : wpAnyH P .any ops Q S ops.size (Array.replicate ops.size false) a w.drew) : (Code.region id ops true).wp P Q a w := wp_region_held hm h
theorem held_op11 {i : Nat} {o : Oper} {fuel : Nat} {listed : Array Bool} {a : Act} {w : World} (hr : Region.ready md ops listed = [i]) (ho : ops[i]? = some o)
  (hw : Region.wanted o (yielded ops a.tmps) = true)
  (h : ∀ K' : Act → World → Prop, (∀ a w1, S w1 → wpAnyH P md ops Q S fuel (listed.setIfInBounds i true) a w1 → K' a w1) → Oper.wp P o a w K' Q) :
  wpAnyH P md ops Q S (fuel + 1) listed a w := by
 refine wpAnyH_all hr (by simp) fun j hj => ?_
 simp only [List.mem_singleton] at hj
 subst hj
 refine wpOp_step ho fun K' hK => ?_
 rw [if_pos hw]
 exact h K' fun a w1 hs hh => hK a w1 ⟨hs, hh⟩
theorem held_two11 {i j : Nat} {oi oj : Oper} {fuel : Nat} {listed : Array Bool} {a : Act} {w : World} (hr : Region.ready md ops listed = [i, j]) (hoi : ops[i]? = some oi)
  (hwi : Region.wanted oi (yielded ops a.tmps) = true) (hoj : ops[j]? = some oj) (hwj : Region.wanted oj (yielded ops a.tmps) = true)
  (hi : ∀ K' : Act → World → Prop, (∀ a w1, S w1 → wpAnyH P md ops Q S fuel (listed.setIfInBounds i true) a w1 → K' a w1) → Oper.wp P oi a w K' Q)
  (hj : ∀ K' : Act → World → Prop, (∀ a w1, S w1 → wpAnyH P md ops Q S fuel (listed.setIfInBounds j true) a w1 → K' a w1) → Oper.wp P oj a w K' Q) :
  wpAnyH P md ops Q S (fuel + 1) listed a w := by
 refine wpAnyH_all hr (by simp) fun k hk => ?_
 simp only [List.mem_cons, List.not_mem_nil, or_false] at hk
 rcases hk with rfl | rfl
 ·refine wpOp_step hoi fun K' hK => ?_
  rw [if_pos hwi]
  exact hi K' fun a w1 hs hh => hK a w1 ⟨hs, hh⟩
 ·refine wpOp_step hoj fun K' hK => ?_
  rw [if_pos hwj]
  exact hj K' fun a w1 hs hh => hK a w1 ⟨hs, hh⟩
end
theorem vrow_made {w w' : World} {g n : Nat} {T : TypeId} {v : Value} (h : w'.ownsRow w.heap.size T 1 (.slice (some ⟨g, 0, none⟩) n n) n (madeCells v.cells (n * 1)).toList) (hv : v.cells = #[v]) : VRow w' g T n (fun _ => v) := by
 have e : (madeCells v.cells (n * 1)).toList = List.replicate n v := by
  rw [Nat.mul_one, hv]
  exact toList_madeCells_one v n
 rw [e] at h
 refine ⟨_, heap_of_owns h, fun i hi => ?_⟩
 simp [hi]
theorem infoB11 : (Tryz.prog.info? 4).map (fun i => (i.zero, i.size, i.bytes)) = some (some (.bool false), 1, 1) := by kernel_rfl
theorem infoS11 : (Tryz.prog.info? 9).map (fun i => (i.zero, i.size, i.bytes)) = some (some (.string ⟨#[]⟩), 1, 16) := by kernel_rfl
theorem makeBools11 (n : Nat) (hn : n ≤ 1000) (w : World) : ∃ w', Sem.run Tryz.prog (Instr.makeSlice 37 (.int .i64 (n : Int)) (.int .i64 (n : Int))) w = .ok (.slice (some ⟨w.heap.size, 0, none⟩) n n) w' ∧
  VRow w' w.heap.size 4 n (fun _ => .bool false) ∧ Below w.heap.size w w' := by
 obtain ⟨i0, hi0, hz0, hz1, hz2⟩ := info_parts infoB11
 obtain ⟨w', hrun, r1, r2⟩ := run_make_full (P := Tryz.prog) w w.heap.size 37 4 i0 (.bool false) 1 Tryz.underlying37 hi0 hz0 hz1 .i64 .i64 n (by rw [hz2]; omega) (by unfold maxLen; omega) (Nat.le_refl _)
 exact ⟨w', hrun, vrow_made r1 (by simp [Value.cells]), (Below.refl _ _).grown r2 (Nat.le_refl _) (by simp)⟩
theorem makeStrs11 (n : Nat) (hn : n ≤ 1000) (w : World) : ∃ w', Sem.run Tryz.prog (Instr.makeSlice 38 (.int .i64 (n : Int)) (.int .i64 (n : Int))) w = .ok (.slice (some ⟨w.heap.size, 0, none⟩) n n) w' ∧
  VRow w' w.heap.size 9 n (fun _ => .string ⟨#[]⟩) ∧ Below w.heap.size w w' := by
 obtain ⟨i0, hi0, hz0, hz1, hz2⟩ := info_parts infoS11
 obtain ⟨w', hrun, r1, r2⟩ := run_make_full (P := Tryz.prog) w w.heap.size 38 9 i0 (.string ⟨#[]⟩) 1 Tryz.underlying38 hi0 hz0 hz1 .i64 .i64 n (by rw [hz2]; omega) (by unfold maxLen; omega) (Nat.le_refl _)
 exact ⟨w', hrun, vrow_made r1 (by simp [Value.cells]), (Below.refl _ _).grown r2 (Nat.le_refl _) (by simp)⟩
/-- A map as a value. -/
def mapV (hb db L c1 c2 : Nat) : Value := .agg #[.slice (some ⟨hb, 0, none⟩) L c1, .slice (some ⟨db, 0, none⟩) L c2]
theorem map_new {w : World} {hb db L : Nat} (h1 : VRow w hb 4 L (fun _ => .bool false)) (h2 : VRow w db 9 L (fun _ => .string ⟨#[]⟩)) (hn : hb ≠ db) : MapAt w hb db L (fun _ => none) :=
 ⟨h1, ⟨fun _ => [], h2, fun i D e => by cases e⟩, hn⟩
theorem map_put {w : World} {hb db L : Nat} {M : Int → Option (List Int)} (h : MapAt w hb db L M) (j : Nat) (hj : j < L) (o : Option (List Int)) (E : List Int) (he : ∀ D, o = some D → E = D) :
  MapAt ((w.setCell ⟨hb, j, none⟩ (.bool o.isSome)).setCell ⟨db, j, none⟩ (.string (strOfNums E))) hb db L (updM M j o) := by
 obtain ⟨E0, e1, e2⟩ := h.ds
 refine ⟨?_, ⟨fun i => if i = j then E else E0 i, ?_, fun i D hi => ?_⟩, h.ne⟩
 ·refine ((h.hs.set j hj (.bool o.isSome)).same (Below.heap_setCell _ ⟨db, j, none⟩ _ hb h.ne)).eq fun i hi => ?_
  by_cases e : i = j
  ·subst e; simp only [if_true]; rw [updM_at]
  ·simp only [e, if_false]; rw [updM_ne _ (by omega)]
 ·refine ((e1.same (Below.heap_setCell w ⟨hb, j, none⟩ (.bool o.isSome) db (fun e => h.ne e.symm))).set j hj (.string (strOfNums E))).eq fun i hi => ?_
  by_cases e : i = j
  ·subst e; simp only [if_true]
  ·simp only [e, if_false]
 ·by_cases e : i = j
  ·subst e; rw [updM_at] at hi; simp only [if_true]; exact he D hi
  ·rw [updM_ne _ (by omega)] at hi; simp only [e, if_false]; exact e2 i D hi
set_option maxHeartbeats 1600000 in
theorem refPut11_any (hb db L c1 c2 : Nat) (M : Int → Option (List Int)) (j : Nat) (hj : j < L) (D : List Int) (w : World) (h : MapAt w hb db L M) : Calls Tryz.prog 22 #[mapV hb db L c1 c2, .int .i64 (j : Int), .string (strOfNums D)] w fun e w' => (∃ r, e = .returned r) ∧ MapAt w' hb db L (updM M j (some D)) ∧ Turned (fun x => x = hb ∨ x = db) w w' := by
 have hj' : (j : Int) < (L : Int) := by omega
 have hlt := h.lt
 have h0 := h.below (below_one w (.cells #[.slice (some ⟨hb, 0, none⟩) L c1, .slice (some ⟨db, 0, none⟩) L c2] 40))
 obtain ⟨E0, e1, e2⟩ := h0.ds
 have x1 := h0.hs.at j hj
 have y1 := h0.hs.soft j
 have x2 : ((w.alloc (.cells #[.slice (some ⟨hb, 0, none⟩) L c1, .slice (some ⟨db, 0, none⟩) L c2] 40)).setCell ⟨hb, j, none⟩ (.bool true)).cell? ⟨db, j, none⟩ = _ := (cellFar (p := ⟨hb, j, none⟩) (q := ⟨db, j, none⟩) (fun e => h.ne e.symm)).trans (e1.at j hj)
 have y2 : ((w.alloc (.cells #[.slice (some ⟨hb, 0, none⟩) L c1, .slice (some ⟨db, 0, none⟩) L c2] 40)).setCell ⟨hb, j, none⟩ (.bool true)).frozen? ⟨db, j, none⟩ = _ := (World.frozen?_setCell _ _ _ _).trans (e1.soft j)
 have b2 : ((w.alloc (.cells #[.slice (some ⟨hb, 0, none⟩) L c1, .slice (some ⟨db, 0, none⟩) L c2] 40)).setCell ⟨hb, j, none⟩ (.bool true)).cell? ⟨w.heap.size, 1, none⟩ = some (.slice (some ⟨db, 0, none⟩) L c2) := by
  rw [cellFar (p := ⟨hb, j, none⟩) (q := ⟨w.heap.size, 1, none⟩) (by show w.heap.size ≠ hb; omega)]
  rw [World.cell?_alloc_at _ _ _ _ rfl]; rfl
 have HM : Hid (MapAt (((w.alloc (.cells #[.slice (some ⟨hb, 0, none⟩) L c1, .slice (some ⟨db, 0, none⟩) L c2] 40)).setCell ⟨hb, j, none⟩ (.bool true)).setCell ⟨db, j, none⟩ (.string (strOfNums D))) hb db L (updM M j (some D))) := map_put h0 j hj (some D) D (fun D h => by cases h; rfl)
 have HT : Hid (Turned (fun x => x = hb ∨ x = db) w (((w.alloc (.cells #[.slice (some ⟨hb, 0, none⟩) L c1, .slice (some ⟨db, 0, none⟩) L c2] 40)).setCell ⟨hb, j, none⟩ (.bool true)).setCell ⟨db, j, none⟩ (.string (strOfNums D)))) := ((Turned.of_below _ (below_one _ _)).setCell (p := ⟨hb, j, none⟩) (.inl (.inl rfl)) _).setCell (p := ⟨db, j, none⟩) (.inl (.inr rfl)) _
 clear h h0 e1 e2 hlt
 unfold mapV
 go_enter Tryz.func22, Tryz.ntmps22
 go_wp2_with fail
 go_end0
 exact ⟨⟨_, rfl⟩, HM.out, HT.out⟩
set_option maxHeartbeats 1600000 in
theorem refDrop11_any (hb db L c1 c2 : Nat) (M : Int → Option (List Int)) (j : Nat) (hj : j < L) (w : World) (h : MapAt w hb db L M) : Calls Tryz.prog 24 #[mapV hb db L c1 c2, .int .i64 (j : Int)] w fun e w' => (∃ r, e = .returned r) ∧ MapAt w' hb db L (updM M j none) ∧ Turned (fun x => x = hb ∨ x = db) w w' := by
 have hj' : (j : Int) < (L : Int) := by omega
 have hlt := h.lt
 have h0 := h.below (below_one w (.cells #[.slice (some ⟨hb, 0, none⟩) L c1, .slice (some ⟨db, 0, none⟩) L c2] 40))
 obtain ⟨E0, e1, e2⟩ := h0.ds
 have x1 := h0.hs.at j hj
 have y1 := h0.hs.soft j
 have x2 : ((w.alloc (.cells #[.slice (some ⟨hb, 0, none⟩) L c1, .slice (some ⟨db, 0, none⟩) L c2] 40)).setCell ⟨hb, j, none⟩ (.bool false)).cell? ⟨db, j, none⟩ = _ := (cellFar (p := ⟨hb, j, none⟩) (q := ⟨db, j, none⟩) (fun e => h.ne e.symm)).trans (e1.at j hj)
 have y2 : ((w.alloc (.cells #[.slice (some ⟨hb, 0, none⟩) L c1, .slice (some ⟨db, 0, none⟩) L c2] 40)).setCell ⟨hb, j, none⟩ (.bool false)).frozen? ⟨db, j, none⟩ = _ := (World.frozen?_setCell _ _ _ _).trans (e1.soft j)
 have b2 : ((w.alloc (.cells #[.slice (some ⟨hb, 0, none⟩) L c1, .slice (some ⟨db, 0, none⟩) L c2] 40)).setCell ⟨hb, j, none⟩ (.bool false)).cell? ⟨w.heap.size, 1, none⟩ = some (.slice (some ⟨db, 0, none⟩) L c2) := by
  rw [cellFar (p := ⟨hb, j, none⟩) (q := ⟨w.heap.size, 1, none⟩) (by show w.heap.size ≠ hb; omega)]
  rw [World.cell?_alloc_at _ _ _ _ rfl]; rfl
 have HM : Hid (MapAt (((w.alloc (.cells #[.slice (some ⟨hb, 0, none⟩) L c1, .slice (some ⟨db, 0, none⟩) L c2] 40)).setCell ⟨hb, j, none⟩ (.bool false)).setCell ⟨db, j, none⟩ (.string ⟨#[]⟩)) hb db L (updM M j none)) := map_put h0 j hj none [] (fun D h => by cases h)
 have HT : Hid (Turned (fun x => x = hb ∨ x = db) w (((w.alloc (.cells #[.slice (some ⟨hb, 0, none⟩) L c1, .slice (some ⟨db, 0, none⟩) L c2] 40)).setCell ⟨hb, j, none⟩ (.bool false)).setCell ⟨db, j, none⟩ (.string ⟨#[]⟩))) := ((Turned.of_below _ (below_one _ _)).setCell (p := ⟨hb, j, none⟩) (.inl (.inl rfl)) _).setCell (p := ⟨db, j, none⟩) (.inl (.inr rfl)) _
 clear h h0 e1 e2 hlt
 unfold mapV
 go_enter Tryz.func24, Tryz.ntmps24
 go_wp2_with fail
 go_end0
 exact ⟨⟨_, rfl⟩, HM.out, HT.out⟩
set_option maxHeartbeats 1600000 in
theorem refNew11_any (L : Nat) (hL : L ≤ 1000) (w : World) : Calls Tryz.prog 17 #[.int .i64 (L : Int)] w fun e w' => ∃ hb db, (w.heap.size ≤ hb ∧ w.heap.size ≤ db) ∧ e = .returned (mapV hb db L L L) ∧ MapAt w' hb db L (fun _ => none) ∧ Below w.heap.size w w' := by
 have q0 := below_one w (.cells #[.slice none 0 0, .slice none 0 0] 40)
 have b0 : (w.alloc (.cells #[.slice none 0 0, .slice none 0 0] 40)).heap[w.heap.size]? = some (.cells #[.slice none 0 0, .slice none 0 0] 40 (0, 0)) := by rw [Array.getElem?_eq_getElem (by simp)]; simp [World.alloc, -World.alloc_eq]
 have s0 : (w.alloc (.cells #[.slice none 0 0, .slice none 0 0] 40)).heap.size = w.heap.size + 1 := by simp
 go_enter Tryz.func17, Tryz.ntmps17
 go_wp2_with fail
 generalize w.alloc (.cells #[.slice none 0 0, .slice none 0 0] 40) = w0 at *
 refine held_open11 (fun _ => True) (by kernel_rfl) ?_
 refine held_reads (rs := [0, 2]) (fuel := 4) (by kernel_rfl) (fun c d v a w h => by cases d <;> exact h) (by kernel_rfl) trivial (fun K hK => ?_)
 refine calm_move _ rfl (by rfl) rfl ?_
 go_simp
 refine calm_move _ rfl (by rfl) rfl ?_
 go_simp
 refine calm_nil (hK.out _ ?_)
 clear hK K
 have q1 : Below w.heap.size w w0.drew := q0.drew
 have b1 : w0.drew.heap[w.heap.size]? = _ := b0
 have s1 : w0.drew.heap.size = w.heap.size + 1 := s0
 have hp1 : w.heap.size < w0.drew.heap.size := by omega
 clear q0 b0 s0 s1
 generalize w0.drew = w1 at *
 refine held_two11 (i := 1) (j := 3) (fuel := 3) (by kernel_rfl) rfl (by rfl) rfl (by rfl) (fun K hK => ?_) (fun K hK => ?_)
 ·obtain ⟨w2, hrun, v2, q2⟩ := makeBools11 L hL w1
  go_simp
  refine hK _ _ trivial ?_
  clear hK K hrun
  obtain ⟨w3, hrun, v3, q3⟩ := makeStrs11 L hL w2
  refine held_op11 (i := 3) (fuel := 2) (by kernel_rfl) rfl (by rfl) (fun K hK => ?_)
  go_simp
  refine hK _ _ trivial ?_
  clear hK K hrun
  have hl2 := v2.lt
  replace v2 := v2.below q3
  have hl3 := v3.lt
  have b3 : w3.heap[w.heap.size]? = _ := ((btrans q2 q3).block w.heap.size (by omega)).trans b1
  have Q3 : Below w.heap.size w w3 := btrans q1 (btrans q2 q3)
  have hne : w1.heap.size ≠ w2.heap.size := by omega
  have hpA : w.heap.size < w1.heap.size := hp1
  have hpB : w.heap.size < w2.heap.size := by omega
  clear q1 q2 q3 b1 hl2 hl3
  generalize w1.heap.size = A at *
  generalize w2.heap.size = Bq at *
  refine held_reads (rs := [4]) (fuel := 1) (by kernel_rfl) (fun c d v a w h => by cases d <;> exact h) (by kernel_rfl) trivial (fun K hK => ?_)
  go_simp
  refine calm_do (mapV A Bq L L L) rfl (by rfl) (fun w' hw' => ?_) ?_
  ·unfold mapV; go_simp
  go_simp
  refine calm_nil (hK.out _ ?_)
  clear hK K
  have c0 : w3.cell? ⟨w.heap.size, 0, none⟩ = some (.slice none 0 0) := by simp [World.cell?, b3]
  have c1 : w3.cell? ⟨w.heap.size, 1, none⟩ = some (.slice none 0 0) := by simp [World.cell?, b3]
  have f0 : w3.frozen? ⟨w.heap.size, 0, none⟩ = false := by simp [World.frozen?, b3]
  have f1 : w3.frozen? ⟨w.heap.size, 1, none⟩ = false := by simp [World.frozen?, b3]
  have hM := map_new v2 v3 hne
  have HM : Hid (MapAt ((w3.setCell ⟨w.heap.size, 0, none⟩ (.slice (some ⟨A, 0, none⟩) L L)).setCell ⟨w.heap.size, 1, none⟩ (.slice (some ⟨Bq, 0, none⟩) L L)) A Bq L (fun _ => none)) := hM.turned (F := fun x => x = w.heap.size) (((Turned.refl (fun x => x = w.heap.size) w3).setCell (p := ⟨w.heap.size, 0, none⟩) (.inl rfl) _).setCell (p := ⟨w.heap.size, 1, none⟩) (.inl rfl) _) (by omega) (by omega)
  have HB : Hid (Below w.heap.size w ((w3.setCell ⟨w.heap.size, 0, none⟩ (.slice (some ⟨A, 0, none⟩) L L)).setCell ⟨w.heap.size, 1, none⟩ (.slice (some ⟨Bq, 0, none⟩) L L))) := (Q3.setCell (p := ⟨w.heap.size, 0, none⟩) (Nat.le_refl _) _).setCell (p := ⟨w.heap.size, 1, none⟩) (Nat.le_refl _) _
  have HE : Hid ((w.heap.size ≤ A ∧ w.heap.size ≤ Bq)) := ⟨by omega, by omega⟩
  clear v2 v3 Q3 b3 hM hpA hpB hne
  unfold mapV
  refine held_op11 (i := 5) (fuel := 0) (by kernel_rfl) rfl (by rfl) (fun K hK => ?_)
  go_simp
  refine hK _ _ trivial ?_
  clear hK K
  refine wpAnyH_done (by kernel_rfl) ?_ _
  go_wp2_with fail
  have d0 : ((w3.setCell ⟨w.heap.size, 0, none⟩ (.slice (some ⟨A, 0, none⟩) L L)).setCell ⟨w.heap.size, 1, none⟩ (.slice (some ⟨Bq, 0, none⟩) L L)).cell? ⟨w.heap.size, 0, none⟩ = some (.slice (some ⟨A, 0, none⟩) L L) := by
   rw [World.cell?_setCell_other _ _ _ _ (by simp)]
   exact World.cell?_setCell_same' w3 ⟨w.heap.size, 0, none⟩ _ (by rw [c0]; rfl)
  have d1 : ((w3.setCell ⟨w.heap.size, 0, none⟩ (.slice (some ⟨A, 0, none⟩) L L)).setCell ⟨w.heap.size, 1, none⟩ (.slice (some ⟨Bq, 0, none⟩) L L)).cell? ⟨w.heap.size, 1, none⟩ = some (.slice (some ⟨Bq, 0, none⟩) L L) :=
   World.cell?_setCell_same' _ ⟨w.heap.size, 1, none⟩ _ (by rw [World.cell?_setCell_other _ _ _ _ (by simp), c1]; rfl)
  refine bodyPost_ret (v := mapV A Bq L L L) (by simp [results, Tryz.results17, go_sem, d0, d1, mapV]) rfl ?_
  exact ⟨_, _, HE.out, rfl, HM.out, HB.out⟩
 ·obtain ⟨w2, hrun, v2, q2⟩ := makeStrs11 L hL w1
  go_simp
  refine hK _ _ trivial ?_
  clear hK K hrun
  obtain ⟨w3, hrun, v3, q3⟩ := makeBools11 L hL w2
  refine held_op11 (i := 1) (fuel := 2) (by kernel_rfl) rfl (by rfl) (fun K hK => ?_)
  go_simp
  refine hK _ _ trivial ?_
  clear hK K hrun
  have hl2 := v2.lt
  replace v2 := v2.below q3
  have hl3 := v3.lt
  have b3 : w3.heap[w.heap.size]? = _ := ((btrans q2 q3).block w.heap.size (by omega)).trans b1
  have Q3 : Below w.heap.size w w3 := btrans q1 (btrans q2 q3)
  have hne : w1.heap.size ≠ w2.heap.size := by omega
  have hpA : w.heap.size < w1.heap.size := hp1
  have hpB : w.heap.size < w2.heap.size := by omega
  clear q1 q2 q3 b1 hl2 hl3
  generalize w1.heap.size = A at *
  generalize w2.heap.size = Bq at *
  refine held_reads (rs := [4]) (fuel := 1) (by kernel_rfl) (fun c d v a w h => by cases d <;> exact h) (by kernel_rfl) trivial (fun K hK => ?_)
  go_simp
  refine calm_do (mapV Bq A L L L) rfl (by rfl) (fun w' hw' => ?_) ?_
  ·unfold mapV; go_simp
  go_simp
  refine calm_nil (hK.out _ ?_)
  clear hK K
  have c0 : w3.cell? ⟨w.heap.size, 0, none⟩ = some (.slice none 0 0) := by simp [World.cell?, b3]
  have c1 : w3.cell? ⟨w.heap.size, 1, none⟩ = some (.slice none 0 0) := by simp [World.cell?, b3]
  have f0 : w3.frozen? ⟨w.heap.size, 0, none⟩ = false := by simp [World.frozen?, b3]
  have f1 : w3.frozen? ⟨w.heap.size, 1, none⟩ = false := by simp [World.frozen?, b3]
  have hM := map_new v3 v2 (fun e => hne e.symm)
  have HM : Hid (MapAt ((w3.setCell ⟨w.heap.size, 0, none⟩ (.slice (some ⟨Bq, 0, none⟩) L L)).setCell ⟨w.heap.size, 1, none⟩ (.slice (some ⟨A, 0, none⟩) L L)) Bq A L (fun _ => none)) := hM.turned (F := fun x => x = w.heap.size) (((Turned.refl (fun x => x = w.heap.size) w3).setCell (p := ⟨w.heap.size, 0, none⟩) (.inl rfl) _).setCell (p := ⟨w.heap.size, 1, none⟩) (.inl rfl) _) (by omega) (by omega)
  have HB : Hid (Below w.heap.size w ((w3.setCell ⟨w.heap.size, 0, none⟩ (.slice (some ⟨Bq, 0, none⟩) L L)).setCell ⟨w.heap.size, 1, none⟩ (.slice (some ⟨A, 0, none⟩) L L))) := (Q3.setCell (p := ⟨w.heap.size, 0, none⟩) (Nat.le_refl _) _).setCell (p := ⟨w.heap.size, 1, none⟩) (Nat.le_refl _) _
  have HE : Hid ((w.heap.size ≤ Bq ∧ w.heap.size ≤ A)) := ⟨by omega, by omega⟩
  clear v2 v3 Q3 b3 hM hpA hpB hne
  unfold mapV
  refine held_op11 (i := 5) (fuel := 0) (by kernel_rfl) rfl (by rfl) (fun K hK => ?_)
  go_simp
  refine hK _ _ trivial ?_
  clear hK K
  refine wpAnyH_done (by kernel_rfl) ?_ _
  go_wp2_with fail
  have d0 : ((w3.setCell ⟨w.heap.size, 0, none⟩ (.slice (some ⟨Bq, 0, none⟩) L L)).setCell ⟨w.heap.size, 1, none⟩ (.slice (some ⟨A, 0, none⟩) L L)).cell? ⟨w.heap.size, 0, none⟩ = some (.slice (some ⟨Bq, 0, none⟩) L L) := by
   rw [World.cell?_setCell_other _ _ _ _ (by simp)]
   exact World.cell?_setCell_same' w3 ⟨w.heap.size, 0, none⟩ _ (by rw [c0]; rfl)
  have d1 : ((w3.setCell ⟨w.heap.size, 0, none⟩ (.slice (some ⟨Bq, 0, none⟩) L L)).setCell ⟨w.heap.size, 1, none⟩ (.slice (some ⟨A, 0, none⟩) L L)).cell? ⟨w.heap.size, 1, none⟩ = some (.slice (some ⟨A, 0, none⟩) L L) :=
   World.cell?_setCell_same' _ ⟨w.heap.size, 1, none⟩ _ (by rw [World.cell?_setCell_other _ _ _ _ (by simp), c1]; rfl)
  refine bodyPost_ret (v := mapV Bq A L L L) (by simp [results, Tryz.results17, go_sem, d0, d1, mapV]) rfl ?_
  exact ⟨_, _, HE.out, rfl, HM.out, HB.out⟩
end Go.Proofs.YtbafkakhhelcmaaGreat
