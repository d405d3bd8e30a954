/-
  The code of layer 20 (manifest), as it landed: the reader: segment.
-/
import Derived.Test.YtennmhenlhaliaaManCode4
namespace Go.Proofs.Ytennmhenlhaliaa.N
open Go.RowKit
set_option linter.unusedVariables false
set_option maxRecDepth 8192

theorem grown_trans {a b c : World} {r : Option Nat} (h : a.grownBy b r) (k : b.grownBy c r) : a.grownBy c r :=
  ⟨k.os.trans h.os, k.tape.trans h.tape, k.output.trans h.output, Nat.le_trans h.size k.size, fun i hi hr => (k.block i (Nat.lt_of_lt_of_le hi h.size) hr).trans (h.block i hi hr)⟩
theorem grown_below {a b : World} (h : Below a.heap.size a b) (r : Option Nat) : a.grownBy b r := ⟨h.os, h.tape, h.output, h.size, fun i hi _ => h.block i hi⟩
theorem grown_set (w : World) (g j : Nat) (v : Value) : w.grownBy (w.setCell ⟨g, j, none⟩ v) (some g) :=
  ⟨rfl, rfl, rfl, by simp, fun k _ h => Below.heap_setCell w _ v k (fun e => h (by rw [e]))⟩
theorem grown_heap {a b : World} {g k : Nat} {o : Obj} (h : a.grownBy b (some g)) (hk : a.heap[k]? = some o) (hg : k ≠ g) : b.heap[k]? = some o := by
  rw [h.block k (lt_of_heap hk) (fun e => hg (by cases e; rfl))]
  exact hk
theorem grown_low {a b : World} {g B : Nat} (h : a.grownBy b (some g)) (hB : B ≤ a.heap.size) (hg : B ≤ g) : Below B a b :=
  ⟨h.os, h.tape, h.output, h.size, fun k hk => h.block k (by omega) (fun e => by cases e; omega)⟩
theorem RAt.below {w w' : World} {g : Nat} {a : Option Addr} {n c B : Nat} {z : List Int} (h : RAt w g a n c z) (q : Below B w w') (hB : w.heap.size ≤ B) : RAt w' g a n c z :=
  ⟨by rw [q.block g (Nat.lt_of_lt_of_le (lt_of_heap h.box) hB)]; exact h.box, h.row.below q hB, h.apart⟩
theorem RAt.above {w w' : World} {g : Nat} {a : Option Addr} {n c B : Nat} {z : List Int} (h : RAt w g a n c z) (q : Below B w w') (hB : g < B) : RAt w' g a n c z := by
  refine ⟨by rw [q.block g hB]; exact h.box, ⟨h.row.hlen, h.row.hcap, h.row.hmax, h.row.hnil, fun h0 => ?_⟩, h.apart⟩
  obtain ⟨b, off, rfl, hb, hc⟩ := h.row.hcell h0
  have hbg : b < g := h.apart h0 _ rfl
  refine ⟨b, off, rfl, Nat.lt_of_lt_of_le hb q.size, fun i hi => ?_⟩
  rw [q.cell (by show b < B; omega)]
  exact hc i hi
theorem grown_then {a b c : World} {r : Option Nat} (h : a.grownBy b r) (q : Below a.heap.size b c) : a.grownBy c r :=
  ⟨q.os.trans h.os, q.tape.trans h.tape, q.output.trans h.output, Nat.le_trans h.size q.size, fun i hi hr => (q.block i hi).trans (h.block i hi hr)⟩
theorem range_sg {w : World} {g : Nat} {T : TypeId} {s : Sg} (h : w.heap[g]? = some (.cells (sA s) T (0, 0))) : w.rangeAt g 0 (sC s) := fun j v hv => by
  rw [Nat.zero_add, cell_of_row w g j _ T (0, 0) h]
  simpa [sA] using hv
theorem wpList_storeB {P : Program} {ops : Array Oper} {rest : List Oper} {o : Oper} {a : Act} {w : World} {Q : Exit → Act → World → Prop} {g : Nat} {T : TypeId} {X : Array Value} (hh : w.heap[g]? = some (.cells X T (0, 0))) (x y : Operand) (hgd : o.guard = none) (hd : o.dst = none) (ho : o.op = .store T x y) (Y : Array Value)
    (hx : a.eval x = .pointer (some ⟨g, 0, none⟩)) (hy : a.eval y = .agg Y) {n : Nat} (hn : (P.info? T).map (·.size) = some n) (hX : X.size = n) (hY : Y.size = n) (h1 : Y.all (·.oneCell') = true)
    (h : wpList P ops Q rest a (w.setRow g Y)) : wpList P ops Q (o :: rest) a w :=
  wpList_plain hgd fun K hK => wp_store_row T x y ho g Y hx hy T X hh (by rw [hn, hY]) (by rw [hX, hY]) h1 (by rw [hd]; exact hK _ _ h)
theorem RAt.lt {w : World} {g : Nat} {a : Option Addr} {n c : Nat} {z : List Int} (h : RAt w g a n c z) : g < w.heap.size := lt_of_heap h.box
/-- 32 bytes are copied into a segment's digest. -/
theorem run_copy_dig {w : World} {g c : Nat} {T : TypeId} {a : Option Addr} {x y : Int} {d D : List Int} (hd : d.length = 32) (hg : w.heap[g]? = some (.cells (sA ⟨x, y, d⟩) T (0, 0))) (hr : Row .u8 w a 32 c D) (ty : TypeId) :
    Sem.run Try.prog (Builtin.copy_ #[25, 25] ty #[.slice (some ⟨g, 2, none⟩) 32 32, .slice a 32 c]) w = .ok (.int .i64 32) (w.setRow g (sA ⟨x, y, D⟩)) := by
  obtain ⟨b, off, rfl, hbs, hcell⟩ := hr.hcell (by decide)
  have hl := hr.hlen
  have hrun := run_copy_row (P := Try.prog) w 25 25 ty 5 g 2 32 32 ⟨b, off, none⟩ 32 c (sA ⟨x, y, d⟩) T (D.map (Value.int .u8)) Try.underlying25 Try.szU8 hg (by rw [List.length_map, hl]; rfl) (cells_row hl hcell) (by rw [List.length_map, hl]; simp [sA, sC, hd]) (ints_oneCell _ _)
  rw [hrun]
  have e : (List.take 2 (sA ⟨x, y, d⟩).toList ++ D.map (Value.int .u8) ++ List.drop (2 + (D.map (Value.int .u8)).length) (sA ⟨x, y, d⟩).toList).toArray = sA ⟨x, y, D⟩ := by
    have e1 : List.drop (2 + (D.map (Value.int .u8)).length) (sA ⟨x, y, d⟩).toList = [] := List.drop_eq_nil_of_le (by rw [List.length_map, hl]; simp [sA, sC, hd])
    rw [e1, List.append_nil]
    rfl
  rw [e]
  simp [goInt, hl]
theorem built_sg (x y : Int) : Try.prog.built 45 [(0, .int .i64 x), (1, .int .i64 y)] = some (sA ⟨x, y, List.replicate 32 0⟩) := by kernel_rfl
set_option maxHeartbeats 1600000 in
theorem segment_yes {w : World} {g : Nat} {a : Option Addr} {n c : Nat} {z : List Int} (h : RAt w g a n c z) (hz : IsB z) (hn : 40 ≤ n) :
    Calls Try.prog 30 #[.pointer (some ⟨g, 0, none⟩)] w fun e w' => ∃ a', e = .returned (.agg (sA (sgAt z 0))) ∧ w.grownBy w' (some g) ∧ RAt w' g a' (n - 40) (c - 40) (z.drop 40) := by
  have hlt := h.lt
  have V0 := Vars.start w
  have hzl : z.length = n := h.row.hlen
  go_enter Try.func30, Try.ntmps30
  go_wp2_with (refine wpList_allocV V0 2 45 rfl rfl rfl (sA sg0) zeroSg ?_; intro w1 g1 V1)
  have h1 := h.below V1.bel (Nat.le_refl _)
  have G1 := grown_below V1.bel (some g)
  have hg1 := V1.at 0 rfl
  have hlo : w.heap.size ≤ g1 := V1.low _ (List.mem_cons_self ..)
  have hne : g1 ≠ g := by omega
  clear V0 V1 h
  refine (number_yes h1 hz (by omega)).mono ?_
  rintro e w2 ⟨a2, rfl, hw2, h2⟩
  have G2 : w.grownBy w2 (some g) := by rw [hw2]; exact grown_trans G1 (grown_set _ _ _ _)
  have hg2 : w2.heap[g1]? = some (.cells (sA sg0) 45 (0, 0)) := by rw [hw2]; exact grown_heap (grown_set _ _ _ _) hg1 hne
  clear hw2 h1 G1 hg1
  go_wp2_with fail
  refine (number_yes h2 (isB_drop hz 4) (by omega)).mono ?_
  rintro e w3 ⟨a3, rfl, hw3, h3⟩
  have G3 : w.grownBy w3 (some g) := by rw [hw3]; exact grown_trans G2 (grown_set _ _ _ _)
  have hg3 : w3.heap[g1]? = some (.cells (sA sg0) 45 (0, 0)) := by rw [hw3]; exact grown_heap (grown_set _ _ _ _) hg2 hne
  clear hw3 h2 G2 hg2
  rw [numAt_from, Nat.add_zero]
  have HX : Hid (sgAt z 0 = ⟨numAt z 0, numAt z 4, (z.drop 8).take 32⟩) := rfl
  generalize numAt z 0 = x at *
  generalize numAt z 4 = y at *
  have V3 := Vars.start w3
  go_wp2_with (first
    | (refine wpList_buildV 8 45 _ rfl rfl rfl (sA ⟨x, y, List.replicate 32 0⟩) (built_sg x y) ?_)
    | (refine wpList_allocV V3 3 45 rfl rfl rfl (sA sg0) zeroSg ?_; intro w4 g4 V4)
    | (refine wpList_storeV V4 0 rfl _ (.tmp 8) rfl rfl rfl (sA ⟨x, y, List.replicate 32 0⟩) rfl rfl Try.szSg (sA_size sg0_ok) (by rfl) (sA_one _) ?_; intro w5 V5))
  have h5 := (h3.below V5.bel (Nat.le_refl _))
  have G5 := (grown_trans G3 (grown_below V5.bel (some g)))
  have hg5 : w5.heap[g1]? = some (.cells (sA sg0) 45 (0, 0)) := by rw [V5.bel.block g1 (lt_of_heap hg3)]; exact hg3
  have hh5 := V5.at 0 rfl
  have hn4 : w3.heap.size ≤ g4 := V5.low _ (List.mem_cons_self ..)
  have hs3 := G3.size
  have l31 := lt_of_heap hg3
  clear V3 V4 V5 h3 G3 hg3
  refine av_open (fun _ => True) (by kernel_rfl) ?_
  refine held_reads (rs := [0, 1, 2]) (fuel := 2) (by kernel_rfl) (fun c d v a w h => by cases d <;> exact h) (by kernel_rfl) trivial (fun K hK => ?_)
  refine calm_do (.pointer (some ⟨g4, 2, none⟩)) rfl (by rfl) (fun w' hw' => ?_) ?_
  · go_simp
  go_simp
  refine calm_do (.slice (some ⟨g4, 2, none⟩) 32 32) rfl (by rfl) (fun w' hw' => exec_sliceDig g4 2 _ rfl rfl) ?_
  go_simp
  refine calm_move _ rfl (by rfl) rfl ?_
  go_simp
  refine calm_nil (hK.out _ ?_)
  clear hK K
  refine av_op (i := 3) (fuel := 1) (by kernel_rfl) rfl (by rfl) (fun K hK => ?_)
  go_simp
  have h5d := h5.below ((Below.refl _ _).drew) (Nat.le_refl _)
  refine (take_yes h5d 32 (by decide) (by omega)).mono ?_
  rintro e w6 ⟨a6, rfl, hw6, h6⟩
  refine hK _ _ trivial ?_
  clear hK K
  have G6 : w.grownBy w6 (some g) := by rw [hw6]; exact grown_trans (grown_then G5 ((Below.refl _ _).drew)) (grown_set _ _ _ _)
  have hg6 : w6.heap[g1]? = some (.cells (sA sg0) 45 (0, 0)) := by rw [hw6]; exact grown_heap (grown_set w5.drew _ _ _) hg5 hne
  have hh6 : w6.heap[g4]? = some (.cells (sA ⟨x, y, List.replicate 32 0⟩) 45 (0, 0)) := by rw [hw6]; exact grown_heap (grown_set w5.drew _ _ _) hh5 (by omega)
  have r6 := row_set (j := 0) (row_take h5d.row 32 (by omega)) (fun q hq => Nat.ne_of_lt (h5.apart (by omega) q hq)) (.slice a6 (n - 4 - 4 - 32) (c - 4 - 4 - 32))
  replace r6 : Row .u8 w6 a3 32 (c - 4 - 4) (((z.drop 4).drop 4).take 32) := by rw [hw6]; exact r6
  rw [List.drop_drop] at r6
  rw [List.drop_drop, List.drop_drop] at h6
  clear hw6 h5 h5d G5 hg5 hh5
  have hcp := run_copy_dig (by rfl) hh6 r6 3
  refine av_op (i := 4) (fuel := 0) (by kernel_rfl) rfl (by rfl) (fun K hK => ?_)
  go_simp
  refine hK _ _ trivial ?_
  clear hK K hcp
  have q7 : Below w3.heap.size w6 (w6.setRow g4 (sA ⟨x, y, (z.drop (4 + 4)).take 32⟩)) := below_setRow (Below.refl _ _) hn4 _
  have hh7 := setRow_heap w6 g4 _ (sA ⟨x, y, (z.drop (4 + 4)).take 32⟩) _ _ hh6
  have hg7 : (w6.setRow g4 (sA ⟨x, y, (z.drop (4 + 4)).take 32⟩)).heap[g1]? = some (.cells (sA sg0) 45 (0, 0)) := by rw [q7.block g1 l31]; exact hg6
  have h7 := h6.above q7 (by omega)
  have G7 := grown_then G6 (q7.mono hs3)
  have hsO : (⟨x, y, (z.drop (4 + 4)).take 32⟩ : Sg).Ok := ⟨r6.hlen, isB_take (isB_drop hz _) _⟩
  have HE : Hid (sgAt z 0 = ⟨x, y, (z.drop (4 + 4)).take 32⟩) := HX.out
  clear r6 hh6 hg6 h6 G6 q7 HX
  generalize w6.setRow g4 (sA ⟨x, y, (z.drop (4 + 4)).take 32⟩) = w7 at *
  generalize (⟨x, y, (z.drop (4 + 4)).take 32⟩ : Sg) = s at *
  refine wpAnyH_done (by kernel_rfl) ?_ _
  go_wp2_with (first
    | (refine wpList_load_mid rfl 45 _ rfl g4 0 rfl (sC s) _ (range_sg hh7) Try.underlying45 rfl (by rw [sC_len hsO]; exact Try.szSg) ?_)
    | (refine wpList_storeB hg7 _ (.tmp 14) rfl rfl rfl (sA s) rfl rfl Try.szSg (sA_size sg0_ok) (sA_size hsO) (sA_one s) ?_))
  have q8 : Below w.heap.size w7 (w7.setRow g1 (sA s)) := below_setRow (Below.refl _ _) hlo _
  have hg8 := setRow_heap w7 g1 _ (sA s) _ _ hg7
  refine bodyPost_ret (results_cell_row rfl _ _ g1 _ (sA s) (0, 0) _ rfl hg8 Try.underlying45 rfl (by rw [sA_size hsO]; exact Try.szSg)) rfl ?_
  refine ⟨a6, by rw [HE.out], grown_then G7 q8, ?_⟩
  have h8 := h7.above q8 hlt
  rw [show n - 4 - 4 - 32 = n - 40 by omega, show c - 4 - 4 - 32 = c - 40 by omega] at h8
  exact h8
theorem segment_no {w : World} {g : Nat} {a : Option Addr} {n c : Nat} {z : List Int} (h : RAt w g a n c z) (hz : IsB z) (hn : n < 40) :
    Calls Try.prog 30 #[.pointer (some ⟨g, 0, none⟩)] w fun e w' => e = .panicked gaveUp ∧ w.grownBy w' (some g) := by
  have V0 := Vars.start w
  go_enter Try.func30, Try.ntmps30
  go_wp2_with (refine wpList_allocV V0 2 45 rfl rfl rfl (sA sg0) zeroSg ?_; intro w1 g1 V1)
  have h1 := h.below V1.bel (Nat.le_refl _)
  have G1 := grown_below V1.bel (some g)
  clear V0 V1 h
  by_cases h4 : n < 4
  · refine (number_no h1 h4).mono ?_
    rintro e w2 ⟨rfl, rfl⟩
    go_wp2_with fail
    exact ⟨rfl, rfl, G1⟩
  refine (number_yes h1 hz (by omega)).mono ?_
  rintro e w2 ⟨a2, rfl, hw2, h2⟩
  have G2 : w.grownBy w2 (some g) := by rw [hw2]; exact grown_trans G1 (grown_set _ _ _ _)
  clear hw2 h1 G1
  go_wp2_with fail
  by_cases h8 : n < 8
  · refine (number_no h2 (by omega)).mono ?_
    rintro e w3 ⟨rfl, rfl⟩
    go_wp2_with fail
    exact ⟨rfl, rfl, G2⟩
  refine (number_yes h2 (isB_drop hz 4) (by omega)).mono ?_
  rintro e w3 ⟨a3, rfl, hw3, h3⟩
  have G3 : w.grownBy w3 (some g) := by rw [hw3]; exact grown_trans G2 (grown_set _ _ _ _)
  clear hw3 h2 G2
  rw [numAt_from, Nat.add_zero]
  generalize numAt z 0 = x at *
  generalize numAt z 4 = y at *
  have V3 := Vars.start w3
  go_wp2_with (first
    | (refine wpList_buildV 8 45 _ rfl rfl rfl (sA ⟨x, y, List.replicate 32 0⟩) (built_sg x y) ?_)
    | (refine wpList_allocV V3 3 45 rfl rfl rfl (sA sg0) zeroSg ?_; intro w4 g4 V4)
    | (refine wpList_storeV V4 0 rfl _ (.tmp 8) rfl rfl rfl (sA ⟨x, y, List.replicate 32 0⟩) rfl rfl Try.szSg (sA_size sg0_ok) (by rfl) (sA_one _) ?_; intro w5 V5))
  have h5 := (h3.below V5.bel (Nat.le_refl _)).below ((Below.refl _ _).drew) (Nat.le_refl _)
  have G5 := grown_then (grown_trans G3 (grown_below V5.bel (some g))) ((Below.refl _ _).drew)
  clear V3 V4 V5 h3 G3
  refine av_open (fun _ => True) (by kernel_rfl) ?_
  refine held_reads (rs := [0, 1, 2]) (fuel := 2) (by kernel_rfl) (fun c d v a w h => by cases d <;> exact h) (by kernel_rfl) trivial (fun K hK => ?_)
  refine calm_do (.pointer (some ⟨g4, 2, none⟩)) rfl (by rfl) (fun w' hw' => ?_) ?_
  · go_simp
  go_simp
  refine calm_do (.slice (some ⟨g4, 2, none⟩) 32 32) rfl (by rfl) (fun w' hw' => exec_sliceDig g4 2 _ rfl rfl) ?_
  go_simp
  refine calm_move _ rfl (by rfl) rfl ?_
  go_simp
  refine calm_nil (hK.out _ ?_)
  clear hK K
  refine av_op (i := 3) (fuel := 1) (by kernel_rfl) rfl (by rfl) (fun K hK => ?_)
  go_simp
  refine (take_no h5 32 (by omega) (by decide)).mono ?_
  rintro e w6 ⟨rfl, rfl⟩
  go_wp2_with fail
  exact ⟨rfl, rfl, G5⟩
end Go.Proofs.Ytennmhenlhaliaa.N
