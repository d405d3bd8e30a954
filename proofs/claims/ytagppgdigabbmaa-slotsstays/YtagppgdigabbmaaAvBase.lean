/-
  Arrays of integers by value, in variables: what a function's array variables hold ('Vars'), and laws that make, read, write and compare them whole.
-/
import Derived.Test.YtagppgdigabbmaaNumPlain
import Derived.Test.YtagppgdigabbmaaBase
import Derived.Test.YtagppgdigabbmaaHeld
import Derived.Deep.MidRow
import Derived.Deep.WholeRow
import Derived.Laws.ResultCell
import Derived.ChangeKeysEq
namespace Go.Proofs.Ytagppgdigabbmaa.N
open Go.RowKit
set_option linter.unusedVariables false
set_option maxRecDepth 8192

/-- A variable that is an array: its block, its type, its cells. -/
structure AV where
  g : Nat
  T : TypeId
  X : Array Value
/-- What the array variables hold that were made since w0; all else is as it was. -/
structure Vars (w0 w : World) (l : List AV) : Prop where
  bel : Below w0.heap.size w0 w
  low : ∀ v ∈ l, w0.heap.size ≤ v.g
  holds : ∀ v ∈ l, w.heap[v.g]? = some (.cells v.X v.T (0, 0))
  apart : l.Pairwise (fun u v => u.g ≠ v.g)
theorem lt_of_heap {w : World} {g : Nat} {o : Obj} (h : w.heap[g]? = some o) : g < w.heap.size := (Array.getElem?_eq_some_iff.1 h).1
theorem Vars.start (w : World) : Vars w w [] := ⟨Below.refl _ _, fun v hv => absurd hv (List.not_mem_nil), fun v hv => absurd hv (List.not_mem_nil), .nil⟩
theorem Vars.size {w0 w : World} {l : List AV} (h : Vars w0 w l) : w0.heap.size ≤ w.heap.size := h.bel.size
theorem Vars.call {w0 w w' : World} {l : List AV} (h : Vars w0 w l) (q : Below w.heap.size w w') : Vars w0 w' l :=
  ⟨btrans h.bel q, h.low, fun v hv => by rw [q.block v.g (lt_of_heap (h.holds v hv))]; exact h.holds v hv, h.apart⟩
theorem Vars.drew {w0 w : World} {l : List AV} (h : Vars w0 w l) : Vars w0 w.drew l := ⟨h.bel.drew, h.low, h.holds, h.apart⟩
theorem Vars.drewN {w0 w : World} {l : List AV} (h : Vars w0 w l) (n : Nat) : Vars w0 (w.drewN n) l := ⟨⟨h.bel.os, h.bel.tape, h.bel.output, h.bel.size, h.bel.block⟩, h.low, h.holds, h.apart⟩
theorem Vars.at {w0 w : World} {l : List AV} (h : Vars w0 w l) (i : Nat) {g : Nat} {T : TypeId} {X : Array Value} (hi : l[i]? = some ⟨g, T, X⟩) : w.heap[g]? = some (.cells X T (0, 0)) :=
  h.holds ⟨g, T, X⟩ (List.mem_of_getElem? hi)
theorem Vars.tail {w0 w : World} {v : AV} {l : List AV} (h : Vars w0 w (v :: l)) : Vars w0 w l :=
  ⟨h.bel, fun u hu => h.low u (List.mem_cons_of_mem _ hu), fun u hu => h.holds u (List.mem_cons_of_mem _ hu), (List.pairwise_cons.1 h.apart).2⟩
theorem Vars.sub {w0 w : World} {l l' : List AV} (h : Vars w0 w l) (hl : l'.Sublist l) : Vars w0 w l' :=
  ⟨h.bel, fun u hu => h.low u (hl.subset hu), fun u hu => h.holds u (hl.subset hu), h.apart.sublist hl⟩
theorem Vars.del {w0 w : World} {l : List AV} (h : Vars w0 w l) (i : Nat) : Vars w0 w (l.eraseIdx i) := h.sub (List.eraseIdx_sublist l i)
theorem Vars.new {w0 w : World} {l : List AV} (h : Vars w0 w l) (T : TypeId) (X : Array Value) : Vars w0 (w.alloc (.cells X T)) (⟨w.heap.size, T, X⟩ :: l) := by
  refine ⟨h.bel.alloc h.size _, fun v hv => ?_, fun v hv => ?_, List.pairwise_cons.2 ⟨fun v hv => ?_, h.apart⟩⟩
  · rcases List.mem_cons.1 hv with rfl | h1
    · exact h.size
    · exact h.low v h1
  · rcases List.mem_cons.1 hv with rfl | h1
    · exact heap_alloc_last w _
    · rw [Below.heap_alloc w _ v.g (lt_of_heap (h.holds v h1))]; exact h.holds v h1
  · exact (Nat.ne_of_lt (lt_of_heap (h.holds v hv))).symm
/-- A call that made a variable. -/
theorem Vars.made {w0 w w' : World} {l : List AV} {g : Nat} {T : TypeId} {X : Array Value} (h : Vars w0 w l) (q : Below w.heap.size w w') (hg : w.heap.size ≤ g) (hh : w'.heap[g]? = some (.cells X T (0, 0))) : Vars w0 w' (⟨g, T, X⟩ :: l) := by
  have h1 := h.call q
  refine ⟨h1.bel, fun v hv => ?_, fun v hv => ?_, List.pairwise_cons.2 ⟨fun v hv => ?_, h1.apart⟩⟩
  · rcases List.mem_cons.1 hv with rfl | h2
    · exact Nat.le_trans h.size hg
    · exact h1.low v h2
  · rcases List.mem_cons.1 hv with rfl | h2
    · exact hh
    · exact h1.holds v h2
  · exact (Nat.ne_of_lt (Nat.lt_of_lt_of_le (lt_of_heap (h.holds v hv)) hg)).symm
/-- A world in which only the variable i holds something else. -/
theorem Vars.turn {w0 w w' : World} {l : List AV} (h : Vars w0 w l) (i : Nat) {g : Nat} {T : TypeId} {X Y : Array Value} (hi : l[i]? = some ⟨g, T, X⟩) (hb : Below w0.heap.size w w')
    (hg : w'.heap[g]? = some (.cells Y T (0, 0))) (ho : ∀ k, k ≠ g → w'.heap[k]? = w.heap[k]?) : Vars w0 w' (l.set i ⟨g, T, Y⟩) := by
  have hil : i < l.length := (List.getElem?_eq_some_iff.1 hi).1
  have hiv : l[i] = ⟨g, T, X⟩ := (List.getElem?_eq_some_iff.1 hi).2
  refine ⟨h.bel.trans hb, fun v hv => ?_, fun v hv => ?_, ?_⟩
  · rcases List.mem_or_eq_of_mem_set hv with h1 | rfl
    · exact h.low v h1
    · exact h.low ⟨g, T, X⟩ (List.mem_of_getElem? hi)
  · obtain ⟨j, hj, hv⟩ := List.mem_iff_getElem.1 hv
    rw [List.getElem_set] at hv
    split at hv
    · subst hv; exact hg
    · rename_i hne
      rw [List.length_set] at hj
      have hne2 : v.g ≠ g := by
        intro e
        have hp := List.pairwise_iff_getElem.1 h.apart
        rcases Nat.lt_or_ge i j with h1 | h1
        · have := hp i j hil hj h1
          rw [hiv, hv] at this
          exact this e.symm
        · have := hp j i hj hil (by omega)
          rw [hiv, hv] at this
          exact this e
      rw [ho v.g hne2]
      exact h.holds v (hv ▸ List.getElem_mem hj)
  · have hm : (l.set i ⟨g, T, Y⟩).map (·.g) = l.map (·.g) := by
      rw [List.map_set]
      apply List.ext_getElem (by simp)
      intro j h1 h2
      rw [List.getElem_set]
      split
      · subst i; rw [List.getElem_map, hiv]
      · rfl
    have hp : (l.map (·.g)).Pairwise (· ≠ ·) := List.pairwise_map.2 h.apart
    rw [← hm] at hp
    exact List.pairwise_map.1 hp
theorem Vars.store {w0 w : World} {l : List AV} (h : Vars w0 w l) (i : Nat) {g : Nat} {T : TypeId} {X : Array Value} (hi : l[i]? = some ⟨g, T, X⟩) (Y : Array Value) : Vars w0 (w.setRow g Y) (l.set i ⟨g, T, Y⟩) :=
  h.turn i hi (below_setRow (Below.refl _ _) (h.low _ (List.mem_of_getElem? hi)) _) (setRow_heap w g X Y T (0, 0) (h.at i hi)) (fun k hk => setRow_other w g k Y hk)

/-- Numbers as an array's cells. -/
def arr (k : IntKind) (l : List Nat) : Array Value := ((nI l).map (Value.int k)).toArray
theorem arr_size (k : IntKind) (l : List Nat) : (arr k l).size = l.length := by simp [arr, nI]
theorem arr_one (k : IntKind) (l : List Nat) : (arr k l).all (·.oneCell') = true := all_oneCell_toArray (by intro v hv; obtain ⟨z, _, rfl⟩ := List.mem_map.1 hv; rfl)
theorem arr_get (k : IntKind) (l : List Nat) (i : Nat) (hi : i < l.length) : (arr k l)[i]? = some (.int k ((l[i]?.getD 0 : Nat) : Int)) := by
  simp [arr, nI, List.getElem?_eq_getElem hi]
theorem arr_set (k : IntKind) (l : List Nat) (i x : Nat) : (arr k l).setIfInBounds i (.int k ((x : Nat) : Int)) = arr k (l.set i x) := by
  simp [arr, nI, List.map_set]
theorem arr_inj {k : IntKind} {l m : List Nat} (h : arr k l = arr k m) : l = m := by
  have h1 : (nI l).map (Value.int k) = (nI m).map (Value.int k) := by
    have := congrArg Array.toList h
    simpa [arr] using this
  have h2 : nI l = nI m := by
    have := congrArg (List.map (fun v => match v with | Value.int _ z => z | _ => 0)) h1
    simpa [List.map_map, Function.comp_def] using this
  exact nI_inj h2
theorem arr_cell {w : World} {g : Nat} {T : TypeId} {k : IntKind} {l : List Nat} (h : w.heap[g]? = some (.cells (arr k l) T (0, 0))) (i : Nat) (hi : i < l.length) : w.cell? ⟨g, i, none⟩ = some (.int k ((l[i]?.getD 0 : Nat) : Int)) := by
  rw [cell_of_row w g i _ T (0, 0) h, arr_get k l i hi]
theorem arr_unfrozen {w : World} {g : Nat} {T : TypeId} {X : Array Value} (h : w.heap[g]? = some (.cells X T (0, 0))) (i : Nat) : w.frozen? ⟨g, i, none⟩ = false := by
  simp [World.frozen?, h]
theorem Vars.setc {w0 w : World} {l : List AV} (h : Vars w0 w l) (i : Nat) {g : Nat} {T : TypeId} {k : IntKind} {z : List Nat} (hi : l[i]? = some ⟨g, T, arr k z⟩) (j x : Nat) : Vars w0 (w.setCell ⟨g, j, none⟩ (.int k ((x : Nat) : Int))) (l.set i ⟨g, T, arr k (z.set j x)⟩) := by
  refine h.turn i hi ((Below.refl _ _).setCell (h.low _ (List.mem_of_getElem? hi)) _) ?_ (fun k hk => Below.heap_setCell w _ _ k hk)
  rw [heap_setCell_same w g j (arr k z) T _ (h.at i hi), ← arr_set]

section
variable {P : Program} {ops : Array Oper} {rest : List Oper} {o : Oper} {a : Act} {w w0 : World} {Q : Exit → Act → World → Prop} {K : Act → World → Prop} {l : List AV}
theorem wp_boxV (V : Vars w0 w l) (d : Tmp) (T : TypeId) (x : Operand) (hd : o.dst = some d) (ho : o.op = .box T x) (X : Array Value) (hx : a.eval x = .agg X)
    (h : ∀ w' g, Vars w0 w' (⟨g, T, X⟩ :: l) → K (a.put (some d) (.pointer (some ⟨g, 0, none⟩))) w') : o.wp P a w K Q := by
  unfold Oper.wp execOp
  have hr : (Instr.box T (.agg X)).run P w = .ok (.pointer (some ⟨w.heap.size, 0, none⟩)) (w.alloc (.cells X T)) := by simp [Instr.box, newVar, newRow, Value.cells]
  simp only [ho, hx, hr, Sem.run_bind, Sem.run_pure, Result.andThen_ok]
  have := h _ _ (V.new T X)
  rw [← hd] at this
  exact this
theorem wp_allocV (V : Vars w0 w l) (d : Tmp) (T : TypeId) (hd : o.dst = some d) (ho : o.op = .alloc T) (X : Array Value) (hz : ∀ w, (zeroValue T).run P w = .ok (.agg X) w)
    (h : ∀ w' g, Vars w0 w' (⟨g, T, X⟩ :: l) → K (a.put (some d) (.pointer (some ⟨g, 0, none⟩))) w') : o.wp P a w K Q := by
  unfold Oper.wp execOp
  have hr : (Instr.alloc T true (.tuple #[])).run P w = .ok (.pointer (some ⟨w.heap.size, 0, none⟩)) (w.alloc (.cells X T)) := by simp [Instr.alloc, hz, newVar, newRow, Value.cells]
  simp only [ho, hr, Sem.run_bind, Sem.run_pure, Result.andThen_ok]
  have := h _ _ (V.new T X)
  rw [← hd] at this
  exact this
theorem wp_storeV (V : Vars w0 w l) (i : Nat) {g : Nat} {T : TypeId} {X : Array Value} (hi : l[i]? = some ⟨g, T, X⟩) (x y : Operand) (hd : o.dst = none) (ho : o.op = .store T x y) (Y : Array Value)
    (hx : a.eval x = .pointer (some ⟨g, 0, none⟩)) (hy : a.eval y = .agg Y) {n : Nat} (hn : (P.info? T).map (·.size) = some n) (hX : X.size = n) (hY : Y.size = n) (h1 : Y.all (·.oneCell') = true)
    (h : ∀ w', Vars w0 w' (l.set i ⟨g, T, Y⟩) → K a w') : o.wp P a w K Q :=
  wp_store_row T x y ho g Y hx hy T X (V.at i hi) (by rw [hn, hY]) (by rw [hX, hY]) h1 (by rw [hd]; exact h _ (V.store i hi Y))
theorem exec_loadV (V : Vars w0 w l) (i : Nat) {g : Nat} {T : TypeId} {X : Array Value} (hi : l[i]? = some ⟨g, T, X⟩) (x : Operand) (ho : o.op = .load T x) (hx : a.eval x = .pointer (some ⟨g, 0, none⟩))
    {m : Nat} {e : TypeId} (hu : P.underlying T = some (.array m e)) {n : Nat} (hn : (P.info? T).map (·.size) = some n) (hX : X.size = n) : (execOp a.eval o).run P w = .ok (.value (.agg X)) w := by
  unfold execOp
  simp only [ho, hx, Instr.loadAt, Instr.sureAddr, Sem.run_bind, Sem.run_pure, Result.andThen_ok, run_loadVar_row w g T T X (0, 0) _ (V.at i hi) hu rfl (by rw [hn, hX])]
theorem exec_loadB (x : Operand) {T : TypeId} (ho : o.op = .load T x) (g : Nat) (hx : a.eval x = .pointer (some ⟨g, 0, none⟩)) {X : Array Value} (hg : w.heap[g]? = some (.cells X T (0, 0)))
    {m : Nat} {e : TypeId} (hu : P.underlying T = some (.array m e)) {n : Nat} (hn : (P.info? T).map (·.size) = some n) (hX : X.size = n) : (execOp a.eval o).run P w = .ok (.value (.agg X)) w := by
  unfold execOp
  simp only [ho, hx, Instr.loadAt, Instr.sureAddr, Sem.run_bind, Sem.run_pure, Result.andThen_ok, run_loadVar_row w g T T X (0, 0) _ hg hu rfl (by rw [hn, hX])]
theorem exec_buildV (T : TypeId) (ps : List (Nat × Operand)) (ho : o.op = .build T ps.toArray) (X : Array Value) (hb : P.built T (ps.map fun p => (p.1, a.eval p.2)) = some X) : (execOp a.eval o).run P w = .ok (.value (.agg X)) w := by
  unfold execOp
  have h := run_build (P := P) w T (ps.toArray.map fun (i, x) => (i, a.eval x)) X (by rw [← hb]; simp)
  simp only [ho, Sem.run_bind, Sem.run_pure]
  rw [show (Array.map (fun x => (x.fst, a.eval x.snd)) ps.toArray) = (ps.toArray.map fun (i, x) => (i, a.eval x)) from rfl, h]
  rfl
theorem wp_exec {v : Value} (hr : (execOp a.eval o).run P w = .ok (.value v) w) (h : K (a.put o.dst v) w) : o.wp P a w K Q := by
  unfold Oper.wp
  rw [hr]
  exact h
/-- An operation that is wanted, by what it yields. -/
theorem wpList_exec {v : Value} (hw : Region.wanted o (yielded ops a.tmps) = true) (hr : (execOp a.eval o).run P w = .ok (.value v) w) (h : wpList P ops Q rest (a.put o.dst v) w) : wpList P ops Q (o :: rest) a w :=
  BigFrame.wpList_want hw fun K hK => by
    unfold Oper.wp
    rw [hr]
    exact hK _ _ h
theorem wpList_boxV (V : Vars w0 w l) (d : Tmp) (T : TypeId) (x : Operand) (hgd : o.guard = none) (hd : o.dst = some d) (ho : o.op = .box T x) (X : Array Value) (hx : a.eval x = .agg X)
    (h : ∀ w' g, Vars w0 w' (⟨g, T, X⟩ :: l) → wpList P ops Q rest (a.put (some d) (.pointer (some ⟨g, 0, none⟩))) w') : wpList P ops Q (o :: rest) a w :=
  wpList_plain hgd fun K hK => wp_boxV V d T x hd ho X hx fun w' g V' => hK _ _ (h w' g V')
theorem wpList_allocV (V : Vars w0 w l) (d : Tmp) (T : TypeId) (hgd : o.guard = none) (hd : o.dst = some d) (ho : o.op = .alloc T) (X : Array Value) (hz : ∀ w, (zeroValue T).run P w = .ok (.agg X) w)
    (h : ∀ w' g, Vars w0 w' (⟨g, T, X⟩ :: l) → wpList P ops Q rest (a.put (some d) (.pointer (some ⟨g, 0, none⟩))) w') : wpList P ops Q (o :: rest) a w :=
  wpList_plain hgd fun K hK => wp_allocV V d T hd ho X hz fun w' g V' => hK _ _ (h w' g V')
theorem wpList_storeV (V : Vars w0 w l) (i : Nat) {g : Nat} {T : TypeId} {X : Array Value} (hi : l[i]? = some ⟨g, T, X⟩) (x y : Operand) (hgd : o.guard = none) (hd : o.dst = none) (ho : o.op = .store T x y) (Y : Array Value)
    (hx : a.eval x = .pointer (some ⟨g, 0, none⟩)) (hy : a.eval y = .agg Y) {n : Nat} (hn : (P.info? T).map (·.size) = some n) (hX : X.size = n) (hY : Y.size = n) (h1 : Y.all (·.oneCell') = true)
    (h : ∀ w', Vars w0 w' (l.set i ⟨g, T, Y⟩) → wpList P ops Q rest a w') : wpList P ops Q (o :: rest) a w :=
  wpList_plain hgd fun K hK => wp_storeV V i hi x y hd ho Y hx hy hn hX hY h1 fun w' V' => hK _ _ (h w' V')
theorem wpList_loadV (V : Vars w0 w l) (i : Nat) {g : Nat} {T : TypeId} {X : Array Value} (hi : l[i]? = some ⟨g, T, X⟩) (d : Tmp) (x : Operand) (hw : Region.wanted o (yielded ops a.tmps) = true) (hd : o.dst = some d) (ho : o.op = .load T x) (hx : a.eval x = .pointer (some ⟨g, 0, none⟩))
    {m : Nat} {e : TypeId} (hu : P.underlying T = some (.array m e)) {n : Nat} (hn : (P.info? T).map (·.size) = some n) (hX : X.size = n)
    (h : wpList P ops Q rest (a.put (some d) (.agg X)) w) : wpList P ops Q (o :: rest) a w :=
  wpList_exec hw (exec_loadV V i hi x ho hx hu hn hX) (by rw [hd]; exact h)
theorem wpList_buildV (d : Tmp) (T : TypeId) (ps : List (Nat × Operand)) (hw : Region.wanted o (yielded ops a.tmps) = true) (hd : o.dst = some d) (ho : o.op = .build T ps.toArray) (X : Array Value) (hb : P.built T (ps.map fun p => (p.1, a.eval p.2)) = some X)
    (h : wpList P ops Q rest (a.put (some d) (.agg X)) w) : wpList P ops Q (o :: rest) a w :=
  wpList_exec hw (exec_buildV T ps ho X hb) (by rw [hd]; exact h)
end
/-- '==' of arrays of integers. -/
theorem run_itemsV {P : Program} {e : TypeId} {k : IntKind} (he : P.underlying e = some (.int k)) (x y : List Nat) (hl : x.length = y.length) (d : Nat) (w : World) : ∀ is : List Nat, (∀ i ∈ is, i < x.length) →
    (Op.eqItems (d + 1) e 1 (arr k x) (arr k y) is).run P w = .ok (is.all fun i => x[i]?.getD 0 == y[i]?.getD 0) w
  | [], _ => by simp [Op.eqItems]
  | i :: is, h => by
    have hi : i < x.length := h i (by simp)
    have px : (part e (arr k x) (i * 1)).run P w = .ok (.int k ((x[i]?.getD 0 : Nat) : Int)) w := by
      simp [part, isAgg, run_underlying he, arr_get k x i hi]
    have py : (part e (arr k y) (i * 1)).run P w = .ok (.int k ((y[i]?.getD 0 : Nat) : Int)) w := by
      simp [part, isAgg, run_underlying he, arr_get k y i (hl ▸ hi)]
    have pe : (Op.equalIn (d + 1) e (.int k ((x[i]?.getD 0 : Nat) : Int)) (.int k ((y[i]?.getD 0 : Nat) : Int))).run P w = .ok (x[i]?.getD 0 == y[i]?.getD 0) w := by
      rw [run_equalIn_int w d e k k _ _ he]
      congr 1
      rw [Bool.eq_iff_iff]
      simp
      omega
    have ih := run_itemsV he x y hl d w is (fun j hj => h j (by simp [hj]))
    simp only [Op.eqItems, Sem.run_bind, px, py, pe, Result.andThen_ok, List.all_cons]
    cases hb : (x[i]?.getD 0 == y[i]?.getD 0)
    · simp
    · simpa using ih
theorem all_eq_iff {x y : List Nat} (hl : x.length = y.length) : ((List.range x.length).all fun i => x[i]?.getD 0 == y[i]?.getD 0) = decide (x = y) := by
  rw [Bool.eq_iff_iff, List.all_eq_true, decide_eq_true_iff]
  constructor
  · intro h
    apply List.ext_getElem hl
    intro i h1 h2
    have := h i (List.mem_range.2 h1)
    simpa [List.getElem?_eq_getElem h1, List.getElem?_eq_getElem h2] using this
  · rintro rfl i hi
    simp
theorem run_equalV {P : Program} {t e : TypeId} {n : Nat} {k : IntKind} (ht : P.underlying t = some (.array n e)) (he : P.underlying e = some (.int k)) (h1 : (P.info? e).map (·.size) = some 1) (x y : List Nat) (hx : x.length = n) (hy : y.length = n) (d : Nat) (w : World) :
    (Op.equalIn (d + 2) t (.agg (arr k x)) (.agg (arr k y))).run P w = .ok (decide (x = y)) w := by
  obtain ⟨i, hi, hs⟩ := Option.map_eq_some_iff.1 h1
  have hc : P.cellsOf e = 1 := by simp [Program.cellsOf, hi, hs]
  rw [run_equalIn_array w (d + 1) _ _ ht hi, hc, run_itemsV he x y (by rw [hx, hy]) d w _ (fun j hj => by rw [hx]; exact List.mem_range.1 hj), ← hx, all_eq_iff (by rw [hx, hy])]
theorem exec_eqlV {P : Program} {a : Act} {o : Oper} {w : World} (ty ty' : TypeId) (x y : Operand) (ho : o.op = .binOp .eql ty x y ty') {e : TypeId} {n : Nat} {k : IntKind} (p q : List Nat) (b : Bool) (hb : decide (p = q) = b) (hx : a.eval x = .agg (arr k p)) (hy : a.eval y = .agg (arr k q))
    (hg : P.eqGuardType P.depth ty = false) (ht : P.underlying ty = some (.array n e)) (he : P.underlying e = some (.int k)) (h1 : (P.info? e).map (·.size) = some 1) (hp : p.length = n) (hq : q.length = n) : (execOp a.eval o).run P w = .ok (.value (.bool b)) w := by
  unfold execOp
  simp only [ho, hx, hy, Sem.run_bind, Sem.run_pure, run_eqGuard_agg w .eql ty x y _ _ hg, Result.andThen_ok, run_eql_struct, run_equalV ht he h1 p q hp hq 9998 w, hb]
theorem exec_neqV {P : Program} {a : Act} {o : Oper} {w : World} (ty ty' : TypeId) (x y : Operand) (ho : o.op = .binOp .neq ty x y ty') {e : TypeId} {n : Nat} {k : IntKind} (p q : List Nat) (b : Bool) (hb : decide (p = q) = !b) (hx : a.eval x = .agg (arr k p)) (hy : a.eval y = .agg (arr k q))
    (hg : P.eqGuardType P.depth ty = false) (ht : P.underlying ty = some (.array n e)) (he : P.underlying e = some (.int k)) (h1 : (P.info? e).map (·.size) = some 1) (hp : p.length = n) (hq : q.length = n) : (execOp a.eval o).run P w = .ok (.value (.bool b)) w := by
  unfold execOp
  simp only [ho, hx, hy, Sem.run_bind, Sem.run_pure, run_eqGuard_agg w .neq ty x y _ _ hg, Result.andThen_ok, run_neq_struct, run_equalV ht he h1 p q hp hq 9998 w, hb, Bool.not_not]

section
variable {P : Program} {fn : Func} {w w0 : World} {l : List AV}
theorem resV1 {p : Tmp} {T : TypeId} (h : fn.results = #[.cell p T]) (tmps : Array Value) (V : Vars w0 w l) (i : Nat) {g : Nat} {X : Array Value} (hi : l[i]? = some ⟨g, T, X⟩) (hp : tmps.getD p undef = .pointer (some ⟨g, 0, none⟩))
    {m : Nat} {e : TypeId} (hu : P.underlying T = some (.array m e)) {n : Nat} (hn : (P.info? T).map (·.size) = some n) (hX : X.size = n) : (results fn tmps).run P w = .ok (.agg X) w :=
  results_cell_row h tmps w g T X (0, 0) _ hp (V.at i hi) hu rfl (by rw [hn, hX])
theorem resV2 {p u : Tmp} {T : TypeId} (h : fn.results = #[.cell p T, .tmp u]) (tmps : Array Value) (V : Vars w0 w l) (i : Nat) {g : Nat} {X : Array Value} (hi : l[i]? = some ⟨g, T, X⟩) (hp : tmps.getD p undef = .pointer (some ⟨g, 0, none⟩))
    {m : Nat} {e : TypeId} (hu : P.underlying T = some (.array m e)) {n : Nat} (hn : (P.info? T).map (·.size) = some n) (hX : X.size = n) : (results fn tmps).run P w = .ok (.tuple #[.agg X, tmps.getD u undef]) w := by
  have hl' := run_loadVar_row (P := P) w g T T X (0, 0) _ (V.at i hi) hu rfl (by rw [hn, hX])
  rw [results_cell_tmp h, hp]
  simp [asAddr, Result.andThen, hl']
theorem resV3 {p u v : Tmp} {T : TypeId} (h : fn.results = #[.cell p T, .tmp u, .tmp v]) (tmps : Array Value) (V : Vars w0 w l) (i : Nat) {g : Nat} {X : Array Value} (hi : l[i]? = some ⟨g, T, X⟩) (hp : tmps.getD p undef = .pointer (some ⟨g, 0, none⟩))
    {m : Nat} {e : TypeId} (hu : P.underlying T = some (.array m e)) {n : Nat} (hn : (P.info? T).map (·.size) = some n) (hX : X.size = n) : (results fn tmps).run P w = .ok (.tuple #[.agg X, tmps.getD u undef, tmps.getD v undef]) w := by
  have hl' := run_loadVar_row (P := P) w g T T X (0, 0) _ (V.at i hi) hu rfl (by rw [hn, hX])
  simp only [results, h]
  simp only [Array.getD_eq_getD_getElem?] at hp ⊢
  simp [hp, asAddr, Result.andThen, hl']
end
section
variable {P : Program} {ops : Array Oper} {Q : Exit → Act → World → Prop} {md : Region.Mode} {S : World → Prop}
/-- A region that draws its order, under any condition. -/
theorem av_open (S : World → Prop) {id : Nat} {a : Act} {w : World} (hm : P.follows .mixedOrders = true)
    (h : wpAnyH P .any ops Q S ops.size (Array.replicate ops.size false) a w.drew) : (Code.region id ops true).wp P Q a w := wp_region_held hm h
/-- The one operation that may come up. -/
theorem av_op {i : Nat} {o : Oper} {fuel : Nat} {listed : Array Bool} {a : Act} {w : World} (hr : Region.ready md ops listed = [i]) (ho : ops[i]? = some o)
    (hw : Region.wanted o (yielded ops a.tmps) = true)
    (h : ∀ K' : Act → World → Prop, (∀ a w1, S w1 → wpAnyH P md ops Q S fuel (listed.setIfInBounds i true) a w1 → K' a w1) → Oper.wp P o a w K' Q) :
    wpAnyH P md ops Q S (fuel + 1) listed a w := by
  refine wpAnyH_all hr (by simp) fun j hj => ?_
  simp only [List.mem_singleton] at hj
  subst hj
  refine wpOp_step ho fun K' hK => ?_
  rw [if_pos hw]
  exact h K' fun a w1 hs hh => hK a w1 ⟨hs, hh⟩
/-- Two operations may come up. -/
theorem av_op2 {i j : Nat} {oi oj : Oper} {fuel : Nat} {listed : Array Bool} {a : Act} {w : World} (hr : Region.ready md ops listed = [i, j]) (hoi : ops[i]? = some oi)
    (hwi : Region.wanted oi (yielded ops a.tmps) = true) (hoj : ops[j]? = some oj) (hwj : Region.wanted oj (yielded ops a.tmps) = true)
    (hi : ∀ K' : Act → World → Prop, (∀ a w1, S w1 → wpAnyH P md ops Q S fuel (listed.setIfInBounds i true) a w1 → K' a w1) → Oper.wp P oi a w K' Q)
    (hj : ∀ K' : Act → World → Prop, (∀ a w1, S w1 → wpAnyH P md ops Q S fuel (listed.setIfInBounds j true) a w1 → K' a w1) → Oper.wp P oj a w K' Q) :
    wpAnyH P md ops Q S (fuel + 1) listed a w := by
  refine wpAnyH_all hr (by simp) fun k hk => ?_
  simp only [List.mem_cons, List.not_mem_nil, or_false] at hk
  rcases hk with rfl | rfl
  · refine wpOp_step hoi fun K' hK => ?_
    rw [if_pos hwi]
    exact hi K' fun a w1 hs hh => hK a w1 ⟨hs, hh⟩
  · refine wpOp_step hoj fun K' hK => ?_
    rw [if_pos hwj]
    exact hj K' fun a w1 hs hh => hK a w1 ⟨hs, hh⟩
end
/-- What follows is shown once, for whatever block and world. -/
theorem av_once {G : Nat → World → Prop} {Vg : Nat → World → Prop} {R : Prop} (k : (∀ g w, Vg g w → G g w) → R) (h : ∀ g w, Vg g w → G g w) : R := k h
theorem av_once2 {G : Nat → Nat → World → Prop} {Vg : Nat → World → Prop} {R : Prop} (k : (∀ g m w, Vg g w → G g m w) → R) (h : ∀ g m w, Vg g w → G g m w) : R := k h
end Go.Proofs.Ytagppgdigabbmaa.N
