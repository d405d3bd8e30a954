/-
  The code of layer 13 (sha256): root, Start, Rounds: arrays by value.
-/
import Derived.Test.YthcnnglpncblaaaShaRef4
import Derived.Deep.MidRow
import Derived.Deep.WholeRow
namespace Go.Proofs.Ythcnnglpncblaaa
open Go.RowKit
set_option linter.unusedVariables false
set_option maxRecDepth 8192

/-- The block g is an array of numbers. -/
def Arr (w : World) (g : Nat) (T : TypeId) (k : IntKind) (zs : List Int) : Prop := w.heap[g]? = some (.cells (zs.map (Value.int k)).toArray T (0, 0))
theorem Arr.lt {w : World} {g : Nat} {T : TypeId} {k : IntKind} {zs : List Int} (h : Arr w g T k zs) : g < w.heap.size := by
  unfold Arr at h
  rcases Nat.lt_or_ge g w.heap.size with h' | h'
  · exact h'
  · rw [Array.getElem?_eq_none h'] at h; simp at h
theorem Arr.cell {w : World} {g : Nat} {T : TypeId} {k : IntKind} {zs : List Int} (h : Arr w g T k zs) (i : Nat) (hi : i < zs.length) : w.cell? ⟨g, i, none⟩ = some (.int k (zs[i]?.getD 0)) := by
  rw [cell_of_row w g i _ T (0, 0) h]
  simp [List.getElem?_map, List.getElem?_eq_getElem hi]
theorem Arr.unfrozen {w : World} {g : Nat} {T : TypeId} {k : IntKind} {zs : List Int} (h : Arr w g T k zs) (i : Nat) : w.frozen? ⟨g, i, none⟩ = false := by
  unfold Arr at h; simp [World.frozen?, h]
theorem Arr.new (w : World) (T : TypeId) (k : IntKind) (zs : List Int) (cs : Array Value) (hc : cs = (zs.map (Value.int k)).toArray) : Arr (w.alloc (.cells cs T)) w.heap.size T k zs := by
  subst hc; exact heap_alloc_last w _
theorem Arr.alloc {w : World} {g : Nat} {T : TypeId} {k : IntKind} {zs : List Int} (h : Arr w g T k zs) (o : Obj) : Arr (w.alloc o) g T k zs := by
  unfold Arr; rw [Below.heap_alloc w o g h.lt]; exact h
theorem Arr.below {w w' : World} {g B : Nat} {T : TypeId} {k : IntKind} {zs : List Int} (h : Arr w g T k zs) (hb : Below B w w') (hg : g < B) : Arr w' g T k zs := by
  unfold Arr; rw [hb.block g hg]; exact h
theorem Arr.drewN {w : World} {g : Nat} {T : TypeId} {k : IntKind} {zs : List Int} (h : Arr w g T k zs) (n : Nat) : Arr (w.drewN n) g T k zs := h
theorem Arr.other {w : World} {g : Nat} {T : TypeId} {k : IntKind} {zs : List Int} (h : Arr w g T k zs) (a : Addr) (v : Value) (hne : g ≠ a.block) : Arr (w.setCell a v) g T k zs := by
  unfold Arr; rw [Below.heap_setCell w a v g hne]; exact h
theorem Arr.own {w : World} {g : Nat} {T : TypeId} {k : IntKind} {zs : List Int} (h : Arr w g T k zs) (hm : zs.length ≤ maxLen) : w.ownsRow g T 1 (.slice (some ⟨g, 0, none⟩) zs.length zs.length) zs.length (zs.map (Value.int k)) :=
  owns_of_heap h (by simp) (Nat.le_refl _) hm
theorem Arr.set {w : World} {g : Nat} {T : TypeId} {k : IntKind} {zs : List Int} (h : Arr w g T k zs) (hm : zs.length ≤ maxLen) (i : Nat) (x : Int) : Arr (w.setCell ⟨g, i, none⟩ (.int k x)) g T k (zs.set i x) := by
  have h1 := ((h.own hm).stored i (.int k x)).1
  rw [← List.map_set] at h1
  exact heap_of_owns h1
theorem Arr.whole {w : World} {g : Nat} {T : TypeId} {k : IntKind} {zs : List Int} (h : Arr w g T k zs) (ys : List Int) : Arr (w.setRow g (ys.map (Value.int k)).toArray) g T k ys := setRow_heap w g _ _ T (0, 0) h
theorem Arr.whole_other {w : World} {g g' : Nat} {T : TypeId} {k : IntKind} {zs : List Int} (h : Arr w g T k zs) (cs : Array Value) (hne : g ≠ g') : Arr (w.setRow g' cs) g T k zs := by
  unfold Arr; rw [setRow_other w g' g cs hne]; exact h
theorem Arr.row {w : World} {g : Nat} {T : TypeId} {k : IntKind} {zs : List Int} (h : Arr w g T k zs) (hm : zs.length ≤ maxLen) (n : Nat) (hn : zs.length = n) : Row k w (some ⟨g, 0, none⟩) n n zs := by
  subst hn
  obtain ⟨a, c, e, r⟩ := row_of_owns (h.own hm)
  simp only [Value.slice.injEq, true_and] at e
  obtain ⟨rfl, rfl⟩ := e
  exact r
theorem ints_one (k : IntKind) (zs : List Int) : ((zs.map (Value.int k)).toArray).all (·.oneCell') = true := all_oneCell_toArray (by intro v hv; obtain ⟨z, _, rfl⟩ := List.mem_map.1 hv; rfl)
theorem wpList_loadA {P : Program} {ops : Array Oper} {rest : List Oper} {o : Oper} {a : Act} {w : World} {Q : Exit → Act → World → Prop} (hgd : o.guard = none) (ty : TypeId) (x : Operand) (ho : o.op = .load ty x)
    (g : Nat) (hx : a.eval x = .pointer (some ⟨g, 0, none⟩)) {T : TypeId} {k : IntKind} {zs : List Int} (hA : Arr w g T k zs) {n : Nat} {e : TypeId} (hu : P.underlying ty = some (.array n e)) {m : Nat} (hi : (P.info? ty).map (·.size) = some m) (hl : zs.length = m)
    (h : wpList P ops Q rest (a.put o.dst (.agg (zs.map (Value.int k)).toArray)) w) : wpList P ops Q (o :: rest) a w :=
  wpList_load_row hgd ty x ho g hx T _ (0, 0) _ hA hu rfl (by rw [hi]; simp [hl]) h
theorem wpList_storeA {P : Program} {ops : Array Oper} {rest : List Oper} {o : Oper} {a : Act} {w : World} {Q : Exit → Act → World → Prop} (hgd : o.guard = none) (ty : TypeId) (x y : Operand) (ho : o.op = .store ty x y)
    (g : Nat) {k : IntKind} (ys : List Int) (hx : a.eval x = .pointer (some ⟨g, 0, none⟩)) (hy : a.eval y = .agg (ys.map (Value.int k)).toArray) {T : TypeId} {zs : List Int} (hA : Arr w g T k zs) {m : Nat} (hi : (P.info? ty).map (·.size) = some m) (hl : zs.length = m) (hl2 : ys.length = m)
    (h : wpList P ops Q rest (a.put o.dst undef) (w.setRow g (ys.map (Value.int k)).toArray)) : wpList P ops Q (o :: rest) a w :=
  wpList_store_row hgd ty x y ho g _ hx hy T _ hA (by rw [hi]; simp [hl2]) (by simp [hl, hl2]) (ints_one k ys) h
theorem resA {P : Program} {fn : Func} {p : Tmp} {ty : TypeId} (h : fn.results = #[.cell p ty]) (tmps : Array Value) (w : World) (g : Nat) (hp : tmps.getD p undef = .pointer (some ⟨g, 0, none⟩)) {T : TypeId} {k : IntKind} {zs : List Int} (hA : Arr w g T k zs)
    {n : Nat} {e : TypeId} (hu : P.underlying ty = some (.array n e)) {m : Nat} (hi : (P.info? ty).map (·.size) = some m) (hl : zs.length = m) : (results fn tmps).run P w = .ok (.agg (zs.map (Value.int k)).toArray) w :=
  results_cell_row h tmps w g T _ (0, 0) _ hp hA hu rfl (by rw [hi]; simp [hl])
/-- What is laid into an array from the front on, noughts behind it. -/
def fillL (L : List Nat) (n k : Nat) : List Nat := L.take k ++ List.replicate (n - k) 0
theorem fillL_length {L : List Nat} {n k : Nat} (hL : L.length = n) (hk : k ≤ n) : (fillL L n k).length = n := by simp [fillL]; omega
theorem fillL_zero (L : List Nat) (n : Nat) : fillL L n 0 = List.replicate n 0 := by simp [fillL]
theorem fillL_full {L : List Nat} {n : Nat} (hL : L.length = n) : fillL L n n = L := by simp [fillL, List.take_of_length_le (show L.length ≤ n by omega)]
theorem fillL_next {L : List Nat} {n k : Nat} (hL : L.length = n) (hk : k < n) : (fillL L n k).set k (L[k]?.getD 0) = fillL L n (k + 1) := by
  unfold fillL
  have hl : (L.take k).length = k := by simp; omega
  rw [List.set_append_right _ _ (by omega), hl, Nat.sub_self, take_snocN L k (by omega), show n - k = (n - (k + 1)) + 1 from by omega, List.replicate_succ, List.set_cons_zero, List.append_assoc]
  rfl
end Go.Proofs.Ythcnnglpncblaaa
