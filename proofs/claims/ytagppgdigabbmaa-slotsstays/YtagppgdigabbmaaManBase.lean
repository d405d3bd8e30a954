/-
  Layer 20: segments and manifests in memory.
-/
import Derived.Test.YtagppgdigabbmaaManPlain
import Derived.Test.YtagppgdigabbmaaAvBase
import Derived.Deep.AppendLies
import Derived.WalkMore
namespace Go.Proofs.Ytagppgdigabbmaa.N
open Go.RowKit
set_option linter.unusedVariables false
set_option maxRecDepth 8192

/-- A segment's cells. -/
def sC (s : Sg) : List Value := .int .i64 s.load :: .int .i64 s.size :: s.dig.map (Value.int .u8)
def sA (s : Sg) : Array Value := (sC s).toArray
theorem sC_len {s : Sg} (h : s.Ok) : (sC s).length = 34 := by simp [sC, h.len]
theorem sA_size {s : Sg} (h : s.Ok) : (sA s).size = 34 := by unfold sA; rw [List.size_toArray]; exact sC_len h
theorem sC_one (s : Sg) : ∀ u ∈ sC s, u.oneCell' = true := by
  intro u hu
  simp only [sC, List.mem_cons, List.mem_map] at hu
  rcases hu with rfl | rfl | ⟨x, _, rfl⟩ <;> rfl
theorem sA_one (s : Sg) : (sA s).all (·.oneCell') = true := all_oneCell_toArray (sC_one s)
theorem sA_0 (s : Sg) : (sA s)[0]? = some (.int .i64 s.load) := rfl
theorem sA_1 (s : Sg) : (sA s)[1]? = some (.int .i64 s.size) := rfl
theorem sA_dig {s : Sg} (h : s.Ok) (j : Nat) (hj : j < 32) : (sA s)[2 + j]? = some (.int .u8 (s.dig[j]?.getD 0)) := by
  have e : 2 + j = j + 1 + 1 := by omega
  have hd : j < s.dig.length := by rw [h.len]; exact hj
  simp [sA, sC, e, List.getElem?_eq_getElem hd]
section
variable {w w' : World} {g : Nat} {T : TypeId} {s : Sg}
theorem sg_c0 (h : w.heap[g]? = some (.cells (sA s) T (0, 0))) : w.cell? ⟨g, 0, none⟩ = some (.int .i64 s.load) := by rw [cell_of_row w g 0 _ T (0, 0) h]; rfl
theorem sg_c1 (h : w.heap[g]? = some (.cells (sA s) T (0, 0))) : w.cell? ⟨g, 1, none⟩ = some (.int .i64 s.size) := by rw [cell_of_row w g 1 _ T (0, 0) h]; rfl
theorem sg_dig (ho : s.Ok) (h : w.heap[g]? = some (.cells (sA s) T (0, 0))) : Row .u8 w (some ⟨g, 2, none⟩) 32 32 s.dig := by
  refine ⟨ho.len, Nat.le_refl _, by unfold maxLen; omega, by simp, fun _ => ⟨g, 2, rfl, lt_of_heap h, fun i hi => ?_⟩⟩
  rw [cell_of_row w g (2 + i) _ T (0, 0) h, sA_dig ho i hi]
end
/-- The slice (a, n, cap) reads in w as these segments. -/
structure SegRow (w : World) (a : Option Addr) (n cap : Nat) (l : List Sg) : Prop where
  hlen : l.length = n
  hcap : n ≤ cap
  hmax : cap ≤ maxLen
  hnil : a = none → cap = 0
  hcell : 0 < n → ∃ b off, a = some ⟨b, off, none⟩ ∧ b < w.heap.size ∧ ∀ i, i < n → w.rangeAt b (off + i * 34) (sC (sgI l i))
theorem range_block {w w' : World} {b o : Nat} {cs : List Value} (h : w.rangeAt b o cs) (hb : w'.heap[b]? = w.heap[b]?) : w'.rangeAt b o cs := fun j v hv => by
  rw [World.cell?_of_block (w := w) (a := ⟨b, o + j, none⟩) hb]
  exact h j v hv
theorem SegRow.below {w w' : World} {a : Option Addr} {n cap B : Nat} {l : List Sg} (h : SegRow w a n cap l) (q : Below B w w') (hB : w.heap.size ≤ B) : SegRow w' a n cap l := by
  refine ⟨h.hlen, h.hcap, h.hmax, h.hnil, fun h0 => ?_⟩
  obtain ⟨b, off, rfl, hb, hc⟩ := h.hcell h0
  exact ⟨b, off, rfl, by have := q.size; omega, fun i hi => range_block (hc i hi) (q.block b (by omega))⟩
theorem SegRow.same {w w' : World} {a : Option Addr} {n cap : Nat} {l : List Sg} (h : SegRow w a n cap l) (hs : w.heap.size ≤ w'.heap.size) (hb : ∀ q, a = some q → w'.heap[q.block]? = w.heap[q.block]?) : SegRow w' a n cap l := by
  refine ⟨h.hlen, h.hcap, h.hmax, h.hnil, fun h0 => ?_⟩
  obtain ⟨b, off, rfl, hlt, hc⟩ := h.hcell h0
  exact ⟨b, off, rfl, Nat.lt_of_lt_of_le hlt hs, fun i hi => range_block (hc i hi) (hb _ rfl)⟩
theorem segRow_nil (w : World) : SegRow w none 0 0 [] := ⟨rfl, Nat.le_refl _, Nat.zero_le _, fun _ => rfl, fun h => absurd h (by omega)⟩
def sCs (l : List Sg) : List Value := l.flatMap sC
theorem sCs_len : ∀ {l : List Sg}, (∀ s ∈ l, s.Ok) → (sCs l).length = l.length * 34
  | [], _ => rfl
  | s :: l, h => by
    show (sC s ++ sCs l).length = _
    rw [List.length_append, sC_len (h s (List.mem_cons_self ..)), sCs_len (fun x hx => h x (List.mem_cons_of_mem _ hx)), List.length_cons]
    omega
theorem sCs_at : ∀ {l : List Sg}, (∀ s ∈ l, s.Ok) → ∀ i, i < l.length → ∀ j v, (sC (sgI l i))[j]? = some v → (sCs l)[i * 34 + j]? = some v
  | [], _, i, hi, _, _, _ => absurd hi (Nat.not_lt_zero _)
  | s :: l, h, 0, _, j, v, hv => by
    show (sC s ++ sCs l)[0 * 34 + j]? = _
    have hv : (sC s)[j]? = some v := hv
    have hj := (List.getElem?_eq_some_iff.1 hv).1
    rw [show 0 * 34 + j = j by omega, List.getElem?_append_left hj]
    exact hv
  | s :: l, h, i + 1, hi, j, v, hv => by
    show (sC s ++ sCs l)[(i + 1) * 34 + j]? = _
    have hs := sC_len (h s (List.mem_cons_self ..))
    rw [List.getElem?_append_right (by omega), hs, show (i + 1) * 34 + j - 34 = i * 34 + j by omega]
    exact sCs_at (fun x hx => h x (List.mem_cons_of_mem _ hx)) i (by simpa using hi) j v hv
theorem segRow_owns {e : TypeId} {w : World} {base : Nat} {v : Value} {n : Nat} {l : List Sg} (hl : l.length = n) (ho : ∀ s ∈ l, s.Ok) (h : w.ownsRow base e 34 v n (sCs l)) : ∃ a cap, v = .slice a n cap ∧ SegRow w a n cap l := by
  rcases h.2 with ⟨rfl, hn⟩ | ⟨g, cap, cur, rfl, hg, hh, hnc, hcm, hcs, htake⟩
  · subst hn
    exact ⟨none, 0, rfl, hl, Nat.le_refl _, Nat.zero_le _, fun _ => rfl, fun h0 => absurd h0 (by omega)⟩
  · refine ⟨_, cap, rfl, hl, hnc, hcm, by simp, fun h0 => ⟨g, 0, rfl, lt_of_heap hh, fun i hi j u hu => ?_⟩⟩
    have := h.cells (g := g) rfl (i * 34 + j) u (sCs_at ho i (by omega) j u hu)
    rw [plain_add] at this
    rw [show (0 + i * 34 + j) = 0 + (i * 34 + j) by omega]
    exact this

/-- What the variables of another type hold stays. -/
def Keeps (e : TypeId) (w w' : World) : Prop := ∀ (g : Nat) (X : Array Value) (T : TypeId), T ≠ e → w.heap[g]? = some (.cells X T (0, 0)) → w'.heap[g]? = some (.cells X T (0, 0))
theorem Keeps.refl (e : TypeId) (w : World) : Keeps e w w := fun _ _ _ _ h => h
theorem Keeps.trans {e : TypeId} {a b c : World} (h : Keeps e a b) (k : Keeps e b c) : Keeps e a c := fun g X T hT hg => k g X T hT (h g X T hT hg)
theorem Keeps.below {e : TypeId} {a b : World} (q : Below a.heap.size a b) : Keeps e a b := fun g X T _ hg => by rw [q.block g (lt_of_heap hg)]; exact hg
theorem Keeps.alloc {e : TypeId} (w : World) (o : Obj) : Keeps e w (w.alloc o) := .below (below_one w o)
theorem Keeps.grown {e : TypeId} {w w' : World} {B : Nat} {sz : Nat} {v : Value} {n : Nat} {xs : List Value} (h : w.ownsRow B e sz v n xs) (hg : w.grownBy w' v.ownBlock) : Keeps e w w' := fun g X T hT hh => by
  rw [hg.block g (lt_of_heap hh) ?_]
  · exact hh
  · intro e1
    rcases h.2 with ⟨rfl, _⟩ | ⟨g', cap, cur, rfl, _, hh', _⟩
    · simp [Value.ownBlock] at e1
    · simp [Value.ownBlock] at e1
      subst e1
      rw [hh] at hh'
      cases hh'
      exact hT rfl
theorem man_c {w : World} {g : Nat} {T : TypeId} {X : Array Value} (h : w.heap[g]? = some (.cells X T (0, 0))) (i : Nat) : w.cell? ⟨g, i, none⟩ = X[i]? := cell_of_row w g i X T (0, 0) h
theorem Vars.put {w0 w : World} {l : List AV} (h : Vars w0 w l) (i : Nat) {g : Nat} {T : TypeId} {X : Array Value} (hi : l[i]? = some ⟨g, T, X⟩) (j : Nat) (v : Value) : Vars w0 (w.setCell ⟨g, j, none⟩ v) (l.set i ⟨g, T, X.setIfInBounds j v⟩) :=
  h.turn i hi ((Below.refl _ _).setCell (show w0.heap.size ≤ (⟨g, j, none⟩ : Addr).block from h.low _ (List.mem_of_getElem? hi)) _) (heap_setCell_same w g j X T v (h.at i hi)) (fun k hk => Below.heap_setCell w _ _ k hk)
end Go.Proofs.Ytagppgdigabbmaa.N
