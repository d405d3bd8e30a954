/-
  The code of layer 13 (sha256): Hash.Sum, Sum.
-/
import Derived.Test.YthcnnglpncblaaaShaHash5
namespace Go.Proofs.Ythcnnglpncblaaa
open Go.RowKit
set_option linter.unusedVariables false
set_option maxRecDepth 8192

theorem turned_row {w w1 : World} {row : Option Nat} (g : w.grownBy w1 row) (b : Nat) (hb : w.heap.size ≤ b) (cs : Array Value) : w.grownBy (w1.setRow b cs) row :=
  ⟨g.os, g.tape, g.output, by rw [size_setRow]; exact g.size, fun k hk hne => by rw [setRow_other w1 b k cs (by omega)]; exact g.block k hk hne⟩
/-- A window of a row, as slicing makes it. -/
theorem row_window {k : IntKind} {w : World} {a : Option Addr} {len cap : Nat} {zs : List Int} (hr : Row k w a len cap zs) (l m : Nat) (hm : 0 < m) (hl : l + m ≤ len) : ∃ a', sliced a l (l + m) cap 1 = .slice a' m (cap - l) ∧ ∀ w', (∀ b off, a = some ⟨b, off, none⟩ → w'.heap[b]? = w.heap[b]? ∧ w.heap.size ≤ w'.heap.size) → Row k w' a' m (cap - l) ((zs.drop l).take m) := by
  obtain ⟨b, off, rfl, hbs, hcell⟩ := hr.hcell (by omega)
  have hc := hr.hcap
  have hx := hr.hmax
  have hlen := hr.hlen
  refine ⟨some ⟨b, off + l, none⟩, by simp [sliced, show ¬ cap = l by omega, plain_add], fun w' hw' => ?_⟩
  obtain ⟨h1, h2⟩ := hw' b off rfl
  refine ⟨by simp; omega, by omega, by omega, by simp, fun _ => ⟨b, off + l, rfl, by omega, fun i hi => ?_⟩⟩
  rw [World.cell?_of_block (w := w) h1, Nat.add_assoc, hcell (l + i) (by omega), List.getElem?_take, if_pos hi, List.getElem?_drop]
theorem run_windowA {P : Program} (t e : TypeId) (hu : P.underlying t = some (.slice e)) (he : (P.info? e).map (·.size) = some 1) (a : Option Addr) (len cap l h : Nat) (kl kh : IntKind) (hl : l ≤ h) (hc : h ≤ cap) (w : World) :
    (Instr.sliceAt t (.slice a len cap) (some (.int kl (l : Int))) (some (.int kh (h : Int))) none).run P w = .ok (sliced a l h cap 1) w := by
  have hel : P.elem t = e := by simp [Program.elem, hu]
  obtain ⟨inf, hq, hs⟩ := Option.map_eq_some_iff.1 he
  have hu' : P.underlying t = some (.slice (P.elem t)) := by rw [hel]; exact hu
  rw [run_sliceAt_slice w t _ _ _ _ hu', run_slice_lh w t a len cap hu' kl kh (l : Int) (h : Int) (by omega) (by omega) (by omega)]
  rw [hel]
  simp [sizeOf, typeInfo, hq, hs]
theorem exec_sliceLH {P : Program} {a : Act} {o : Oper} {w : World} (ty : TypeId) (x lo hi : Operand) (ho : o.op = .slice ty x (some lo) (some hi) none) (vx vl vh v : Value) (hx : a.eval x = vx) (hl : a.eval lo = vl) (hh : a.eval hi = vh) (hr : (Instr.sliceAt ty vx (some vl) (some vh) none).run P w = .ok v w) : (execOp a.eval o).run P w = .ok (.value v) w := by
  unfold execOp
  simp only [ho, hx, hl, hh, Option.map_some, Option.map_none, Sem.run_bind, Sem.run_pure, Result.andThen_ok, hr]
theorem exec_sliceH {P : Program} {a : Act} {o : Oper} {w : World} (ty : TypeId) (x hi : Operand) (ho : o.op = .slice ty x none (some hi) none) (vx vh v : Value) (hx : a.eval x = vx) (hh : a.eval hi = vh) (hr : (Instr.sliceAt ty vx none (some vh) none).run P w = .ok v w) : (execOp a.eval o).run P w = .ok (.value v) w := by
  unfold execOp
  simp only [ho, hx, hh, Option.map_some, Option.map_none, Sem.run_bind, Sem.run_pure, Result.andThen_ok, hr]
/-- What Sum's blocks make. -/
theorem sum_tail (K : List Nat) (S : S8) (D r : List Nat) (h : RestOk D r) : (blocksTo K (blocksTo K S D (D.length / 64)) (r.take (D.length % 64) ++ padL D.length) ((D.length % 64 + (noughts D.length + 9)) / 64)).bytes = sumL K S D := by
  have h1 : 64 * (D.length / 64) ≤ D.length := by omega
  have e : r.take (D.length % 64) ++ padL D.length = (D ++ padL D.length).drop (64 * (D.length / 64)) := by rw [h.2, List.drop_append_of_le_length h1]
  have e2 : blocksTo K S D (D.length / 64) = blocksTo K S (D ++ padL D.length) (D.length / 64) := blocksTo_same K S _ _ _ (by rw [List.take_append_of_le_length h1])
  unfold sumL
  rw [e, e2, ← blocksTo_add]
  congr 2
  omega
theorem owns_row_below {w : World} {base : Nat} {e : TypeId} {size : Nat} {v : Value} {n : Nat} {xs : List Value} (h : w.ownsRow base e size v n xs) (g : Nat) (hg : g < base) (cs : Array Value) : (w.setRow g cs).ownsRow base e size v n xs := by
  obtain ⟨h1, h2⟩ := h
  refine ⟨h1, ?_⟩
  rcases h2 with h2 | ⟨g', cap, cur, hv, hg', hh, r⟩
  · exact .inl h2
  · exact .inr ⟨g', cap, cur, hv, hg', by rw [setRow_other w g g' cs (by omega)]; exact hh, r⟩
end Go.Proofs.Ythcnnglpncblaaa
