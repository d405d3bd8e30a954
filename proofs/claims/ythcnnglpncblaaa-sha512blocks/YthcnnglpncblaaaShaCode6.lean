/-
  The code of layer 13 (sha256): told, Block.
-/
import Derived.Test.YthcnnglpncblaaaShaCode5
namespace Go.Proofs.Ythcnnglpncblaaa
open Go.RowKit
set_option linter.unusedVariables false
set_option maxRecDepth 8192

section
variable {P : Program} {ops : Array Oper} {Q : Exit → Act → World → Prop} {md : Region.Mode} {S : World → Prop}
/-- A region that draws its order, under any condition. -/
theorem heldS_open (S : World → Prop) {id : Nat} {a : Act} {w : World} (hm : P.follows .mixedOrders = true)
    (h : wpAnyH P .any ops Q S ops.size (Array.replicate ops.size false) a w.drew) : (Code.region id ops true).wp P Q a w := wp_region_held hm h
/-- The one operation that may come up. -/
theorem heldS_op {i : Nat} {o : Oper} {fuel : Nat} {listed : Array Bool} {a : Act} {w : World} (hr : Region.ready md ops listed = [i]) (ho : ops[i]? = some o)
    (hw : Region.wanted o (yielded ops a.tmps) = true)
    (h : ∀ K' : Act → World → Prop, (∀ a w1, S w1 → wpAnyH P md ops Q S fuel (listed.setIfInBounds i true) a w1 → K' a w1) → Oper.wp P o a w K' Q) :
    wpAnyH P md ops Q S (fuel + 1) listed a w := by
  refine wpAnyH_all hr (by simp) fun j hj => ?_
  simp only [List.mem_singleton] at hj
  subst hj
  refine wpOp_step ho fun K' hK => ?_
  rw [if_pos hw]
  exact h K' fun a w1 hs hh => hK a w1 ⟨hs, hh⟩
end
theorem exec_loadA {P : Program} {a : Act} {o : Oper} {w : World} (ty : TypeId) (x : Operand) (ho : o.op = .load ty x) (g : Nat) (hx : a.eval x = .pointer (some ⟨g, 0, none⟩)) {T : TypeId} {k : IntKind} {zs : List Int} (hA : Arr w g T k zs) {n : Nat} {e : TypeId}
    (hu : P.underlying ty = some (.array n e)) {m : Nat} (hi : (P.info? ty).map (·.size) = some m) (hl : zs.length = m) : (execOp a.eval o).run P w = .ok (.value (.agg (zs.map (Value.int k)).toArray)) w := by
  unfold execOp
  simp only [ho, hx, Instr.loadAt, Instr.sureAddr, Sem.run_bind, Sem.run_pure, Result.andThen_ok, run_loadVar_row w g T ty _ (0, 0) _ hA hu rfl (show (P.info? ty).map (·.size) = some (zs.map (Value.int k)).toArray.size by rw [hi]; simp [hl])]
theorem wp_storeA {P : Program} {o : Oper} {a : Act} {w : World} {K : Act → World → Prop} {Q : Exit → Act → World → Prop} (ty : TypeId) (x y : Operand) (ho : o.op = .store ty x y)
    (g : Nat) {k : IntKind} (ys : List Int) (hx : a.eval x = .pointer (some ⟨g, 0, none⟩)) (hy : a.eval y = .agg (ys.map (Value.int k)).toArray) {T : TypeId} {zs : List Int} (hA : Arr w g T k zs) {m : Nat} (hi : (P.info? ty).map (·.size) = some m) (hl : zs.length = m) (hl2 : ys.length = m)
    (h : K (a.put o.dst undef) (w.setRow g (ys.map (Value.int k)).toArray)) : o.wp P a w K Q :=
  wp_store_row ty x y ho g _ hx hy T _ hA (by rw [hi]; simp [hl2]) (by simp [hl, hl2]) (ints_one k ys) h

/-- A part of an array of single cells, through its address. -/
theorem run_sliceAtA {P : Program} (t e : TypeId) (n : Nat) (hu : P.underlying t = some (.array n e)) (he : (P.info? e).map (·.size) = some 1) (b o : Nat) (kl kh : IntKind) (l h : Nat) (h1 : l ≤ h) (h2 : h ≤ n) (h3 : l < n) (w : World) :
    (Instr.sliceAt t (.pointer (some ⟨b, o, none⟩)) (some (.int kl (l : Int))) (some (.int kh (h : Int))) none).run P w = .ok (.slice (some ⟨b, o + l, none⟩) (h - l) (n - l)) w := by
  have hal : P.arrayLen t = n := by simp [Program.arrayLen, hu]
  have hel : P.elem t = e := by simp [Program.elem, hu]
  obtain ⟨inf, hq, hs⟩ := Option.map_eq_some_iff.1 he
  rw [run_sliceAt_array_lh w t ⟨b, o, none⟩ (by rw [hal, hel]; exact hu) kl kh (l : Int) (h : Int) (by omega) (by omega) (by rw [hal]; omega)]
  rw [hal, hel]
  simp [sizeOf, typeInfo, hq, hs, slicedAt, show ¬ n = l by omega, plain_add]
theorem run_sliceAtL {P : Program} (t e : TypeId) (n : Nat) (hu : P.underlying t = some (.array n e)) (he : (P.info? e).map (·.size) = some 1) (b o : Nat) (kl : IntKind) (l : Nat) (h3 : l < n) (w : World) :
    (Instr.sliceAt t (.pointer (some ⟨b, o, none⟩)) (some (.int kl (l : Int))) none none).run P w = .ok (.slice (some ⟨b, o + l, none⟩) (n - l) (n - l)) w := by
  have hal : P.arrayLen t = n := by simp [Program.arrayLen, hu]
  have hel : P.elem t = e := by simp [Program.elem, hu]
  obtain ⟨inf, hq, hs⟩ := Option.map_eq_some_iff.1 he
  rw [run_sliceAt_array_l w t ⟨b, o, none⟩ (by rw [hal, hel]; exact hu) kl (l : Int) (by omega) (by rw [hal]; omega)]
  rw [hal, hel]
  simp [sizeOf, typeInfo, hq, hs, slicedAt, show ¬ n = l by omega, plain_add]
theorem run_sliceAtH {P : Program} (t e : TypeId) (n : Nat) (hu : P.underlying t = some (.array n e)) (he : (P.info? e).map (·.size) = some 1) (b o : Nat) (kh : IntKind) (h : Nat) (h2 : h ≤ n) (h3 : 0 < n) (w : World) :
    (Instr.sliceAt t (.pointer (some ⟨b, o, none⟩)) none (some (.int kh (h : Int))) none).run P w = .ok (.slice (some ⟨b, o, none⟩) h n) w := by
  have hal : P.arrayLen t = n := by simp [Program.arrayLen, hu]
  have hel : P.elem t = e := by simp [Program.elem, hu]
  obtain ⟨inf, hq, hs⟩ := Option.map_eq_some_iff.1 he
  rw [run_sliceAt_array_h w t ⟨b, o, none⟩ (by rw [hal, hel]; exact hu) kh (h : Int) (by omega) (by rw [hal]; omega)]
  rw [hal, hel]
  simp [sizeOf, typeInfo, hq, hs, slicedAt, show ¬ n = 0 by omega, plain_add]
theorem run_sliceAtAll {P : Program} (t e : TypeId) (n : Nat) (hu : P.underlying t = some (.array n e)) (he : (P.info? e).map (·.size) = some 1) (b o : Nat) (h3 : 0 < n) (w : World) :
    (Instr.sliceAt t (.pointer (some ⟨b, o, none⟩)) none none none).run P w = .ok (.slice (some ⟨b, o, none⟩) n n) w := by
  have hal : P.arrayLen t = n := by simp [Program.arrayLen, hu]
  have hel : P.elem t = e := by simp [Program.elem, hu]
  obtain ⟨inf, hq, hs⟩ := Option.map_eq_some_iff.1 he
  rw [run_sliceAt_array_all w t ⟨b, o, none⟩ (by rw [hal, hel]; exact hu)]
  rw [hal, hel]
  simp [sizeOf, typeInfo, hq, hs, slicedAt, show ¬ n = 0 by omega, plain_add]

/-- The state's first k words as bytes. -/
def toldTo (s : S8) (k : Nat) : List Nat := s.bytes.take (4 * k) ++ List.replicate (32 - 4 * k) 0
theorem bytes_length (s : S8) : s.bytes.length = 32 := rfl
theorem toldTo_length (s : S8) (k : Nat) (hk : k ≤ 8) : (toldTo s k).length = 32 := by simp [toldTo, bytes_length]; omega
theorem toldTo_next (s : S8) (k : Nat) (hk : k < 8) : spL (toldTo s k) (beN 4 (s.list[k]?.getD 0)) (4 * k) 4 0 = toldTo s (k + 1) := by
  rw [beN_four]
  rcases (show k = 0 ∨ k = 1 ∨ k = 2 ∨ k = 3 ∨ k = 4 ∨ k = 5 ∨ k = 6 ∨ k = 7 by omega) with rfl | rfl | rfl | rfl | rfl | rfl | rfl | rfl <;> rfl
theorem resA2 {P : Program} {fn : Func} {p u : Tmp} {ty : TypeId} (h : fn.results = #[.cell p ty, .tmp u]) (tmps : Array Value) (w : World) (g : Nat) (hp : tmps.getD p undef = .pointer (some ⟨g, 0, none⟩)) {T : TypeId} {k : IntKind} {zs : List Int} (hA : Arr w g T k zs)
    {n : Nat} {e : TypeId} (hu : P.underlying ty = some (.array n e)) {m : Nat} (hi : (P.info? ty).map (·.size) = some m) (hl : zs.length = m) : (results fn tmps).run P w = .ok (.tuple #[.agg (zs.map (Value.int k)).toArray, tmps.getD u undef]) w := by
  have hl' := run_loadVar_row (P := P) w g T ty _ (0, 0) _ hA hu rfl (by rw [hi]; simp [hl])
  rw [results_cell_tmp h, hp]
  simp [asAddr, Result.andThen, hl']
end Go.Proofs.Ythcnnglpncblaaa
