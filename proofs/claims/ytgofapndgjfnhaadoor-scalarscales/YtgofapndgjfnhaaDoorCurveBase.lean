/-
  Structs of arrays by value, in variables: a point's two numbers, a point with a third one: parts that are loaded, builds, '=='; the curve's number in its variable; regions in which several variables are made in any order.
-/
import Derived.Test.YtgofapndgjfnhaaDoorFieldCode8
import Derived.Test.YtgofapndgjfnhaaDoorFieldSlice
import Derived.Test.YtgofapndgjfnhaaDoorFieldRoot
import Derived.Test.YtgofapndgjfnhaaDoorCurvePlain3
import Derived.Great.FillDense
import Derived.Laws.StructEq
namespace Go.Proofs.YtgofapndgjfnhaaDoor.N
open Go.RowKit
set_option linter.unusedVariables false
set_option maxRecDepth 8192

theorem zero2 : 0 < 2 ^ 256 := Nat.two_pow_pos 256
/-- Two, three numbers as cells. -/
def pA (x y : Nat) : Array Value := bA x ++ bA y
def tA (x y z : Nat) : Array Value := bA x ++ (bA y ++ bA z)
theorem pA_def (x y : Nat) : pA x y = bA x ++ bA y := rfl
theorem tA_def (x y z : Nat) : tA x y z = bA x ++ (bA y ++ bA z) := rfl
theorem pA_size (x y : Nat) : (pA x y).size = 64 := by rw [pA_def, Array.size_append, bA_size, bA_size]
theorem tA_size (x y z : Nat) : (tA x y z).size = 96 := by rw [tA_def, Array.size_append, Array.size_append, bA_size, bA_size, bA_size]
theorem one_append {X Y : Array Value} (h1 : X.all (·.oneCell') = true) (h2 : Y.all (·.oneCell') = true) : (X ++ Y).all (·.oneCell') = true := by
  rw [Array.all_eq_true_iff_forall_mem] at *
  intro v hv
  rcases Array.mem_append.1 hv with h | h
  · exact h1 v h
  · exact h2 v h
theorem pA_one (x y : Nat) : (pA x y).all (·.oneCell') = true := one_append (bA_one x) (bA_one y)
theorem tA_one (x y z : Nat) : (tA x y z).all (·.oneCell') = true := one_append (bA_one x) (one_append (bA_one y) (bA_one z))
theorem get_app (X Y : Array Value) (n k : Nat) (h : X.size = n) : (X ++ Y)[k]? = if k < n then X[k]? else Y[k - n]? := by
  subst h
  rw [Array.getElem?_append]
theorem pA_get (x y k : Nat) : (pA x y)[k]? = if k < 32 then (bA x)[k]? else (bA y)[k - 32]? := get_app _ _ 32 k (bA_size x)
theorem tA_get (x y z k : Nat) : (tA x y z)[k]? = if k < 32 then (bA x)[k]? else if k < 64 then (bA y)[k - 32]? else (bA z)[k - 64]? := by
  rw [tA_def, get_app _ _ 32 k (bA_size x), get_app _ _ 32 (k - 32) (bA_size y)]
  by_cases h1 : k < 32
  · rw [if_pos h1, if_pos h1]
  · rw [if_neg h1, if_neg h1]
    by_cases h2 : k < 64
    · rw [if_pos h2, if_pos (by omega)]
    · rw [if_neg h2, if_neg (by omega), show k - 32 - 32 = k - 64 by omega]
/-- The cells Y lie in X from o on. -/
def Part (X : Array Value) (o : Nat) (Y : Array Value) : Prop := ∀ j v, Y[j]? = some v → X[o + j]? = some v
theorem bA_lt {a j : Nat} {v : Value} (h : (bA a)[j]? = some v) : j < 32 := by
  have := (Array.getElem?_eq_some_iff.1 h).1
  rwa [bA_size] at this
theorem pA_part0 (x y : Nat) : Part (pA x y) 0 (bA x) := fun j v h => by rw [pA_get, Nat.zero_add, if_pos (bA_lt h)]; exact h
theorem pA_part1 (x y : Nat) : Part (pA x y) 32 (bA y) := fun j v h => by rw [pA_get, if_neg (by omega), show 32 + j - 32 = j by omega]; exact h
theorem tA_part0 (x y z : Nat) : Part (tA x y z) 0 (bA x) := fun j v h => by rw [tA_get, Nat.zero_add, if_pos (bA_lt h)]; exact h
theorem tA_part1 (x y z : Nat) : Part (tA x y z) 32 (bA y) := fun j v h => by have := bA_lt h; rw [tA_get, if_neg (by omega), if_pos (by omega), show 32 + j - 32 = j by omega]; exact h
theorem tA_part2 (x y z : Nat) : Part (tA x y z) 64 (bA z) := fun j v h => by rw [tA_get, if_neg (by omega), if_neg (by omega), show 64 + j - 64 = j by omega]; exact h
attribute [irreducible] pA tA
section
variable {P : Program} {ops : Array Oper} {rest : List Oper} {o : Oper} {a : Act} {w w0 : World} {Q : Exit → Act → World → Prop} {K : Act → World → Prop} {l : List AV}
/-- A part of a variable. -/
theorem exec_loadP (V : Vars w0 w l) (i : Nat) {g : Nat} {T : TypeId} {X : Array Value} (hi : l[i]? = some ⟨g, T, X⟩) (off : Nat) {Y : Array Value} (hp : Part X off Y) (x : Operand) {T' : TypeId} (ho : o.op = .load T' x) (hx : a.eval x = .pointer (some ⟨g, off, none⟩))
    {m : Nat} {e : TypeId} (hu : P.underlying T' = some (.array m e)) {n : Nat} (hn : (P.info? T').map (·.size) = some n) (hY : Y.size = n) : (execOp a.eval o).run P w = .ok (.value (.agg Y)) w := by
  have hr : w.rangeAt g off Y.toList := fun j v hv => by
    rw [cell_of_row w g (off + j) X T (0, 0) (V.at i hi)]
    exact hp j v (by simpa using hv)
  unfold execOp
  simp only [ho, hx, Instr.loadAt, Instr.sureAddr, Sem.run_bind, Sem.run_pure, Result.andThen_ok, run_loadVar_mid w g off T' Y.toList _ hr hu rfl (by rw [hn, Array.length_toList, hY])]
/-- A whole struct. -/
theorem exec_loadS (V : Vars w0 w l) (i : Nat) {g : Nat} {T : TypeId} {X : Array Value} (hi : l[i]? = some ⟨g, T, X⟩) (x : Operand) (ho : o.op = .load T x) (hx : a.eval x = .pointer (some ⟨g, 0, none⟩))
    {fs : Array Field} (hu : P.underlying T = some (.struct fs)) {n : Nat} (hn : (P.info? T).map (·.size) = some n) (hX : X.size = n) : (execOp a.eval o).run P w = .ok (.value (.agg X)) w := by
  unfold execOp
  simp only [ho, hx, Instr.loadAt, Instr.sureAddr, Sem.run_bind, Sem.run_pure, Result.andThen_ok, run_loadVar_row w g T T X (0, 0) _ (V.at i hi) hu rfl (by rw [hn, hX])]
theorem resS1 {fn : Func} {p : Tmp} {T : TypeId} (h : fn.results = #[.cell p T]) (tmps : Array Value) (V : Vars w0 w l) (i : Nat) {g : Nat} {X : Array Value} (hi : l[i]? = some ⟨g, T, X⟩) (hp : tmps.getD p undef = .pointer (some ⟨g, 0, none⟩))
    {fs : Array Field} (hu : P.underlying T = some (.struct fs)) {n : Nat} (hn : (P.info? T).map (·.size) = some n) (hX : X.size = n) : (results fn tmps).run P w = .ok (.agg X) w :=
  results_cell_row h tmps w g T X (0, 0) _ hp (V.at i hi) hu rfl (by rw [hn, hX])
theorem resS2 {fn : Func} {p u : Tmp} {T : TypeId} (h : fn.results = #[.cell p T, .tmp u]) (tmps : Array Value) (V : Vars w0 w l) (i : Nat) {g : Nat} {X : Array Value} (hi : l[i]? = some ⟨g, T, X⟩) (hp : tmps.getD p undef = .pointer (some ⟨g, 0, none⟩))
    {fs : Array Field} (hu : P.underlying T = some (.struct fs)) {n : Nat} (hn : (P.info? T).map (·.size) = some n) (hX : X.size = n) : (results fn tmps).run P w = .ok (.tuple #[.agg X, tmps.getD u undef]) w := by
  have hl' := run_loadVar_row (P := P) w g T T X (0, 0) _ (V.at i hi) hu rfl (by rw [hn, hX])
  rw [results_cell_tmp h, hp]
  simp [asAddr, Result.andThen, hl']
/-- A part of a value. -/
theorem run_partV {T' : TypeId} {X Y : Array Value} {off : Nat} (hp : Part X off Y) {m : Nat} {e : TypeId} (hu : P.underlying T' = some (.array m e)) {n : Nat} (hn : (P.info? T').map (·.size) = some n) (hY : Y.size = n) (hX : off + n ≤ X.size) : (part T' X off).run P w = .ok (.agg Y) w := by
  obtain ⟨inf, hq, hs⟩ := Option.map_eq_some_iff.1 hn
  have e : X.extract off (off + n) = Y := by
    apply Array.ext (by simp; omega)
    intro j h1 h2
    have := hp j _ (Array.getElem?_eq_getElem h2)
    rw [Array.getElem_extract]
    exact (Array.getElem?_eq_some_iff.1 this).2
  simp [part, isAgg, run_underlying hu, sizeOf, typeInfo, hq, hs, e]
theorem exec_fieldV {T : TypeId} {x : Operand} {f : Nat} (ho : o.op = .field T x f) {X Y : Array Value} (hx : a.eval x = .agg X) {fs : Array Field} (hu : P.underlying T = some (.struct fs)) {F : Field} (hf : fs[f]? = some F) (hp : Part X F.offset Y)
    {m : Nat} {e : TypeId} (hu' : P.underlying F.type = some (.array m e)) {n : Nat} (hn : (P.info? F.type).map (·.size) = some n) (hY : Y.size = n) (hX : F.offset + n ≤ X.size) : (execOp a.eval o).run P w = .ok (.value (.agg Y)) w := by
  unfold execOp
  have := run_partV (P := P) (w := w) hp hu' hn hY hX
  simp [ho, hx, Instr.field, run_underlying hu, hf, asAgg, this]
theorem exec_indexV {ty : TypeId} {x y : Operand} (ho : o.op = .index ty x y) (cs : Array Value) (k : IntKind) (i : Nat) (hx : a.eval x = .agg cs) (hy : a.eval y = .int k (i : Int)) {e : TypeId} {m : Nat} {ek : IntKind} {z : Int} (hu : P.underlying ty = some (.array m e)) (hue : P.underlying e = some (.int ek)) (he : (P.info? e).map (·.size) = some 1) (hi : i < m) (hv : cs[i]? = some (.int ek z)) :
    (execOp a.eval o).run P w = .ok (.value (.int ek z)) w := by
  unfold execOp
  simp only [ho, hx, hy, Sem.run_bind, Sem.run_pure, Result.andThen_ok, run_indexV ty e m cs k ek i z hu hue he hi hv]
end
/-- A part that is laid into a struct. -/
theorem fill_part (pl : Nat → Option (Nat × Nat)) (i off n : Nat) (c cells : Array Value) (rest : List (Nat × Value)) (hp : pl i = some (off, n)) (hn : c.size = n) (hle : off + n ≤ cells.size) :
    ∃ cs, Instr.fill pl cells ((i, .agg c) :: rest) = Instr.fill pl cs rest ∧ cs.size = cells.size ∧ ∀ k, cs[k]? = if off ≤ k ∧ k < off + n then c[k - off]? else cells[k]? := by
  obtain ⟨g1, g2⟩ := Great.foldl_set off c.toList 0 cells
  have c0 : (Value.agg c).cells = c := rfl
  have l1 : c.toList.length = n := by simpa using hn
  refine ⟨(c.toList.zipIdx 0).foldl (fun cs (x : Value × Nat) => cs.setIfInBounds (off + x.2) x.1) cells, ?_, g1, fun k => ?_⟩
  · rw [Instr.fill]
    simp only [hp, c0, hn]
    rw [if_neg (by simp; omega)]
    congr 1
    rw [← Array.foldl_toList, Array.toList_zipIdx]
  · rw [g2 k, l1]
    by_cases h : off ≤ k ∧ k < off + n
    · rw [if_pos h, if_pos (by omega)]
      simp
    · rw [if_neg h, if_neg (by omega)]
theorem arr_append (k : IntKind) (l m : List Nat) : arr k l ++ arr k m = arr k (l ++ m) := by simp [arr, nI]
theorem pA_zero : pA 0 0 = arr .u8 (List.replicate 64 0) := by rw [pA_def, bA_zero, arr_append, List.replicate_append_replicate]
theorem tA_zero : tA 0 0 0 = arr .u8 (List.replicate 96 0) := by rw [tA_def, bA_zero, arr_append, arr_append, List.replicate_append_replicate, List.replicate_append_replicate]
theorem bA_past {a k : Nat} (h : 32 ≤ k) : (bA a)[k]? = none := Array.getElem?_eq_none (by rw [bA_size]; exact h)
def pPlaces : Array (Nat × Nat) := #[(0, 32), (32, 32)]
def tPlaces : Array (Nat × Nat) := #[(0, 32), (32, 32), (64, 32)]
theorem fill_p (x y : Nat) : Instr.fill (pPlaces[·]?) (pA 0 0) [(0, .agg (bA x)), (1, .agg (bA y))] = some (pA x y) := by
  obtain ⟨c1, e1, s1, g1⟩ := fill_part (pPlaces[·]?) 0 0 32 (bA x) (pA 0 0) [(1, .agg (bA y))] rfl (bA_size x) (by rw [pA_size]; decide)
  obtain ⟨c2, e2, s2, g2⟩ := fill_part (pPlaces[·]?) 1 32 32 (bA y) c1 [] rfl (bA_size y) (by rw [s1, pA_size]; decide)
  rw [e1, e2, Instr.fill, Option.some_inj]
  apply Array.ext_getElem?
  intro k
  rw [g2 k, g1 k, pA_get, pA_get]
  by_cases h1 : k < 32
  · rw [if_neg (by omega), if_pos (by omega), if_pos h1, Nat.sub_zero]
  · rw [if_neg h1]
    by_cases h2 : k < 64
    · rw [if_pos (by omega), if_neg h1]
    · rw [if_neg (by omega), if_neg (by omega), if_neg h1, bA_past (by omega), bA_past (by omega)]
theorem fill_p1 (y : Nat) : Instr.fill (pPlaces[·]?) (pA 0 0) [(1, .agg (bA y))] = some (pA 0 y) := by
  obtain ⟨c2, e2, s2, g2⟩ := fill_part (pPlaces[·]?) 1 32 32 (bA y) (pA 0 0) [] rfl (bA_size y) (by rw [pA_size]; decide)
  rw [e2, Instr.fill, Option.some_inj]
  apply Array.ext_getElem?
  intro k
  rw [g2 k, pA_get, pA_get]
  by_cases h1 : k < 32
  · rw [if_neg (by omega), if_pos h1, if_pos h1]
  · rw [if_neg h1, if_neg h1]
    by_cases h2 : k < 64
    · rw [if_pos (by omega)]
    · rw [if_neg (by omega), bA_past (by omega), bA_past (by omega)]
theorem fill_t (x y z : Nat) : Instr.fill (tPlaces[·]?) (tA 0 0 0) [(0, .agg (bA x)), (1, .agg (bA y)), (2, .agg (bA z))] = some (tA x y z) := by
  obtain ⟨c1, e1, s1, g1⟩ := fill_part (tPlaces[·]?) 0 0 32 (bA x) (tA 0 0 0) [(1, .agg (bA y)), (2, .agg (bA z))] rfl (bA_size x) (by rw [tA_size]; decide)
  obtain ⟨c2, e2, s2, g2⟩ := fill_part (tPlaces[·]?) 1 32 32 (bA y) c1 [(2, .agg (bA z))] rfl (bA_size y) (by rw [s1, tA_size]; decide)
  obtain ⟨c3, e3, s3, g3⟩ := fill_part (tPlaces[·]?) 2 64 32 (bA z) c2 [] rfl (bA_size z) (by rw [s2, s1, tA_size]; decide)
  rw [e1, e2, e3, Instr.fill, Option.some_inj]
  apply Array.ext_getElem?
  intro k
  rw [g3 k, g2 k, g1 k, tA_get, tA_get]
  by_cases h1 : k < 32
  · rw [if_neg (by omega), if_neg (by omega), if_pos (by omega), if_pos h1, Nat.sub_zero]
  · rw [if_neg h1]
    by_cases h2 : k < 64
    · rw [if_neg (by omega), if_pos (by omega), if_pos h2, if_neg h1]
    · rw [if_neg h2]
      by_cases h3 : k < 96
      · rw [if_pos (by omega), if_neg h1, if_neg h2]
      · rw [if_neg (by omega), if_neg (by omega), if_neg (by omega), if_neg h1, if_neg h2, bA_past (by omega), bA_past (by omega)]
/-- A variable that was just made goes to its place in the list. -/
theorem Vars.mv {w0 w : World} {v : AV} {l : List AV} (h : Vars w0 w (v :: l)) (k : Nat) (hk : k ≤ l.length) : Vars w0 w (l.insertIdx k v) := by
  have hp := List.perm_insertIdx v l hk
  exact ⟨h.bel, fun u hu => h.low u (hp.mem_iff.1 hu), fun u hu => h.holds u (hp.mem_iff.1 hu), (hp.pairwise_iff (fun {a b} => Ne.symm)).2 h.apart⟩
section
variable {P : Program} {ops : Array Oper} {Q : Exit → Act → World → Prop} {md : Region.Mode} {S : World → Prop}
/-- What is owed for each of several operations that may come up. -/
def AvAll (P : Program) (md : Region.Mode) (ops : Array Oper) (Q : Exit → Act → World → Prop) (S : World → Prop) (fuel : Nat) (listed : Array Bool) (a : Act) (w : World) : List Nat → Prop
  | [] => True
  | i :: is => (∃ o, ops[i]? = some o ∧ Region.wanted o (yielded ops a.tmps) = true ∧ ∃ L', listed.setIfInBounds i true = L' ∧
      ∀ K' : Act → World → Prop, (∀ a w1, S w1 → wpAnyH P md ops Q S fuel L' a w1 → K' a w1) → Oper.wp P o a w K' Q) ∧ AvAll P md ops Q S fuel listed a w is
theorem avAll_mem {fuel : Nat} {listed : Array Bool} {a : Act} {w : World} : ∀ {is : List Nat}, AvAll P md ops Q S fuel listed a w is → ∀ i ∈ is, ∃ o, ops[i]? = some o ∧ Region.wanted o (yielded ops a.tmps) = true ∧ ∃ L', listed.setIfInBounds i true = L' ∧
      ∀ K' : Act → World → Prop, (∀ a w1, S w1 → wpAnyH P md ops Q S fuel L' a w1 → K' a w1) → Oper.wp P o a w K' Q
  | _ :: _, h, i, hi => by
    rcases List.mem_cons.1 hi with rfl | h1
    · exact h.1
    · exact avAll_mem h.2 i h1
theorem av_ops (is : List Nat) {fuel : Nat} {listed : Array Bool} {a : Act} {w : World} (hr : Region.ready md ops listed = is) (hne : is ≠ []) (h : AvAll P md ops Q S fuel listed a w is) : wpAnyH P md ops Q S (fuel + 1) listed a w := by
  refine wpAnyH_all hr hne fun j hj => ?_
  obtain ⟨o, ho, hw, L', rfl, hh⟩ := avAll_mem h j hj
  refine wpOp_step ho fun K' hK => ?_
  rw [if_pos hw]
  exact hh K' fun a w1 hs hx => hK a w1 ⟨hs, hx⟩
theorem av_cons {i : Nat} {is : List Nat} {fuel : Nat} {listed : Array Bool} {a : Act} {w : World} (L' : Array Bool) {o : Oper} (ho : ops[i]? = some o) (hw : Region.wanted o (yielded ops a.tmps) = true) (hl : listed.setIfInBounds i true = L')
    (h : ∀ K' : Act → World → Prop, (∀ a w1, S w1 → wpAnyH P md ops Q S fuel L' a w1 → K' a w1) → Oper.wp P o a w K' Q) (h2 : AvAll P md ops Q S fuel listed a w is) : AvAll P md ops Q S fuel listed a w (i :: is) :=
  ⟨⟨o, ho, hw, L', hl, h⟩, h2⟩
theorem av_nil {fuel : Nat} {listed : Array Bool} {a : Act} {w : World} : AvAll P md ops Q S fuel listed a w [] := trivial
/-- The list of what has come up, in another form. -/
theorem av_listed {fuel : Nat} {L L' : Array Bool} {a : Act} {w : World} (h : L = L') (hh : wpAnyH P md ops Q S fuel L' a w) : wpAnyH P md ops Q S fuel L a w := by rw [h]; exact hh
end
theorem av_once00 {G : World → Prop} {Vg : World → Prop} {R : Prop} (k : (∀ w, Vg w → G w) → R) (h : ∀ w, Vg w → G w) : R := k h
theorem av_once22 {G : Nat → Nat → World → Prop} {Vg : Nat → Nat → World → Prop} {R : Prop} (k : (∀ g h w, Vg g h w → G g h w) → R) (h : ∀ g h w, Vg g h w → G g h w) : R := k h
theorem av_once33 {G : Nat → Nat → Nat → World → Prop} {Vg : Nat → Nat → Nat → World → Prop} {R : Prop} (k : (∀ g h i w, Vg g h i w → G g h i w) → R) (h : ∀ g h i w, Vg g h i w → G g h i w) : R := k h
theorem Tryd.szP : (Tryd.prog.info? 36).map (·.size) = some 64 := by kernel_rfl
theorem zeroP (w : World) : (zeroValue 36).run Tryd.prog w = .ok (.agg (pA 0 0)) w := by rw [pA_zero]; kernel_rfl
theorem builtP (parts : List (Nat × Value)) : Tryd.prog.built 36 parts = Instr.fill (pPlaces[·]?) (pA 0 0) parts := by rw [pA_zero]; kernel_rfl
theorem built_P (x y : Nat) : Tryd.prog.built 36 [(0, .agg (bA x)), (1, .agg (bA y))] = some (pA x y) := by rw [builtP, fill_p]
theorem built_P1 (y : Nat) : Tryd.prog.built 36 [(1, .agg (bA y))] = some (pA 0 y) := by rw [builtP, fill_p1]
theorem built_P0 : Tryd.prog.built 36 [] = some (pA 0 0) := by rw [builtP, Instr.fill]
theorem run_equalB (D p q : Nat) (hD : 2 ≤ D) (hp : p < 2 ^ 256) (hq : q < 2 ^ 256) (w : World) : (Op.equalIn D 23 (.agg (bA p)) (.agg (bA q))).run Tryd.prog w = .ok (decide (p = q)) w := by
  obtain ⟨d, rfl⟩ : ∃ d, D = d + 2 := ⟨D - 2, by omega⟩
  rw [bA_def, bA_def, run_equalV Tryd.underlying23 Tryd.underlying5 Tryd.sz8 _ _ (digL_length _ _) (digL_length _ _), dec_b hp hq]
theorem eqFields_two {P : Program} {D T : Nat} {X Y x y x' y' : Array Value} {f g : Field} {b0 b1 : Bool} {w : World} (hf : f.name ≠ "_") (hg : g.name ≠ "_") (p0 : (part f.type X f.offset).run P w = .ok (.agg x) w) (p1 : (part g.type X g.offset).run P w = .ok (.agg y) w)
    (r0 : (part f.type Y f.offset).run P w = .ok (.agg x') w) (r1 : (part g.type Y g.offset).run P w = .ok (.agg y') w) (e0 : (Op.equalIn D f.type (.agg x) (.agg x')).run P w = .ok b0 w) (e1 : (Op.equalIn D g.type (.agg y) (.agg y')).run P w = .ok b1 w) :
    (Op.eqFields D X Y [f, g]).run P w = .ok (b0 && b1) w := by
  cases b0 <;> cases b1 <;> simp [Op.eqFields, hf, hg, p0, p1, r0, r1, e0, e1]
theorem run_equalP (x y x' y' : Nat) (hx : x < 2 ^ 256) (hy : y < 2 ^ 256) (hx' : x' < 2 ^ 256) (hy' : y' < 2 ^ 256) (w : World) : (Op.equalIn 10000 36 (.agg (pA x y)) (.agg (pA x' y'))).run Tryd.prog w = .ok (decide (x = x') && decide (y = y')) w := by
  obtain ⟨fs, hfs⟩ : ∃ fs, Tryd.prog.underlying 36 = some (.struct fs) := ⟨_, Tryd.underlying36⟩
  have hf : Tryd.prog.fieldsOf 36 = fs := by unfold Program.fieldsOf; rw [hfs]
  rw [run_equalIn_agg (d := 9999) w _ _ _ (by rw [hf]; exact hfs) (by kernel_rfl), hf]
  rw [Tryd.underlying36] at hfs
  cases hfs
  have p0 := run_partV (P := Tryd.prog) (w := w) (pA_part0 x y) Tryd.underlying23 Tryd.szB (bA_size _) (by rw [pA_size]; decide)
  have p1 := run_partV (P := Tryd.prog) (w := w) (pA_part1 x y) Tryd.underlying23 Tryd.szB (bA_size _) (by rw [pA_size]; decide)
  have r0 := run_partV (P := Tryd.prog) (w := w) (pA_part0 x' y') Tryd.underlying23 Tryd.szB (bA_size _) (by rw [pA_size]; decide)
  have r1 := run_partV (P := Tryd.prog) (w := w) (pA_part1 x' y') Tryd.underlying23 Tryd.szB (bA_size _) (by rw [pA_size]; decide)
  exact eqFields_two (T := 0) (by decide) (by decide) p0 p1 r0 r1 (run_equalB 9999 x x' (by decide) hx hx' w) (run_equalB 9999 y y' (by decide) hy hy' w)
theorem exec_eqlP {a : Act} {o : Oper} {w : World} {T' : TypeId} (u v : Operand) (ho : o.op = .binOp .eql 36 u v T') (b : Bool) (x y x' y' : Nat) (hb : (decide (x = x') && decide (y = y')) = b) (hu : a.eval u = .agg (pA x y)) (hv : a.eval v = .agg (pA x' y')) (hx : (x < 2 ^ 256 ∧ y < 2 ^ 256)) (hx' : (x' < 2 ^ 256 ∧ y' < 2 ^ 256)) : (execOp a.eval o).run Tryd.prog w = .ok (.value (.bool b)) w := by
  unfold execOp
  simp only [ho, hu, hv, Sem.run_bind, Sem.run_pure, run_eqGuard_agg w .eql _ u v _ _ (show Tryd.prog.eqGuardType Tryd.prog.depth 36 = false by kernel_rfl), Result.andThen_ok, run_eql_struct, run_equalP x y x' y' hx.1 hx.2 hx'.1 hx'.2 w, hb]
theorem exec_neqP {a : Act} {o : Oper} {w : World} {T' : TypeId} (u v : Operand) (ho : o.op = .binOp .neq 36 u v T') (b : Bool) (x y x' y' : Nat) (hb : (decide (x = x') && decide (y = y')) = !b) (hu : a.eval u = .agg (pA x y)) (hv : a.eval v = .agg (pA x' y')) (hx : (x < 2 ^ 256 ∧ y < 2 ^ 256)) (hx' : (x' < 2 ^ 256 ∧ y' < 2 ^ 256)) : (execOp a.eval o).run Tryd.prog w = .ok (.value (.bool b)) w := by
  unfold execOp
  simp only [ho, hu, hv, Sem.run_bind, Sem.run_pure, run_eqGuard_agg w .neq _ u v _ _ (show Tryd.prog.eqGuardType Tryd.prog.depth 36 = false by kernel_rfl), Result.andThen_ok, run_neq_struct, run_equalP x y x' y' hx.1 hx.2 hx'.1 hx'.2 w, hb, Bool.not_not]
/-- The curve's number lies in its variable. -/
def DAt (w : World) : Prop := ∃ T fr, w.heap[1]? = some (.cells (bA dN) T fr)
theorem DAt.below {w w' : World} {B : Nat} (h : DAt w) (q : Below B w w') (hB : w.heap.size ≤ B) : DAt w' := by
  obtain ⟨T, fr, h⟩ := h
  exact ⟨T, fr, by rw [q.block _ (Nat.lt_of_lt_of_le (Array.getElem?_eq_some_iff.1 h).1 hB)]; exact h⟩
theorem DAt.of {w w' : World} {l : List AV} (h : DAt w) (V : Vars w w' l) : DAt w' := h.below V.bel (Nat.le_refl _)
theorem exec_loadG {a : Act} {o : Oper} {w : World} (h : DAt w) (x : Operand) (ho : o.op = .load 23 x) (hx : a.eval x = .pointer (some ⟨1, 0, none⟩)) : (execOp a.eval o).run Tryd.prog w = .ok (.value (.agg (bA dN))) w := by
  obtain ⟨T, fr, h⟩ := h
  unfold execOp
  simp only [ho, hx, Instr.loadAt, Instr.sureAddr, Sem.run_bind, Sem.run_pure, Result.andThen_ok, run_loadVar_row w _ T 23 (bA dN) fr _ h Tryd.underlying23 rfl (by rw [Tryd.szB, bA_size])]
theorem Tryd.szT : (Tryd.prog.info? 51).map (·.size) = some 96 := by kernel_rfl
theorem zeroT (w : World) : (zeroValue 51).run Tryd.prog w = .ok (.agg (tA 0 0 0)) w := by rw [tA_zero]; kernel_rfl
theorem builtT (parts : List (Nat × Value)) : Tryd.prog.built 51 parts = Instr.fill (tPlaces[·]?) (tA 0 0 0) parts := by rw [tA_zero]; kernel_rfl
theorem built_T (x y z : Nat) : Tryd.prog.built 51 [(0, .agg (bA x)), (1, .agg (bA y)), (2, .agg (bA z))] = some (tA x y z) := by rw [builtT, fill_t]
end Go.Proofs.YtgofapndgjfnhaaDoor.N
