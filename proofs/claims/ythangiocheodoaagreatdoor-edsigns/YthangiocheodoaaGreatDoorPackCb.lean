/-
 Layer 17, in plain words: points as numbers, packed and unpacked.
-/
import Derived.Test.YthangiocheodoaaGreatDoorPackCa
import Derived.Test.YthangiocheodoaaGreatDoorPackFd
import Derived.Test.YthangiocheodoaaGreatDoorPackFb
import Derived.Great.FillDense
import Derived.Laws.StructEq
namespace Go.Proofs.YthangiocheodoaaGreatDoor.N
set_option linter.unusedVariables false
set_option maxRecDepth 8192

theorem on_alt (p : Pt) : OnC p ↔ p.y * p.y - p.x * p.x = 1 + cD * (p.x * p.x * (p.y * p.y)) := by
 have e : 1 + cD * (p.x * p.x * (p.y * p.y)) = 1 + cD * p.x * p.x * p.y * p.y := by
  generalize cD = d
  grind
 unfold OnC
 rw [e]
theorem fp_zero_sub (a : Fp) : 0 - a = -a := by grind
theorem neg_val {a : Fp} (h : a ≠ 0) : (-a).val = fP - a.val := by
 rw [← fp_zero_sub, fp_sub]
 have h1 := fp_pos h
 have h2 := a.isLt
 show (0 + (fP - a.val)) % fP = _
 rw [Nat.zero_add, Nat.mod_eq_of_lt (by omega)]
theorem neg_par {a : Fp} (h : a ≠ 0) : (-a).val % 2 = 1 - a.val % 2 := by
 rw [neg_val h]
 have := fP_odd
 have h2 := a.isLt
 omega
theorem neg_ne {a : Fp} (h : a ≠ 0) : -a ≠ 0 := fun e => h (by
 have : a = - (-a) := by grind
 rw [this, e]; grind)
theorem neg_neg_fp (a : Fp) : -(-a) = a := by grind
theorem on_neg {x y : Fp} (h : OnC ⟨x, y⟩) : OnC ⟨-x, y⟩ := pneg_on h
/-- The square that x must have. -/
def ySq (y : Fp) : Fp := (y * y - 1) * finv (1 + cD * (y * y))
theorem down_alt (y : Fp) : 1 + cD * (y * y) ≠ 0 := by
 have e : 1 + cD * (y * y) = 1 + cD * y * y := by
  generalize cD = d
  grind
 rw [e]
 exact down_ne y
theorem ySq_on {x y : Fp} : OnC ⟨x, y⟩ ↔ x * x = ySq y := by
 refine on_root ?_
 have e : 1 + cD * y * y = 1 + cD * (y * y) := by
  generalize cD = d
  grind
 rw [e]
 exact mul_back (finv_mul (down_alt y))
theorem ySq_root (y : Fp) : HasRoot (ySq y).val ↔ ∃ x, OnC ⟨x, y⟩ := by
 constructor
 ·rintro ⟨r, hr⟩
  refine ⟨⟨r % fP, mod_fP _⟩, ySq_on.2 (Fin.ext ?_)⟩
  rw [fp_mul]
  show r % fP * (r % fP) % fP = _
  rw [← Nat.mul_mod, hr, Nat.mod_eq_of_lt (ySq y).isLt]
 ·rintro ⟨x, hx⟩
  exact ⟨x.val, by rw [← fp_mul, ySq_on.1 hx, Nat.mod_eq_of_lt (ySq y).isLt]⟩
theorem ySq_even {x y : Fp} (h : OnC ⟨x, y⟩) (he : x.val % 2 = 0) : rtN (ySq y).val * rtN (ySq y).val % fP = (ySq y).val ∧ evN (rtN (ySq y).val) = x.val := by
 refine ⟨(root_iff (ySq y).isLt).2 ((ySq_root y).2 ⟨x, h⟩), ?_⟩
 rw [root_of' x.isLt (by rw [← fp_mul, ySq_on.1 h]), evN_def, if_neg (by omega)]
/-- Of the x of a y one is even. -/
theorem even_x {x y : Fp} (h : OnC ⟨x, y⟩) : ∃ u : Fp, OnC ⟨u, y⟩ ∧ u.val % 2 = 0 ∧ (u = x ∨ u = -x) := by
 rcases Nat.mod_two_eq_zero_or_one x.val with h1 | h1
 ·exact ⟨x, h, h1, .inl rfl⟩
 ·have hx : x ≠ 0 := fun e => by rw [e] at h1; exact absurd h1 (by decide)
  exact ⟨-x, on_neg h, by rw [neg_par hx, h1], .inr rfl⟩
theorem fP_255 : fP < 2 ^ 255 := fP_lt
theorem two_255 : (2 : Nat) ^ 256 = 2 * 2 ^ 255 := by rw [← Nat.pow_succ']
/-- A point as bytes. -/
def packN (p : Pt) : Nat := p.y.val + 2 ^ 255 * (p.x.val % 2)
theorem packN_lt (p : Pt) : packN p < 2 ^ 256 := by
 unfold packN
 have h1 := p.y.isLt
 have h2 := fP_255
 have h3 := two_255
 have h4 : p.x.val % 2 < 2 := Nat.mod_lt _ (by decide)
 generalize (2 : Nat) ^ 255 = A at *
 generalize (2 : Nat) ^ 256 = B at *
 rcases (show p.x.val % 2 = 0 ∨ p.x.val % 2 = 1 by omega) with h | h <;> rw [h] <;> omega
theorem packN_parts (p : Pt) : packN p % 2 ^ 255 = p.y.val ∧ packN p / 2 ^ 255 = p.x.val % 2 := by
 unfold packN
 have h1 : p.y.val < 2 ^ 255 := Nat.lt_trans p.y.isLt fP_255
 exact ⟨by rw [Nat.add_mul_mod_self_left, Nat.mod_eq_of_lt h1], by rw [Nat.add_mul_div_left _ _ (Nat.two_pow_pos 255), Nat.div_eq_of_lt h1, Nat.zero_add]⟩
theorem baseY_div : (4 : Fp) * finv 5 = ⟨baseY, baseY_lt⟩ := by
 have h5 : (5 : Fp) ≠ 0 := by decide
 refine fp_cancel h5 ?_
 have h1 : (5 : Fp) * (4 * finv 5) = 4 := by
  have := finv_mul h5
  generalize finv 5 = i at *
  grind
 rw [h1]
 decide +kernel
end Go.Proofs.YthangiocheodoaaGreatDoor.N

/-
 Structs of arrays by value, in variables: a point's two numbers, a point with a third one: parts that are loaded, builds, '=='; the curve's number in its variable; regions in which several variables are made in any order.
-/
namespace Go.Proofs.YthangiocheodoaaGreatDoor.N
open Go.RowKit
set_option linter.unusedVariables false
set_option maxRecDepth 8192

/-- Two, three numbers as cells. -/
def pA (x y : Nat) : Array Value := bA x ++ bA y
def tA (x y z : Nat) : Array Value := bA x ++ (bA y ++ bA z)
theorem pA_def (x y : Nat) : pA x y = bA x ++ bA y := rfl
theorem tA_def (x y z : Nat) : tA x y z = bA x ++ (bA y ++ bA z) := rfl
theorem pA_size (x y : Nat) : (pA x y).size = 64 := by rw [pA_def, Array.size_append, bA_size, bA_size]
theorem tA_size (x y z : Nat) : (tA x y z).size = 96 := by rw [tA_def, Array.size_append, Array.size_append, bA_size, bA_size, bA_size]
theorem one_append {X Y : Array Value} (h1 : X.all (·.oneCell') = true) (h2 : Y.all (·.oneCell') = true) : (X ++ Y).all (·.oneCell') = true := by
 rw [Array.all_eq_true_iff_forall_mem] at *
 intro v hv
 rcases Array.mem_append.1 hv with h | h
 ·exact h1 v h
 ·exact h2 v h
theorem pA_one (x y : Nat) : (pA x y).all (·.oneCell') = true := one_append (bA_one x) (bA_one y)
theorem tA_one (x y z : Nat) : (tA x y z).all (·.oneCell') = true := one_append (bA_one x) (one_append (bA_one y) (bA_one z))
theorem get_app (X Y : Array Value) (n k : Nat) (h : X.size = n) : (X ++ Y)[k]? = if k < n then X[k]? else Y[k - n]? := by
 subst h
 rw [Array.getElem?_append]
theorem pA_get (x y k : Nat) : (pA x y)[k]? = if k < 32 then (bA x)[k]? else (bA y)[k - 32]? := get_app _ _ 32 k (bA_size x)
theorem tA_get (x y z k : Nat) : (tA x y z)[k]? = if k < 32 then (bA x)[k]? else if k < 64 then (bA y)[k - 32]? else (bA z)[k - 64]? := by
 rw [tA_def, get_app _ _ 32 k (bA_size x), get_app _ _ 32 (k - 32) (bA_size y)]
 by_cases h1 : k < 32
 ·rw [if_pos h1, if_pos h1]
 ·rw [if_neg h1, if_neg h1]
  by_cases h2 : k < 64
  ·rw [if_pos h2, if_pos (by omega)]
  ·rw [if_neg h2, if_neg (by omega), show k - 32 - 32 = k - 64 by omega]
/-- The cells Y lie in X from o on. -/
def Part (X : Array Value) (o : Nat) (Y : Array Value) : Prop := ∀ j v, Y[j]? = some v → X[o + j]? = some v
theorem bA_lt {a j : Nat} {v : Value} (h : (bA a)[j]? = some v) : j < 32 := by
 have := (Array.getElem?_eq_some_iff.1 h).1
 rwa [bA_size] at this
theorem pA_part0 (x y : Nat) : Part (pA x y) 0 (bA x) := fun j v h => by rw [pA_get, Nat.zero_add, if_pos (bA_lt h)]; exact h
theorem pA_part1 (x y : Nat) : Part (pA x y) 32 (bA y) := fun j v h => by rw [pA_get, if_neg (by omega), show 32 + j - 32 = j by omega]; exact h
theorem tA_part0 (x y z : Nat) : Part (tA x y z) 0 (bA x) := fun j v h => by rw [tA_get, Nat.zero_add, if_pos (bA_lt h)]; exact h
theorem tA_part1 (x y z : Nat) : Part (tA x y z) 32 (bA y) := fun j v h => by have := bA_lt h; rw [tA_get, if_neg (by omega), if_pos (by omega), show 32 + j - 32 = j by omega]; exact h
theorem tA_part2 (x y z : Nat) : Part (tA x y z) 64 (bA z) := fun j v h => by rw [tA_get, if_neg (by omega), if_neg (by omega), show 64 + j - 64 = j by omega]; exact h
attribute [irreducible] pA tA
section
variable {P : Program} {ops : Array Oper} {rest : List Oper} {o : Oper} {a : Act} {w w0 : World} {Q : Exit → Act → World → Prop} {K : Act → World → Prop} {l : List AV}
/-- A part of a variable. -/
theorem exec_loadP (V : Vars w0 w l) (i : Nat) {g : Nat} {T : TypeId} {X : Array Value} (hi : l[i]? = some ⟨g, T, X⟩) (off : Nat) {Y : Array Value} (hp : Part X off Y) (x : Operand) {T' : TypeId} (ho : o.op = .load T' x) (hx : a.eval x = .pointer (some ⟨g, off, none⟩))
  {m : Nat} {e : TypeId} (hu : P.underlying T' = some (.array m e)) {n : Nat} (hn : (P.info? T').map (·.size) = some n) (hY : Y.size = n) : (execOp a.eval o).run P w = .ok (.value (.agg Y)) w := by
 have hr : w.rangeAt g off Y.toList := fun j v hv => by
  rw [cell_of_row w g (off + j) X T (0, 0) (V.at i hi)]
  exact hp j v (by simpa using hv)
 unfold execOp
 simp only [ho, hx, Instr.loadAt, Instr.sureAddr, Sem.run_bind, Sem.run_pure, Result.andThen_ok, run_loadVar_mid w g off T' Y.toList _ hr hu rfl (by rw [hn, Array.length_toList, hY])]
/-- A whole struct. -/
theorem exec_loadS (V : Vars w0 w l) (i : Nat) {g : Nat} {T : TypeId} {X : Array Value} (hi : l[i]? = some ⟨g, T, X⟩) (x : Operand) (ho : o.op = .load T x) (hx : a.eval x = .pointer (some ⟨g, 0, none⟩))
  {fs : Array Field} (hu : P.underlying T = some (.struct fs)) {n : Nat} (hn : (P.info? T).map (·.size) = some n) (hX : X.size = n) : (execOp a.eval o).run P w = .ok (.value (.agg X)) w := by
 unfold execOp
 simp only [ho, hx, Instr.loadAt, Instr.sureAddr, Sem.run_bind, Sem.run_pure, Result.andThen_ok, run_loadVar_row w g T T X (0, 0) _ (V.at i hi) hu rfl (by rw [hn, hX])]
theorem resS1 {fn : Func} {p : Tmp} {T : TypeId} (h : fn.results = #[.cell p T]) (tmps : Array Value) (V : Vars w0 w l) (i : Nat) {g : Nat} {X : Array Value} (hi : l[i]? = some ⟨g, T, X⟩) (hp : tmps.getD p undef = .pointer (some ⟨g, 0, none⟩))
  {fs : Array Field} (hu : P.underlying T = some (.struct fs)) {n : Nat} (hn : (P.info? T).map (·.size) = some n) (hX : X.size = n) : (results fn tmps).run P w = .ok (.agg X) w :=
 results_cell_row h tmps w g T X (0, 0) _ hp (V.at i hi) hu rfl (by rw [hn, hX])
theorem resS2 {fn : Func} {p u : Tmp} {T : TypeId} (h : fn.results = #[.cell p T, .tmp u]) (tmps : Array Value) (V : Vars w0 w l) (i : Nat) {g : Nat} {X : Array Value} (hi : l[i]? = some ⟨g, T, X⟩) (hp : tmps.getD p undef = .pointer (some ⟨g, 0, none⟩))
  {fs : Array Field} (hu : P.underlying T = some (.struct fs)) {n : Nat} (hn : (P.info? T).map (·.size) = some n) (hX : X.size = n) : (results fn tmps).run P w = .ok (.tuple #[.agg X, tmps.getD u undef]) w := by
 have hl' := run_loadVar_row (P := P) w g T T X (0, 0) _ (V.at i hi) hu rfl (by rw [hn, hX])
 rw [results_cell_tmp h, hp]
 simp [asAddr, Result.andThen, hl']
/-- A part of a value. -/
theorem run_partV {T' : TypeId} {X Y : Array Value} {off : Nat} (hp : Part X off Y) {m : Nat} {e : TypeId} (hu : P.underlying T' = some (.array m e)) {n : Nat} (hn : (P.info? T').map (·.size) = some n) (hY : Y.size = n) (hX : off + n ≤ X.size) : (part T' X off).run P w = .ok (.agg Y) w := by
 obtain ⟨inf, hq, hs⟩ := Option.map_eq_some_iff.1 hn
 have e : X.extract off (off + n) = Y := by
  apply Array.ext (by simp; omega)
  intro j h1 h2
  have := hp j _ (Array.getElem?_eq_getElem h2)
  rw [Array.getElem_extract]
  exact (Array.getElem?_eq_some_iff.1 this).2
 simp [part, isAgg, run_underlying hu, sizeOf, typeInfo, hq, hs, e]
end
/-- A part that is laid into a struct. -/
theorem fill_part (pl : Nat → Option (Nat × Nat)) (i off n : Nat) (c cells : Array Value) (rest : List (Nat × Value)) (hp : pl i = some (off, n)) (hn : c.size = n) (hle : off + n ≤ cells.size) :
  ∃ cs, Instr.fill pl cells ((i, .agg c) :: rest) = Instr.fill pl cs rest ∧ cs.size = cells.size ∧ ∀ k, cs[k]? = if off ≤ k ∧ k < off + n then c[k - off]? else cells[k]? := by
 obtain ⟨g1, g2⟩ := Great.foldl_set off c.toList 0 cells
 have c0 : (Value.agg c).cells = c := rfl
 have l1 : c.toList.length = n := by simpa using hn
 refine ⟨(c.toList.zipIdx 0).foldl (fun cs (x : Value × Nat) => cs.setIfInBounds (off + x.2) x.1) cells, ?_, g1, fun k => ?_⟩
 ·rw [Instr.fill]
  simp only [hp, c0, hn]
  rw [if_neg (by simp; omega)]
  congr 1
  rw [← Array.foldl_toList, Array.toList_zipIdx]
 ·rw [g2 k, l1]
  by_cases h : off ≤ k ∧ k < off + n
  ·rw [if_pos h, if_pos (by omega)]
   simp
  ·rw [if_neg h, if_neg (by omega)]
theorem arr_append (k : IntKind) (l m : List Nat) : arr k l ++ arr k m = arr k (l ++ m) := by simp [arr, nI]
theorem pA_zero : pA 0 0 = arr .u8 (List.replicate 64 0) := by rw [pA_def, bA_zero, arr_append, List.replicate_append_replicate]
theorem tA_zero : tA 0 0 0 = arr .u8 (List.replicate 96 0) := by rw [tA_def, bA_zero, arr_append, arr_append, List.replicate_append_replicate, List.replicate_append_replicate]
theorem bA_past {a k : Nat} (h : 32 ≤ k) : (bA a)[k]? = none := Array.getElem?_eq_none (by rw [bA_size]; exact h)
def pPlaces : Array (Nat × Nat) := #[(0, 32), (32, 32)]
def tPlaces : Array (Nat × Nat) := #[(0, 32), (32, 32), (64, 32)]
theorem fill_p (x y : Nat) : Instr.fill (pPlaces[·]?) (pA 0 0) [(0, .agg (bA x)), (1, .agg (bA y))] = some (pA x y) := by
 obtain ⟨c1, e1, s1, g1⟩ := fill_part (pPlaces[·]?) 0 0 32 (bA x) (pA 0 0) [(1, .agg (bA y))] rfl (bA_size x) (by rw [pA_size]; decide)
 obtain ⟨c2, e2, s2, g2⟩ := fill_part (pPlaces[·]?) 1 32 32 (bA y) c1 [] rfl (bA_size y) (by rw [s1, pA_size]; decide)
 rw [e1, e2, Instr.fill, Option.some_inj]
 apply Array.ext_getElem?
 intro k
 rw [g2 k, g1 k, pA_get, pA_get]
 by_cases h1 : k < 32
 ·rw [if_neg (by omega), if_pos (by omega), if_pos h1, Nat.sub_zero]
 ·rw [if_neg h1]
  by_cases h2 : k < 64
  ·rw [if_pos (by omega), if_neg h1]
  ·rw [if_neg (by omega), if_neg (by omega), if_neg h1, bA_past (by omega), bA_past (by omega)]
theorem fill_p1 (y : Nat) : Instr.fill (pPlaces[·]?) (pA 0 0) [(1, .agg (bA y))] = some (pA 0 y) := by
 obtain ⟨c2, e2, s2, g2⟩ := fill_part (pPlaces[·]?) 1 32 32 (bA y) (pA 0 0) [] rfl (bA_size y) (by rw [pA_size]; decide)
 rw [e2, Instr.fill, Option.some_inj]
 apply Array.ext_getElem?
 intro k
 rw [g2 k, pA_get, pA_get]
 by_cases h1 : k < 32
 ·rw [if_neg (by omega), if_pos h1, if_pos h1]
 ·rw [if_neg h1, if_neg h1]
  by_cases h2 : k < 64
  ·rw [if_pos (by omega)]
  ·rw [if_neg (by omega), bA_past (by omega), bA_past (by omega)]
theorem fill_t (x y z : Nat) : Instr.fill (tPlaces[·]?) (tA 0 0 0) [(0, .agg (bA x)), (1, .agg (bA y)), (2, .agg (bA z))] = some (tA x y z) := by
 obtain ⟨c1, e1, s1, g1⟩ := fill_part (tPlaces[·]?) 0 0 32 (bA x) (tA 0 0 0) [(1, .agg (bA y)), (2, .agg (bA z))] rfl (bA_size x) (by rw [tA_size]; decide)
 obtain ⟨c2, e2, s2, g2⟩ := fill_part (tPlaces[·]?) 1 32 32 (bA y) c1 [(2, .agg (bA z))] rfl (bA_size y) (by rw [s1, tA_size]; decide)
 obtain ⟨c3, e3, s3, g3⟩ := fill_part (tPlaces[·]?) 2 64 32 (bA z) c2 [] rfl (bA_size z) (by rw [s2, s1, tA_size]; decide)
 rw [e1, e2, e3, Instr.fill, Option.some_inj]
 apply Array.ext_getElem?
 intro k
 rw [g3 k, g2 k, g1 k, tA_get, tA_get]
 by_cases h1 : k < 32
 ·rw [if_neg (by omega), if_neg (by omega), if_pos (by omega), if_pos h1, Nat.sub_zero]
 ·rw [if_neg h1]
  by_cases h2 : k < 64
  ·rw [if_neg (by omega), if_pos (by omega), if_pos h2, if_neg h1]
  ·rw [if_neg h2]
   by_cases h3 : k < 96
   ·rw [if_pos (by omega), if_neg h1, if_neg h2]
   ·rw [if_neg (by omega), if_neg (by omega), if_neg (by omega), if_neg h1, if_neg h2, bA_past (by omega), bA_past (by omega)]
/-- A variable that was just made goes to its place in the list. -/
theorem Vars.mv {w0 w : World} {v : AV} {l : List AV} (h : Vars w0 w (v :: l)) (k : Nat) (hk : k ≤ l.length) : Vars w0 w (l.insertIdx k v) := by
 have hp := List.perm_insertIdx v l hk
 exact ⟨h.bel, fun u hu => h.low u (hp.mem_iff.1 hu), fun u hu => h.holds u (hp.mem_iff.1 hu), (hp.pairwise_iff (fun {a b} => Ne.symm)).2 h.apart⟩
section
variable {P : Program} {ops : Array Oper} {Q : Exit → Act → World → Prop} {md : Region.Mode} {S : World → Prop}
/-- What is owed for each of several operations that may come up. -/
def AvAll (P : Program) (md : Region.Mode) (ops : Array Oper) (Q : Exit → Act → World → Prop) (S : World → Prop) (fuel : Nat) (listed : Array Bool) (a : Act) (w : World) : List Nat → Prop
 | [] => True
 | i :: is => (∃ o, ops[i]? = some o ∧ Region.wanted o (yielded ops a.tmps) = true ∧ ∃ L', listed.setIfInBounds i true = L' ∧
   ∀ K' : Act → World → Prop, (∀ a w1, S w1 → wpAnyH P md ops Q S fuel L' a w1 → K' a w1) → Oper.wp P o a w K' Q) ∧ AvAll P md ops Q S fuel listed a w is
theorem avAll_mem {fuel : Nat} {listed : Array Bool} {a : Act} {w : World} : ∀ {is : List Nat}, AvAll P md ops Q S fuel listed a w is → ∀ i ∈ is, ∃ o, ops[i]? = some o ∧ Region.wanted o (yielded ops a.tmps) = true ∧ ∃ L', listed.setIfInBounds i true = L' ∧
   ∀ K' : Act → World → Prop, (∀ a w1, S w1 → wpAnyH P md ops Q S fuel L' a w1 → K' a w1) → Oper.wp P o a w K' Q
 | _ :: _, h, i, hi => by
  rcases List.mem_cons.1 hi with rfl | h1
  ·exact h.1
  ·exact avAll_mem h.2 i h1
theorem av_ops (is : List Nat) {fuel : Nat} {listed : Array Bool} {a : Act} {w : World} (hr : Region.ready md ops listed = is) (hne : is ≠ []) (h : AvAll P md ops Q S fuel listed a w is) : wpAnyH P md ops Q S (fuel + 1) listed a w := by
 refine wpAnyH_all hr hne fun j hj => ?_
 obtain ⟨o, ho, hw, L', rfl, hh⟩ := avAll_mem h j hj
 refine wpOp_step ho fun K' hK => ?_
 rw [if_pos hw]
 exact hh K' fun a w1 hs hx => hK a w1 ⟨hs, hx⟩
theorem av_cons {i : Nat} {is : List Nat} {fuel : Nat} {listed : Array Bool} {a : Act} {w : World} (L' : Array Bool) {o : Oper} (ho : ops[i]? = some o) (hw : Region.wanted o (yielded ops a.tmps) = true) (hl : listed.setIfInBounds i true = L')
  (h : ∀ K' : Act → World → Prop, (∀ a w1, S w1 → wpAnyH P md ops Q S fuel L' a w1 → K' a w1) → Oper.wp P o a w K' Q) (h2 : AvAll P md ops Q S fuel listed a w is) : AvAll P md ops Q S fuel listed a w (i :: is) :=
 ⟨⟨o, ho, hw, L', hl, h⟩, h2⟩
theorem av_nil {fuel : Nat} {listed : Array Bool} {a : Act} {w : World} : AvAll P md ops Q S fuel listed a w [] := trivial
/-- The list of what has come up, in another form. -/
theorem av_listed {fuel : Nat} {L L' : Array Bool} {a : Act} {w : World} (h : L = L') (hh : wpAnyH P md ops Q S fuel L' a w) : wpAnyH P md ops Q S fuel L a w := by rw [h]; exact hh
end
theorem av_once22 {G : Nat → Nat → World → Prop} {Vg : Nat → Nat → World → Prop} {R : Prop} (k : (∀ g h w, Vg g h w → G g h w) → R) (h : ∀ g h w, Vg g h w → G g h w) : R := k h
theorem av_once33 {G : Nat → Nat → Nat → World → Prop} {Vg : Nat → Nat → Nat → World → Prop} {R : Prop} (k : (∀ g h i w, Vg g h i w → G g h i w) → R) (h : ∀ g h i w, Vg g h i w → G g h i w) : R := k h
theorem Tryz.szP : (Tryz.prog.info? 28).map (·.size) = some 64 := by kernel_rfl
theorem zeroP (w : World) : (zeroValue 28).run Tryz.prog w = .ok (.agg (pA 0 0)) w := by rw [pA_zero]; kernel_rfl
theorem builtP (parts : List (Nat × Value)) : Tryz.prog.built 28 parts = Instr.fill (pPlaces[·]?) (pA 0 0) parts := by rw [pA_zero]; kernel_rfl
theorem built_P (x y : Nat) : Tryz.prog.built 28 [(0, .agg (bA x)), (1, .agg (bA y))] = some (pA x y) := by rw [builtP, fill_p]
theorem built_P1 (y : Nat) : Tryz.prog.built 28 [(1, .agg (bA y))] = some (pA 0 y) := by rw [builtP, fill_p1]
theorem built_P0 : Tryz.prog.built 28 [] = some (pA 0 0) := by rw [builtP, Instr.fill]
theorem run_equalB (D p q : Nat) (hD : 2 ≤ D) (hp : p < 2 ^ 256) (hq : q < 2 ^ 256) (w : World) : (Op.equalIn D 22 (.agg (bA p)) (.agg (bA q))).run Tryz.prog w = .ok (decide (p = q)) w := by
 obtain ⟨d, rfl⟩ : ∃ d, D = d + 2 := ⟨D - 2, by omega⟩
 rw [bA_def, bA_def, run_equalV Tryz.underlying22 Tryz.underlying5 Tryz.sz8 _ _ (digL_length _ _) (digL_length _ _), dec_b hp hq]
theorem eqFields_two {P : Program} {D T : Nat} {X Y x y x' y' : Array Value} {f g : Field} {b0 b1 : Bool} {w : World} (hf : f.name ≠ "_") (hg : g.name ≠ "_") (p0 : (part f.type X f.offset).run P w = .ok (.agg x) w) (p1 : (part g.type X g.offset).run P w = .ok (.agg y) w)
  (r0 : (part f.type Y f.offset).run P w = .ok (.agg x') w) (r1 : (part g.type Y g.offset).run P w = .ok (.agg y') w) (e0 : (Op.equalIn D f.type (.agg x) (.agg x')).run P w = .ok b0 w) (e1 : (Op.equalIn D g.type (.agg y) (.agg y')).run P w = .ok b1 w) :
  (Op.eqFields D X Y [f, g]).run P w = .ok (b0 && b1) w := by
 cases b0 <;> cases b1 <;> simp [Op.eqFields, hf, hg, p0, p1, r0, r1, e0, e1]
theorem run_equalP (x y x' y' : Nat) (hx : x < 2 ^ 256) (hy : y < 2 ^ 256) (hx' : x' < 2 ^ 256) (hy' : y' < 2 ^ 256) (w : World) : (Op.equalIn 10000 28 (.agg (pA x y)) (.agg (pA x' y'))).run Tryz.prog w = .ok (decide (x = x') && decide (y = y')) w := by
 obtain ⟨fs, hfs⟩ : ∃ fs, Tryz.prog.underlying 28 = some (.struct fs) := ⟨_, Tryz.underlying28⟩
 have hf : Tryz.prog.fieldsOf 28 = fs := by unfold Program.fieldsOf; rw [hfs]
 rw [run_equalIn_agg (d := 9999) w _ _ _ (by rw [hf]; exact hfs) (by kernel_rfl), hf]
 rw [Tryz.underlying28] at hfs
 cases hfs
 have p0 := run_partV (P := Tryz.prog) (w := w) (pA_part0 x y) Tryz.underlying22 Tryz.szB (bA_size _) (by rw [pA_size]; decide)
 have p1 := run_partV (P := Tryz.prog) (w := w) (pA_part1 x y) Tryz.underlying22 Tryz.szB (bA_size _) (by rw [pA_size]; decide)
 have r0 := run_partV (P := Tryz.prog) (w := w) (pA_part0 x' y') Tryz.underlying22 Tryz.szB (bA_size _) (by rw [pA_size]; decide)
 have r1 := run_partV (P := Tryz.prog) (w := w) (pA_part1 x' y') Tryz.underlying22 Tryz.szB (bA_size _) (by rw [pA_size]; decide)
 exact eqFields_two (T := 0) (by decide) (by decide) p0 p1 r0 r1 (run_equalB 9999 x x' (by decide) hx hx' w) (run_equalB 9999 y y' (by decide) hy hy' w)
theorem exec_neqP {a : Act} {o : Oper} {w : World} {T' : TypeId} (u v : Operand) (ho : o.op = .binOp .neq 28 u v T') (b : Bool) (x y x' y' : Nat) (hb : (decide (x = x') && decide (y = y')) = !b) (hu : a.eval u = .agg (pA x y)) (hv : a.eval v = .agg (pA x' y')) (hx : (x < 2 ^ 256 ∧ y < 2 ^ 256)) (hx' : (x' < 2 ^ 256 ∧ y' < 2 ^ 256)) : (execOp a.eval o).run Tryz.prog w = .ok (.value (.bool b)) w := by
 unfold execOp
 simp only [ho, hu, hv, Sem.run_bind, Sem.run_pure, run_eqGuard_agg w .neq _ u v _ _ (show Tryz.prog.eqGuardType Tryz.prog.depth 28 = false by kernel_rfl), Result.andThen_ok, run_neq_struct, run_equalP x y x' y' hx.1 hx.2 hx'.1 hx'.2 w, hb, Bool.not_not]
/-- The curve's number lies in its variable. -/
def DAt (w : World) : Prop := ∃ T fr, w.heap[0]? = some (.cells (bA dN) T fr)
theorem DAt.below {w w' : World} {B : Nat} (h : DAt w) (q : Below B w w') (hB : w.heap.size ≤ B) : DAt w' := by
 obtain ⟨T, fr, h⟩ := h
 exact ⟨T, fr, by rw [q.block _ (Nat.lt_of_lt_of_le (Array.getElem?_eq_some_iff.1 h).1 hB)]; exact h⟩
theorem DAt.of {w w' : World} {l : List AV} (h : DAt w) (V : Vars w w' l) : DAt w' := h.below V.bel (Nat.le_refl _)
theorem exec_loadG {a : Act} {o : Oper} {w : World} (h : DAt w) (x : Operand) (ho : o.op = .load 22 x) (hx : a.eval x = .pointer (some ⟨0, 0, none⟩)) : (execOp a.eval o).run Tryz.prog w = .ok (.value (.agg (bA dN))) w := by
 obtain ⟨T, fr, h⟩ := h
 unfold execOp
 simp only [ho, hx, Instr.loadAt, Instr.sureAddr, Sem.run_bind, Sem.run_pure, Result.andThen_ok, run_loadVar_row w _ T 22 (bA dN) fr _ h Tryz.underlying22 rfl (by rw [Tryz.szB, bA_size])]
theorem Tryz.szT : (Tryz.prog.info? 99).map (·.size) = some 96 := by kernel_rfl
theorem zeroT (w : World) : (zeroValue 99).run Tryz.prog w = .ok (.agg (tA 0 0 0)) w := by rw [tA_zero]; kernel_rfl
theorem builtT (parts : List (Nat × Value)) : Tryz.prog.built 99 parts = Instr.fill (tPlaces[·]?) (tA 0 0 0) parts := by rw [tA_zero]; kernel_rfl
theorem built_T (x y z : Nat) : Tryz.prog.built 99 [(0, .agg (bA x)), (1, .agg (bA y)), (2, .agg (bA z))] = some (tA x y z) := by rw [builtT, fill_t]
end Go.Proofs.YthangiocheodoaaGreatDoor.N

/-
 Bytes of numbers in variables: one is read, one is written.
-/
namespace Go.Proofs.YthangiocheodoaaGreatDoor.N
open Go.RowKit
set_option linter.unusedVariables false
set_option maxRecDepth 8192

theorem pA_byte (x y j : Nat) (hj : j < 32) : (pA x y)[j]? = some (.int .u8 ((x / 256 ^ j % 256 : Nat) : Int)) := by rw [pA_get, if_pos hj, bA_get x j hj]
theorem b255 : (256 : Nat) ^ 31 * 128 = 2 ^ 255 := by decide
/-- The last byte, more by 128, without its highest bit. -/
theorem set_high {y : Nat} (hy : y < 2 ^ 255) : y / 256 ^ 31 % 256 < 128 ∧ (digL y 32).set 31 (y / 256 ^ 31 % 256 + 128) = digL (y + 2 ^ 255) 32 := by
 have h0 : y < 2 ^ 256 := Nat.lt_trans hy (by rw [two_255]; have := Nat.two_pow_pos 255; omega)
 have h1 : y / 256 ^ 31 < 128 := Nat.div_lt_of_lt_mul (by rw [b255]; exact hy)
 have h2 : y / 256 ^ 31 % 256 = y / 256 ^ 31 := Nat.mod_eq_of_lt (by omega)
 refine ⟨by omega, ?_⟩
 rw [h2, digL_set31 h0 (by omega)]
 congr 1
 have h3 := Nat.div_add_mod y (256 ^ 31)
 rw [← b255, Nat.add_mul]
 rw [Nat.mul_comm] at h3
 generalize 256 ^ 31 = A at *
 generalize y / A = q at *
 rw [Nat.mul_comm A 128]
 generalize q * A = m at *
 generalize 128 * A = n at *
 omega
theorem set_low {b : Nat} (hb : b < 2 ^ 256) : (digL b 32).set 31 (b / 256 ^ 31 % 256 % 128) = digL (b % 2 ^ 255) 32 := by
 have h1 : b / 256 ^ 31 < 256 := Nat.div_lt_of_lt_mul (by rw [show 256 ^ 31 * 256 = 2 ^ 256 by decide]; exact hb)
 have h2 : b / 256 ^ 31 % 256 = b / 256 ^ 31 := Nat.mod_eq_of_lt h1
 rw [h2, digL_set31 hb (by omega)]
 congr 1
 rw [← b255, Nat.mod_mul, Nat.mul_comm (256 ^ 31)]
theorem top_bit {b : Nat} (hb : b < 2 ^ 256) : b / 256 ^ 31 % 256 / 128 = b / 2 ^ 255 := by
 have h1 : b / 256 ^ 31 < 256 := Nat.div_lt_of_lt_mul (by rw [show 256 ^ 31 * 256 = 2 ^ 256 by decide]; exact hb)
 rw [Nat.mod_eq_of_lt h1, Nat.div_div_eq_div_mul, b255]
end Go.Proofs.YthangiocheodoaaGreatDoor.N

/-
 The code of layer 17 (curve): add, sub, mul, div, third, Zero, divided.
-/
namespace Go.Proofs.YthangiocheodoaaGreatDoor.N
open Go.RowKit
set_option linter.unusedVariables false
set_option maxRecDepth 8192

set_option maxHeartbeats 800000 in
theorem cadd_any (a b : Fp) (w : World) : Calls Tryz.prog 58 #[.agg (bA a.val), .agg (bA b.val)] w fun e w' => e = .returned (.agg (bA (a + b).val)) ∧ Below w.heap.size w w' := by
 have HF : Hid (∀ w, Rt Tryz.prog 99 #[.agg (bA a.val), .agg (bA b.val)] (.tuple #[.agg (bA ((a + b).val)), .int .i64 0]) w) := fun w => by have := fAdd_yes a.val b.val w a.isLt b.isLt; rwa [← fp_add] at this
 generalize (a + b).val = r at *
 generalize a.val = x at *
 generalize b.val = y at *
 have V0 := Vars.start w
 go_enter Tryz.func58, Tryz.ntmps58
 go_wp2_with (first
  | (refine wpList_boxV V0 2 22 _ rfl rfl rfl (bA x) rfl ?_; intro w1 g2 V3)
  | (refine wpList_boxV V3 3 22 _ rfl rfl rfl (bA y) rfl ?_; intro w4 g5 V6)
  | (refine zA V6 4 rfl rfl rfl ?_; intro w7 g8 V9)
  | (refine zD V9 2 rfl 8 _ rfl rfl rfl rfl ?_)
  | (refine zD V9 1 rfl 9 _ rfl rfl rfl rfl ?_))
 refine (HF.out w7).mono ?_
 rintro e w10 ⟨rfl, q12⟩
 have V11 := V9.call q12
 clear q12 V9
 go_wp2_with (first
  | (refine zA V11 5 rfl rfl rfl ?_; intro w13 g14 V15)
  | (refine zL V15 0 rfl _ (.tmp 11) rfl rfl rfl r rfl rfl ?_; intro w16 V17)
  | (refine zD V17 0 rfl 13 _ rfl rfl rfl rfl ?_)
  | (refine zL V17 1 rfl _ (.tmp 13) rfl rfl rfl r rfl rfl ?_; intro w18 V19))
 exact bodyPost_ret (resV1 rfl _ V19 1 rfl rfl Tryz.underlying22 Tryz.szB (bA_size _)) rfl ⟨rfl, V19.bel⟩
set_option maxHeartbeats 800000 in
theorem csub_any (a b : Fp) (w : World) : Calls Tryz.prog 27 #[.agg (bA a.val), .agg (bA b.val)] w fun e w' => e = .returned (.agg (bA (a - b).val)) ∧ Below w.heap.size w w' := by
 have HF : Hid (∀ w, Rt Tryz.prog 59 #[.agg (bA a.val), .agg (bA b.val)] (.tuple #[.agg (bA ((a - b).val)), .int .i64 0]) w) := fun w => by have := fSub_yes a.val b.val w a.isLt b.isLt; rwa [← fp_sub] at this
 generalize (a - b).val = r at *
 generalize a.val = x at *
 generalize b.val = y at *
 have V0 := Vars.start w
 go_enter Tryz.func27, Tryz.ntmps27
 go_wp2_with (first
  | (refine wpList_boxV V0 2 22 _ rfl rfl rfl (bA x) rfl ?_; intro w1 g2 V3)
  | (refine wpList_boxV V3 3 22 _ rfl rfl rfl (bA y) rfl ?_; intro w4 g5 V6)
  | (refine zA V6 4 rfl rfl rfl ?_; intro w7 g8 V9)
  | (refine zD V9 2 rfl 8 _ rfl rfl rfl rfl ?_)
  | (refine zD V9 1 rfl 9 _ rfl rfl rfl rfl ?_))
 refine (HF.out w7).mono ?_
 rintro e w10 ⟨rfl, q12⟩
 have V11 := V9.call q12
 clear q12 V9
 go_wp2_with (first
  | (refine zA V11 5 rfl rfl rfl ?_; intro w13 g14 V15)
  | (refine zL V15 0 rfl _ (.tmp 11) rfl rfl rfl r rfl rfl ?_; intro w16 V17)
  | (refine zD V17 0 rfl 13 _ rfl rfl rfl rfl ?_)
  | (refine zL V17 1 rfl _ (.tmp 13) rfl rfl rfl r rfl rfl ?_; intro w18 V19))
 exact bodyPost_ret (resV1 rfl _ V19 1 rfl rfl Tryz.underlying22 Tryz.szB (bA_size _)) rfl ⟨rfl, V19.bel⟩
set_option maxHeartbeats 800000 in
theorem cmul_any (a b : Fp) (w : World) : Calls Tryz.prog 56 #[.agg (bA a.val), .agg (bA b.val)] w fun e w' => e = .returned (.agg (bA (a * b).val)) ∧ Below w.heap.size w w' := by
 have HF : Hid (∀ w, Rt Tryz.prog 94 #[.agg (bA a.val), .agg (bA b.val)] (.tuple #[.agg (bA ((a * b).val)), .int .i64 0]) w) := fun w => by have := fMul_yes a.val b.val w a.isLt b.isLt; rwa [← fp_mul] at this
 generalize (a * b).val = r at *
 generalize a.val = x at *
 generalize b.val = y at *
 have V0 := Vars.start w
 go_enter Tryz.func56, Tryz.ntmps56
 go_wp2_with (first
  | (refine wpList_boxV V0 2 22 _ rfl rfl rfl (bA x) rfl ?_; intro w1 g2 V3)
  | (refine wpList_boxV V3 3 22 _ rfl rfl rfl (bA y) rfl ?_; intro w4 g5 V6)
  | (refine zA V6 4 rfl rfl rfl ?_; intro w7 g8 V9)
  | (refine zD V9 2 rfl 8 _ rfl rfl rfl rfl ?_)
  | (refine zD V9 1 rfl 9 _ rfl rfl rfl rfl ?_))
 refine (HF.out w7).mono ?_
 rintro e w10 ⟨rfl, q12⟩
 have V11 := V9.call q12
 clear q12 V9
 go_wp2_with (first
  | (refine zA V11 5 rfl rfl rfl ?_; intro w13 g14 V15)
  | (refine zL V15 0 rfl _ (.tmp 11) rfl rfl rfl r rfl rfl ?_; intro w16 V17)
  | (refine zD V17 0 rfl 13 _ rfl rfl rfl rfl ?_)
  | (refine zL V17 1 rfl _ (.tmp 13) rfl rfl rfl r rfl rfl ?_; intro w18 V19))
 exact bodyPost_ret (resV1 rfl _ V19 1 rfl rfl Tryz.underlying22 Tryz.szB (bA_size _)) rfl ⟨rfl, V19.bel⟩
set_option maxHeartbeats 800000 in
theorem cdiv_any (a b : Fp) (hb : b ≠ 0) (w : World) : Calls Tryz.prog 33 #[.agg (bA a.val), .agg (bA b.val)] w fun e w' => e = .returned (.agg (bA (a * finv b).val)) ∧ Below w.heap.size w w' := by
 have HI : Hid (∀ w, Rt Tryz.prog 65 #[.agg (bA b.val)] (.tuple #[.agg (bA ((finv b).val)), .int .i64 0]) w) := fun w => by have := fInv_yes b.val w b.isLt (fp_pos hb); rwa [← finv_val] at this
 have HM : Hid (∀ w, Rt Tryz.prog 56 #[.agg (bA a.val), .agg (bA ((finv b).val))] (.agg (bA ((a * finv b).val))) w) := fun w => cmul_any _ _ w
 clear hb
 generalize (a * finv b).val = r at *
 generalize (finv b).val = i at *
 generalize a.val = x at *
 generalize b.val = y at *
 have V0 := Vars.start w
 go_enter Tryz.func33, Tryz.ntmps33
 go_wp2_with (first
  | (refine wpList_boxV V0 2 22 _ rfl rfl rfl (bA x) rfl ?_; intro w1 g2 V3)
  | (refine wpList_boxV V3 3 22 _ rfl rfl rfl (bA y) rfl ?_; intro w4 g5 V6)
  | (refine zA V6 4 rfl rfl rfl ?_; intro w7 g8 V9)
  | (refine zD V9 1 rfl 8 _ rfl rfl rfl rfl ?_))
 refine (HI.out w7).mono ?_
 rintro e w10 ⟨rfl, q12⟩
 have V11 := V9.call q12
 clear q12 V9
 go_wp2_with (first
  | (refine zA V11 5 rfl rfl rfl ?_; intro w13 g14 V15)
  | (refine zL V15 0 rfl _ (.tmp 10) rfl rfl rfl i rfl rfl ?_; intro w16 V17)
  | (refine zD V17 3 rfl 12 _ rfl rfl rfl rfl ?_)
  | (refine zD V17 0 rfl 13 _ rfl rfl rfl rfl ?_))
 refine (HM.out w16).mono ?_
 rintro e w18 ⟨rfl, q20⟩
 have V19 := V17.call q20
 clear q20 V17
 go_wp2_with (refine zL V19 1 rfl _ (.tmp 14) rfl rfl rfl r rfl rfl ?_; intro w21 V22)
 exact bodyPost_ret (resV1 rfl _ V22 1 rfl rfl Tryz.underlying22 Tryz.szB (bA_size _)) rfl ⟨rfl, V22.bel⟩
set_option maxHeartbeats 800000 in
theorem third_any (x y : Nat) (w : World) : Calls Tryz.prog 76 #[.agg (pA x y)] w fun e w' => e = .returned (.agg (tA x y 1)) ∧ Below w.heap.size w w' := by
 have V0 := Vars.start w
 go_enter Tryz.func76, Tryz.ntmps76
 go_wp2_with (first
  | (refine wpList_boxV V0 1 28 _ rfl rfl rfl (pA x y) rfl ?_; intro w1 g2 V3)
  | (refine wpList_allocV V3 2 99 rfl rfl rfl (tA 0 0 0) zeroT ?_; intro w4 g5 V6)
  | (refine wpList_exec rfl (exec_loadP V6 1 rfl 0 (pA_part0 _ _) _ rfl rfl Tryz.underlying22 Tryz.szB (bA_size _)) ?_)
  | (refine wpList_exec rfl (exec_loadP V6 1 rfl 32 (pA_part1 _ _) _ rfl rfl Tryz.underlying22 Tryz.szB (bA_size _)) ?_)
  | (refine wpList_buildV 7 22 _ rfl rfl rfl (bA 1) (built_B 1 (by decide)) ?_)
  | (refine wpList_buildV 8 99 _ rfl rfl rfl (tA x y 1) (built_T _ _ _) ?_)
  | (refine wpList_storeV V6 0 rfl _ (.tmp 8) rfl rfl rfl (tA x y 1) rfl rfl Tryz.szT (tA_size _ _ _) (tA_size _ _ _) (tA_one _ _ _) ?_; intro w7 V8))
 exact bodyPost_ret (resS1 rfl _ V8 0 rfl rfl Tryz.underlying99 Tryz.szT (tA_size _ _ _)) rfl ⟨rfl, V8.bel⟩
set_option maxHeartbeats 800000 in
theorem czero_any (w : World) : Calls Tryz.prog 136 #[] w fun e w' => e = .returned (.agg (pA 0 1)) ∧ Below w.heap.size w w' := by
 have V0 := Vars.start w
 go_enter Tryz.func136, Tryz.ntmps136
 go_wp2_with (first
  | (refine wpList_allocV V0 0 28 rfl rfl rfl (pA 0 0) zeroP ?_; intro w1 g2 V3)
  | (refine wpList_buildV 1 22 _ rfl rfl rfl (bA 1) (built_B 1 (by decide)) ?_)
  | (refine wpList_buildV 2 28 _ rfl rfl rfl (pA 0 1) (built_P1 _) ?_)
  | (refine wpList_storeV V3 0 rfl _ (.tmp 2) rfl rfl rfl (pA 0 1) rfl rfl Tryz.szP (pA_size _ _) (pA_size _ _) (pA_one _ _) ?_; intro w4 V5))
 exact bodyPost_ret (resS1 rfl _ V5 0 rfl rfl Tryz.underlying28 Tryz.szP (pA_size _ _)) rfl ⟨rfl, V5.bel⟩
set_option maxHeartbeats 1600000 in
theorem divided_any (t : T3) (p : Pt) (ht : Stands t p) (w : World) : Calls Tryz.prog 78 #[.agg (tA t.x.val t.y.val t.z.val)] w fun e w' => e = .returned (.agg (pA p.x.val p.y.val)) ∧ Below w.heap.size w w' := by
 have h1 := ht.div
 have hz := ht.z
 have HD : Hid (∀ w, Rt Tryz.prog 33 #[.agg (bA 1), .agg (bA t.z.val)] (.agg (bA ((1 * finv t.z).val))) w) := fun w => cdiv_any 1 t.z hz w
 have HX : Hid (∀ w, Rt Tryz.prog 56 #[.agg (bA t.x.val), .agg (bA ((1 * finv t.z).val))] (.agg (bA p.x.val)) w) := fun w => by have := cmul_any t.x (1 * finv t.z) w; rwa [h1.1] at this
 have HY : Hid (∀ w, Rt Tryz.prog 56 #[.agg (bA t.y.val), .agg (bA ((1 * finv t.z).val))] (.agg (bA p.y.val)) w) := fun w => by have := cmul_any t.y (1 * finv t.z) w; rwa [h1.2] at this
 clear ht h1 hz
 generalize (1 * finv t.z).val = i at *
 generalize t.x.val = x at *
 generalize t.y.val = y at *
 generalize t.z.val = z at *
 generalize p.x.val = u at *
 generalize p.y.val = v at *
 have V0 := Vars.start w
 go_enter Tryz.func78, Tryz.ntmps78
 go_wp2_with (first
  | (refine wpList_boxV V0 1 99 _ rfl rfl rfl (tA x y z) rfl ?_; intro w1 g2 V3)
  | (refine wpList_allocV V3 2 28 rfl rfl rfl (pA 0 0) zeroP ?_; intro w4 g5 V6)
  | (refine wpList_buildV 4 22 _ rfl rfl rfl (bA 1) (built_B 1 (by decide)) ?_)
  | (refine wpList_exec rfl (exec_loadP V6 1 rfl 64 (tA_part2 _ _ _) _ rfl rfl Tryz.underlying22 Tryz.szB (bA_size _)) ?_))
 refine (HD.out w4).mono ?_
 rintro e w7 ⟨rfl, q9⟩
 have V8 := V6.call q9
 clear q9 V6
 go_wp2_with (first
  | (refine zA V8 3 rfl rfl rfl ?_; intro w10 g11 V12)
  | (refine zL V12 0 rfl _ (.tmp 7) rfl rfl rfl i rfl rfl ?_; intro w13 V14))
 refine av_open (fun w' => Vars w w' [⟨g11, 22, bA i⟩, ⟨g2, 99, tA x y z⟩]) (by kernel_rfl) ?_
 have V15 := V14.drew
 refine zR [0, 1, 2, 4, 5, 6] 4 (by kernel_rfl) (fun _ _ _ _ _ h => h) ((V15.del 1)) fun K hK => ?_
 refine zC (.pointer (some ⟨g2, 0, none⟩)) rfl (by rfl) (fun w' hw' => ?_) ?_
 ·go_simp
 go_simp
 refine zC (.agg (bA x)) rfl (by rfl) (fun w' hw' => exec_loadP hw' 1 rfl 0 (tA_part0 _ _ _) _ rfl rfl Tryz.underlying22 Tryz.szB (bA_size _)) ?_
 go_simp
 refine zC (.agg (bA i)) rfl (by rfl) (fun w' hw' => zB hw' 0 rfl _ rfl rfl) ?_
 go_simp
 refine zC (.pointer (some ⟨g2, 32, none⟩)) rfl (by rfl) (fun w' hw' => ?_) ?_
 ·go_simp
 go_simp
 refine zC (.agg (bA y)) rfl (by rfl) (fun w' hw' => exec_loadP hw' 1 rfl 32 (tA_part1 _ _ _) _ rfl rfl Tryz.underlying22 Tryz.szB (bA_size _)) ?_
 go_simp
 refine zC (.agg (bA i)) rfl (by rfl) (fun w' hw' => zB hw' 0 rfl _ rfl rfl) ?_
 go_simp
 refine calm_nil (hK.out _ ?_)
 clear hK K
 refine zO 3 3 (by kernel_rfl) rfl (by rfl) fun K hK => ?_
 go_simp
 refine (HX.out w13.drew).mono ?_
 rintro e w16 ⟨rfl, q18⟩
 have V17 := V15.call q18
 refine hK _ _ ((V17.del 1)) ?_
 clear hK K q18
 refine zO 7 2 (by kernel_rfl) rfl (by rfl) fun K hK => ?_
 go_simp
 refine (HY.out w16).mono ?_
 rintro e w19 ⟨rfl, q21⟩
 have V20 := V17.call q21
 refine hK _ _ ((V20.del 1)) ?_
 clear hK K q21
 refine zR [8] 1 (by kernel_rfl) (fun _ _ _ _ _ h => h) ((V20.del 1)) fun K hK => ?_
 go_simp
 refine zC (.agg (pA u v)) rfl (by rfl) (fun w' hw' => ?_) ?_
 ·refine exec_buildV 28 _ rfl (pA u v) ?_
  exact (built_P _ _)
 go_simp
 refine calm_nil (hK.out _ ?_)
 clear hK K
 refine zO 9 0 (by kernel_rfl) rfl (by rfl) fun K hK => ?_
 refine wp_storeV V20 1 rfl _ _ rfl rfl (pA u v) rfl rfl Tryz.szP (pA_size _ _) (pA_size _ _) (pA_one _ _) (fun w22 V23 => ?_)
 refine hK _ _ ((V23.del 1)) ?_
 clear hK K
 refine wpAnyH_done (by kernel_rfl) ?_ _
 go_wp2_with fail
 exact bodyPost_ret (resS1 rfl _ V23 1 rfl rfl Tryz.underlying28 Tryz.szP (pA_size _ _)) rfl ⟨rfl, V23.bel⟩
end Go.Proofs.YthangiocheodoaaGreatDoor.N
