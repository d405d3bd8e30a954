/-
  Layer 3's reference (casemateref03): Is, Norm, at, Add, Mul, Eval, Derive give what the plain functions of polynomials give; nothing old turns.
-/
import Derived.Test.YtjiaomkjebbkpabPolyPlain
import Derived.Test.YtjiaomkjebbkpabGfRef
namespace Go.Proofs.Ytjiaomkjebbkpab
open Go.RowKit
set_option linter.unusedVariables false

theorem Try.info3 : (Try.prog.info? 3).map (fun i => (i.zero, i.size, i.bytes)) = some (some (.int .i64 0), 1, 8) := by kernel_rfl

/-- Coefficients as the program's numbers. -/
def ints (p : List Nat) : List Int := p.map fun n : Nat => (n : Int)
theorem length_ints (p : List Nat) : (ints p).length = p.length := by simp [ints]
theorem ints_get (p : List Nat) (i : Nat) : (ints p)[i]?.getD 0 = (cf p i : Int) := by
  unfold ints cf
  rw [List.getElem?_map]
  cases p[i]? <;> rfl
theorem ints_snoc (p : List Nat) (a : Nat) : ints (p ++ [a]) = ints p ++ [(a : Int)] := by simp [ints]
theorem ints_take (p : List Nat) (k : Nat) : (ints p).take k = ints (p.take k) := by simp [ints, List.map_take]
theorem ints_inj {p q : List Nat} (h : ints p = ints q) : p = q := by
  have hl : p.length = q.length := by rw [← length_ints p, h, length_ints]
  apply List.ext_getElem hl
  intro i h1 h2
  have h3 : (ints p)[i]?.getD 0 = (ints q)[i]?.getD 0 := by rw [h]
  rw [ints_get, ints_get] at h3
  unfold cf at h3
  rw [List.getElem?_eq_getElem h1, List.getElem?_eq_getElem h2] at h3
  exact Int.ofNat_inj.1 h3
/-- Are all elements? -/
def allE (zs : List Int) : Bool := zs.all isE
theorem allE_true {zs : List Int} (h : allE zs = true) : ∃ p, zs = ints p ∧ IsP p := by
  refine ⟨zs.map Int.toNat, ?_, ?_⟩
  · unfold ints
    rw [List.map_map]
    have e : zs.map ((fun n : Nat => (n : Int)) ∘ Int.toNat) = zs.map id := by
      apply List.map_congr_left
      intro x hx
      obtain ⟨n, rfl, _⟩ := isE_true (List.all_eq_true.1 h x hx)
      simp
    rw [e, List.map_id]
  · intro x hx
    obtain ⟨y, hy, rfl⟩ := List.mem_map.1 hx
    obtain ⟨n, rfl, hn⟩ := isE_true (List.all_eq_true.1 h y hy)
    simpa using hn
theorem allE_ints {p : List Nat} (h : IsP p) : allE (ints p) = true := by
  apply List.all_eq_true.2
  intro x hx
  obtain ⟨n, hn, rfl⟩ := List.mem_map.1 hx
  exact isE_nat (h n hn)
theorem allE_false (zs : List Int) (k : Nat) (hk : k < zs.length) (h : isE (zs[k]?.getD 0) = false) : allE zs = false := by
  rw [← Bool.not_eq_true]
  intro ha
  have := List.all_eq_true.1 ha _ (mem_getD zs k hk)
  rw [h] at this
  exact absurd this (by decide)
theorem allE_of (zs : List Int) (h : ∀ j, j < zs.length → isE (zs[j]?.getD 0) = true) : allE zs = true := by
  apply List.all_eq_true.2
  intro x hx
  obtain ⟨j, hj, rfl⟩ := List.mem_iff_getElem.1 hx
  have := h j hj
  rwa [List.getElem?_eq_getElem hj] at this

theorem take_norm (p : List Nat) (k : Nat) (hk : k ≤ p.length) (h : ∀ i, k ≤ i → cf p i = 0) (hl : k = 0 ∨ cf p (k - 1) ≠ 0) : p.take k = norm p := by
  have e : Eqv (p.take k) p := fun i => by
    by_cases hi : i < k
    · unfold cf; rw [List.getElem?_take, if_pos hi]
    · rw [cf_big _ _ (by simp; omega), h i (by omega)]
  rw [← norm_ext e]
  symm
  apply norm_of_last
  rcases hl with rfl | hl
  · exact .inl (by simp)
  · refine .inr ?_
    have hle : (p.take k).length = k := by simp; omega
    rw [hle, e]
    exact hl

theorem Row.take {k : IntKind} {w : World} {a : Option Addr} {len cap : Nat} {zs : List Int} (h : Row k w a len cap zs) (n : Nat) (hn : n ≤ len) : Row k w a n cap (zs.take n) := by
  have hl := h.hlen
  have hc := h.hcap
  refine ⟨by simp; omega, by omega, h.hmax, h.hnil, fun h0 => ?_⟩
  obtain ⟨b, off, rfl, hbs, hcell⟩ := h.hcell (by omega)
  refine ⟨b, off, rfl, hbs, fun i hi => ?_⟩
  rw [hcell i (by omega), List.getElem?_take, if_pos hi]
theorem norm_done {e : TypeId} {w w1 : World} {v' : Value} {p : List Nat} {k : Nat} (hT : p.take k = norm p) (hl : (ints (p.take k)).length = k)
    (hown : w1.ownsRow w.heap.size e 1 v' k ((ints (p.take k)).map (Value.int .i64))) (hgrow : w.grownBy w1 (Value.slice none 0 0).ownBlock) :
    w1.ownsRow w.heap.size e 1 v' (norm p).length ((ints (norm p)).map (Value.int .i64)) ∧ Below w.heap.size w w1 := by
  refine ⟨?_, (Below.refl _ _).grown hgrow (Nat.le_refl _) (fun j hj => by simp [Value.ownBlock] at hj)⟩
  rw [← hT]
  rw [length_ints] at hl
  rw [hl]
  exact hown

/-- The first n coefficients of a sum. -/
def sumTo (p q : List Nat) (n : Nat) : List Nat := (List.range n).map fun j => cf p j ^^^ cf q j
theorem sumTo_succ (p q : List Nat) (n : Nat) : sumTo p q (n + 1) = sumTo p q n ++ [cf p n ^^^ cf q n] := by simp [sumTo, List.range_succ]
theorem length_sumTo (p q : List Nat) (n : Nat) : (sumTo p q n).length = n := by simp [sumTo]
theorem sumTo_norm (p q : List Nat) (n : Nat) (h1 : p.length ≤ n) (h2 : q.length ≤ n) : norm (sumTo p q n) = norm (addL p q) := norm_ext fun i => by
  rw [cf_addL]
  by_cases h : i < n
  · simp [cf, sumTo, h]
  · rw [cf_big _ _ (by rw [length_sumTo]; omega), cf_big p i (by omega), cf_big q i (by omega)]; rfl

/-- The first n coefficients of a derivative. -/
def derTo (p : List Nat) (n : Nat) : List Nat := (List.range n).map fun i => if i % 2 = 0 then cf p (i + 1) else 0
theorem derTo_succ (p : List Nat) (n : Nat) : derTo p (n + 1) = derTo p n ++ [if n % 2 = 0 then cf p (n + 1) else 0] := by simp [derTo, List.range_succ]
theorem derTo_end (p : List Nat) : derTo p (p.length - 1) = derL p := rfl

theorem take_snoc_nat (p : List Nat) (k : Nat) (h : k < p.length) : p.take (k + 1) = p.take k ++ [cf p k] := by
  rw [List.take_add_one, List.getElem?_eq_getElem h]
  unfold cf
  rw [List.getElem?_eq_getElem h]; rfl
theorem isP_take {p : List Nat} (h : IsP p) (k : Nat) : IsP (p.take k) := fun x hx => h x (List.mem_of_mem_take hx)
theorem quiet_eq {P : Program} {f : FuncId} {args : Array Value} {w : World} {n : Nat} {v : Value}
    (h : Calls P f args (w.drewN n) fun e w' => e = .returned v ∧ w.drewN n = w') : Calls P f args (w.drewN n) fun e w'' => e = .returned v ∧ ∃ m, w'' = w.drewN m :=
  h.mono fun _ _ ⟨he, hm⟩ => ⟨he, n, hm.symm⟩

/-- What Mul holds behind i rounds of p's coefficients and k of q's, at the place j. -/
def mulAt (p q : List Nat) (i k j : Nat) : Nat := cf (mulL (p.take i) q) j ^^^ (if i ≤ j ∧ j < i + k then gmul (cf p i) (cf q (j - i)) else 0)
def mulTo (p q : List Nat) (i k : Nat) : List Nat := (List.range (p.length + q.length)).map (mulAt p q i k)
theorem length_mulTo (p q : List Nat) (i k : Nat) : (mulTo p q i k).length = p.length + q.length := by simp [mulTo]
theorem cf_mulTo (p q : List Nat) (i k j : Nat) (hj : j < p.length + q.length) : cf (mulTo p q i k) j = mulAt p q i k j := by simp [cf, mulTo, hj]
theorem mulTo_zero (p q : List Nat) : mulTo p q 0 0 = List.replicate (p.length + q.length) 0 := by
  apply List.ext_getElem
  · simp [mulTo]
  · intro j h1 h2
    simp only [mulTo, List.getElem_map, List.getElem_range, mulAt, List.getElem_replicate]
    rw [if_neg (by omega), Nat.xor_zero]
    rfl
theorem mulTo_step (p q : List Nat) (i k : Nat) (hk : i + k < p.length + q.length) : mulTo p q i (k + 1) = (mulTo p q i k).set (i + k) (cf (mulTo p q i k) (i + k) ^^^ gmul (cf p i) (cf q k)) := by
  have e0 := cf_mulTo p q i k (i + k) hk
  apply List.ext_getElem
  · simp [mulTo]
  · intro j h1 h2
    rw [List.getElem_set]
    by_cases e : i + k = j
    · subst e
      rw [if_pos rfl, e0]
      simp only [mulTo, List.getElem_map, List.getElem_range, mulAt]
      rw [if_pos (by omega), if_neg (by omega), Nat.xor_zero, show i + k - i = k from by omega]
    · rw [if_neg e]
      simp only [mulTo, List.getElem_map, List.getElem_range, mulAt]
      by_cases h : i ≤ j ∧ j < i + k
      · rw [if_pos h, if_pos (by omega)]
      · rw [if_neg h, if_neg (by omega)]
theorem cf_shift (n : Nat) (q : List Nat) (j : Nat) : cf (List.replicate n 0 ++ q) j = if n ≤ j then cf q (j - n) else 0 := by
  unfold cf
  by_cases h : n ≤ j
  · rw [if_pos h, List.getElem?_append_right (by simpa using h)]; simp
  · rw [if_neg h, List.getElem?_append_left (by simp; omega)]; simp [show j < n from by omega]
theorem mulL_snoc (p q : List Nat) (x : Nat) (hp : IsP p) (hq : IsP q) (hx : x < 8192) (j : Nat) : cf (mulL (p ++ [x]) q) j = cf (mulL p q) j ^^^ (if p.length ≤ j then gmul x (cf q (j - p.length)) else 0) := by
  induction p generalizing j with
  | nil =>
    show cf (addL (smul x q) [0]) j = 0 ^^^ _
    rw [cf_addL, cf_smul, Nat.zero_xor, if_pos (by simp)]
    cases j with
    | zero => rw [cf_zero, Nat.xor_zero]; rfl
    | succ j => rw [cf_succ, cf_nil, Nat.xor_zero]; rfl
  | cons y p ih =>
    show cf (addL (smul y q) (0 :: mulL (p ++ [x]) q)) j = cf (addL (smul y q) (0 :: mulL p q)) j ^^^ _
    rw [cf_addL, cf_addL, Nat.xor_assoc]
    congr 1
    cases j with
    | zero => rw [cf_zero, cf_zero, Nat.zero_xor, if_neg (by simp)]
    | succ j =>
      rw [cf_succ, cf_succ, ih (isP_cons hp).2]
      congr 1
      simp only [List.length_cons, Nat.add_le_add_iff_right, Nat.add_sub_add_right]
theorem mulTo_row (p q : List Nat) (i : Nat) (hp : IsP p) (hq : IsP q) (hi : i < p.length) : mulTo p q i q.length = mulTo p q (i + 1) 0 := by
  apply List.ext_getElem
  · simp [mulTo]
  · intro j h1 h2
    simp only [mulTo, List.getElem_map, List.getElem_range, mulAt]
    rw [if_neg (show ¬ (i + 1 ≤ j ∧ j < i + 1 + 0) by omega), Nat.xor_zero, take_snoc_nat p i hi, mulL_snoc _ q _ (isP_take hp i) hq (cf_lt hp i) j, List.length_take, Nat.min_eq_left (by omega)]
    congr 1
    by_cases h : i ≤ j
    · rw [if_pos h]
      by_cases h' : j < i + q.length
      · rw [if_pos ⟨h, h'⟩]
      · rw [if_neg (by omega), cf_big q _ (by omega), gmul_zero]
    · rw [if_neg h, if_neg (by omega)]
theorem isP_mulTo {p q : List Nat} (hp : IsP p) (i k : Nat) : IsP (mulTo p q i k) := by
  intro x hx
  obtain ⟨j, _, rfl⟩ := List.mem_map.1 hx
  refine xor_lt _ _ (cf_lt (isP_mulL q (isP_take hp i)) j) ?_
  split
  · exact gmul_lt _ _ (cf_lt hp i)
  · decide
theorem mulL_high (p q : List Nat) (j : Nat) (h : p.length + q.length ≤ j) : cf (mulL p q) j = 0 := by
  induction p generalizing j with
  | nil => rfl
  | cons x p ih =>
    rw [List.length_cons] at h
    show cf (addL (smul x q) (0 :: mulL p q)) j = 0
    rw [cf_addL, cf_smul, cf_big q j (by omega), gmul_zero, Nat.zero_xor]
    cases j with
    | zero => rfl
    | succ j => rw [cf_succ, ih j (by omega)]
theorem mulTo_end (p q : List Nat) : norm (mulTo p q p.length 0) = norm (mulL p q) := norm_ext fun j => by
  by_cases h : j < p.length + q.length
  · rw [cf_mulTo p q _ _ j h]
    unfold mulAt
    rw [if_neg (by omega), Nat.xor_zero, List.take_length]
  · rw [cf_big _ _ (by rw [length_mulTo]; omega), mulL_high p q j (by omega)]

end Go.Proofs.Ytjiaomkjebbkpab
