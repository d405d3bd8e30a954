/-
  Layer 3's reference (casemateref03): Is, Norm, at, Add, Mul, Eval, Derive give what the plain functions of polynomials give; nothing old turns.
-/
import Derived.Test.YtgamakejaknagaaGreatPackB
import Derived.Test.YtgamakejaknagaaGreatPackC
import Derived.Test.YtgamakejaknagaaGreatPackA
import Derived.Maps.Range
import Derived.Maps.RangeWalk
namespace Go.Proofs.YtgamakejaknagaaGreat
open Go.RowKit
set_option linter.unusedVariables false
set_option maxRecDepth 8192


/-- Coefficients as the program's numbers. -/
def ints (p : List Nat) : List Int := p.map fun n : Nat => (n : Int)
theorem length_ints (p : List Nat) : (ints p).length = p.length := by simp [ints]
theorem ints_get (p : List Nat) (i : Nat) : (ints p)[i]?.getD 0 = (cf p i : Int) := by
  unfold ints cf
  rw [List.getElem?_map]
  cases p[i]? <;> rfl
theorem ints_snoc (p : List Nat) (a : Nat) : ints (p ++ [a]) = ints p ++ [(a : Int)] := by simp [ints]
/-- Are all elements? -/
def allE (zs : List Int) : Bool := zs.all isE
theorem allE_ints {p : List Nat} (h : IsP p) : allE (ints p) = true := by
  apply List.all_eq_true.2
  intro x hx
  obtain ⟨n, hn, rfl⟩ := List.mem_map.1 hx
  exact isE_nat (h n hn)
theorem allE_false (zs : List Int) (k : Nat) (hk : k < zs.length) (h : isE (zs[k]?.getD 0) = false) : allE zs = false := by
  rw [← Bool.not_eq_true]
  intro ha
  have := List.all_eq_true.1 ha _ (mem_getD zs k hk)
  rw [h] at this
  exact absurd this (by decide)
theorem allE_of (zs : List Int) (h : ∀ j, j < zs.length → isE (zs[j]?.getD 0) = true) : allE zs = true := by
  apply List.all_eq_true.2
  intro x hx
  obtain ⟨j, hj, rfl⟩ := List.mem_iff_getElem.1 hx
  have := h j hj
  rwa [List.getElem?_eq_getElem hj] at this

theorem Row.take {k : IntKind} {w : World} {a : Option Addr} {len cap : Nat} {zs : List Int} (h : Row k w a len cap zs) (n : Nat) (hn : n ≤ len) : Row k w a n cap (zs.take n) := by
  have hl := h.hlen
  have hc := h.hcap
  refine ⟨by simp; omega, by omega, h.hmax, h.hnil, fun h0 => ?_⟩
  obtain ⟨b, off, rfl, hbs, hcell⟩ := h.hcell (by omega)
  refine ⟨b, off, rfl, hbs, fun i hi => ?_⟩
  rw [hcell i (by omega), List.getElem?_take, if_pos hi]
/-- The first n coefficients of a sum. -/
def sumTo (p q : List Nat) (n : Nat) : List Nat := (List.range n).map fun j => cf p j ^^^ cf q j
theorem length_sumTo (p q : List Nat) (n : Nat) : (sumTo p q n).length = n := by simp [sumTo]
theorem sumTo_norm (p q : List Nat) (n : Nat) (h1 : p.length ≤ n) (h2 : q.length ≤ n) : norm (sumTo p q n) = norm (addL p q) := norm_ext fun i => by
  rw [cf_addL]
  by_cases h : i < n
  · simp [cf, sumTo, h]
  · rw [cf_big _ _ (by rw [length_sumTo]; omega), cf_big p i (by omega), cf_big q i (by omega)]; rfl

theorem take_snoc_nat (p : List Nat) (k : Nat) (h : k < p.length) : p.take (k + 1) = p.take k ++ [cf p k] := by
  rw [List.take_add_one, List.getElem?_eq_getElem h]
  unfold cf
  rw [List.getElem?_eq_getElem h]; rfl
theorem isP_take {p : List Nat} (h : IsP p) (k : Nat) : IsP (p.take k) := fun x hx => h x (List.mem_of_mem_take hx)
theorem quiet_eq {P : Program} {f : FuncId} {args : Array Value} {w : World} {n : Nat} {v : Value}
    (h : Calls P f args (w.drewN n) fun e w' => e = .returned v ∧ w.drewN n = w') : Calls P f args (w.drewN n) fun e w'' => e = .returned v ∧ ∃ m, w'' = w.drewN m :=
  h.mono fun _ _ ⟨he, hm⟩ => ⟨he, n, hm.symm⟩

theorem mulL_snoc (p q : List Nat) (x : Nat) (hp : IsP p) (hq : IsP q) (hx : x < 8192) (j : Nat) : cf (mulL (p ++ [x]) q) j = cf (mulL p q) j ^^^ (if p.length ≤ j then gmul x (cf q (j - p.length)) else 0) := by
  induction p generalizing j with
  | nil =>
    show cf (addL (smul x q) [0]) j = 0 ^^^ _
    rw [cf_addL, cf_smul, Nat.zero_xor, if_pos (by simp)]
    cases j with
    | zero => rw [cf_zero, Nat.xor_zero]; rfl
    | succ j => rw [cf_succ, cf_nil, Nat.xor_zero]; rfl
  | cons y p ih =>
    show cf (addL (smul y q) (0 :: mulL (p ++ [x]) q)) j = cf (addL (smul y q) (0 :: mulL p q)) j ^^^ _
    rw [cf_addL, cf_addL, Nat.xor_assoc]
    congr 1
    cases j with
    | zero => rw [cf_zero, cf_zero, Nat.zero_xor, if_neg (by simp)]
    | succ j =>
      rw [cf_succ, cf_succ, ih (isP_cons hp).2]
      congr 1
      simp only [List.length_cons, Nat.add_le_add_iff_right, Nat.add_sub_add_right]
end Go.Proofs.YtgamakejaknagaaGreat

/-
  Layer 3's reference, Mul: the product's normal list; nothing old turns.
-/
namespace Go.Proofs.YtgamakejaknagaaGreat
open Go.RowKit
set_option linter.unusedVariables false
set_option maxRecDepth 8192

end Go.Proofs.YtgamakejaknagaaGreat

/-
  What the code of layer 3 (poly) must return, function by function (the face that the laws' walks lean on), and awake, add, mul, small of the laws.
-/
namespace Go.Proofs.YtgamakejaknagaaGreat
open Go.RowKit
set_option linter.unusedVariables false
set_option maxRecDepth 8192

/-- A call hands back the list r and the error number n. -/
def Hands (w : World) (r : List Nat) (n : Int) (e : Ending) (w' : World) : Prop :=
  ∃ a cap, e = .returned (.tuple #[.slice a r.length cap, .int .i64 n]) ∧ Row .i64 w' a r.length cap (ints r) ∧ Below w.heap.size w w'

structure AddC : Prop where
  no : ∀ (a c : Option Addr) (len cap len' cap' : Nat) (zs ys : List Int) (w : World), Row .i64 w a len cap zs → Row .i64 w c len' cap' ys → len ≤ 10000 → len' ≤ 10000 → (allE zs && allE ys) = false → Calls Tryz.prog 173 #[.slice a len cap, .slice c len' cap'] w (Hands w [] 1)
  yes : ∀ (a c : Option Addr) (len cap len' cap' : Nat) (p q : List Nat) (w : World), Row .i64 w a len cap (ints p) → Row .i64 w c len' cap' (ints q) → len ≤ 10000 → len' ≤ 10000 → IsP p → IsP q → Calls Tryz.prog 173 #[.slice a len cap, .slice c len' cap'] w (Hands w (norm (addL p q)) 0)
structure PMulC : Prop where
  no : ∀ (a c : Option Addr) (len cap len' cap' : Nat) (zs ys : List Int) (w : World), Row .i64 w a len cap zs → Row .i64 w c len' cap' ys → len ≤ 10000 → len' ≤ 10000 → (allE zs && allE ys) = false → Calls Tryz.prog 192 #[.slice a len cap, .slice c len' cap'] w (Hands w [] 1)
  yes : ∀ (a c : Option Addr) (len cap len' cap' : Nat) (p q : List Nat) (w : World), Row .i64 w a len cap (ints p) → Row .i64 w c len' cap' (ints q) → len ≤ 10000 → len' ≤ 10000 → IsP p → IsP q → Calls Tryz.prog 192 #[.slice a len cap, .slice c len' cap'] w (Hands w (norm (mulL p q)) 0)
structure EvalC : Prop where
  no : ∀ (a : Option Addr) (len cap : Nat) (zs : List Int) (x : Int) (w : World), Row .i64 w a len cap zs → len ≤ 10000 → (allE zs && isE x) = false → Calls Tryz.prog 175 #[.slice a len cap, .int .i64 x] w fun e w' => e = .returned (.tuple #[.int .i64 0, .int .i64 1]) ∧ Below w.heap.size w w'
  yes : ∀ (a : Option Addr) (len cap : Nat) (p : List Nat) (x : Nat) (w : World), Row .i64 w a len cap (ints p) → len ≤ 10000 → IsP p → x < 8192 → Calls Tryz.prog 175 #[.slice a len cap, .int .i64 x] w fun e w' => e = .returned (.tuple #[.int .i64 (evl p x : Nat), .int .i64 0]) ∧ Below w.heap.size w w'
end Go.Proofs.YtgamakejaknagaaGreat

/-
  The code of layer 3 (poly), as it landed: elements, times, laid, and from them Norm, Add, Mul, Div, Eval, Derive return what the face asks.
-/
namespace Go.Proofs.YtgamakejaknagaaGreat
open Go.RowKit
set_option linter.unusedVariables false
set_option maxRecDepth 8192

set_option maxHeartbeats 400000 in
theorem elements_any (a : Option Addr) (len cap : Nat) (zs : List Int) (w : World) (hr : Row .i64 w a len cap zs) :
    Calls Tryz.prog 193 #[.slice a len cap] w fun e w' => e = .returned (.bool (allE zs)) ∧ w = w' := by
  have hm := hr.hmax
  have hc := hr.hcap
  have HL : Hid (zs.length = len) := hr.hlen
  unfold maxLen at hm
  go_enter Tryz.func193, Tryz.ntmps193
  go_wp2
  go_loop [7] (fun y => ∃ i : Nat, i ≤ len ∧ y = .int .i64 i ∧ ∀ j, j < i → isE (zs[j]?.getD 0) = true) (fun y => len - (intOf y).toNat)
  case atStart => exact ⟨0, Nat.zero_le _, rfl, fun j hj => absurd hj (by omega)⟩
  case round =>
    obtain ⟨i, hi, rfl, hall0⟩ := hrel
    have hall : Hid (∀ j, j < i → isE (zs[j]?.getD 0) = true) := hall0
    clear hall0
    by_cases hlt : i < len
    · obtain ⟨b, off, rfl, hbs, hcell⟩ := hr.hcell (by omega)
      have hc1 := hcell i hlt
      clear hcell
      have hfn : Hid (isE (zs[i]?.getD 0) = false → allE zs = false) := fun hh => allE_false zs i (by have := HL.out; omega) hh
      generalize hp : zs[i]?.getD 0 = p at *
      have HP : Hid (zs[i]?.getD 0 = p) := hp
      clear hp
      have hE : Hid (isE p = decide (0 ≤ p ∧ p < 8192)) := rfl
      by_cases h1 : p < 0
      · have hf : Hid (allE zs = false) := hfn.out (by rw [hE.out, decide_eq_false_iff_not]; omega)
        go_wp2
        go_ret
        exact ⟨ret_bool hf.out.symm, rfl⟩
      · by_cases h2 : p < 8192
        · have ht : Hid (isE p = true) := by show _ = _; rw [hE.out, decide_eq_true_iff]; omega
          go_wp2
          go_round
          case rel =>
            refine ⟨i + 1, by omega, by go_num, fun j hj => ?_⟩
            by_cases e : j = i
            · subst e; rw [HP.out]; exact ht.out
            · exact hall.out j (by omega)
          case measure => simp [intOf]; omega
        · have hf : Hid (allE zs = false) := hfn.out (by rw [hE.out, decide_eq_false_iff_not]; omega)
          go_wp2
          go_ret
          exact ⟨ret_bool hf.out.symm, rfl⟩
    · have hf : Hid (allE zs = true) := allE_of zs fun j hj => hall.out j (by have := HL.out; omega)
      go_wp2
      go_ret
      exact ⟨ret_bool hf.out.symm, rfl⟩

set_option maxHeartbeats 800000 in
set_option maxRecDepth 100000 in
theorem gfMul_same (a b : Nat) (w : World) (ha : a < 8192) (hb : b < 8192) :
    Calls Tryz.prog 199 #[.int .i64 a, .int .i64 b] w fun e w' => e = .returned (.tuple #[.int .i64 (gmul a b : Nat), .int .i64 0]) ∧ w = w' := by
  go_enter Tryz.func199, Tryz.ntmps199
  go_wp2_with fail
  refine (element_any a _).mono ?_
  rintro e w' ⟨rfl, rfl⟩
  rw [isE_of a ha]
  go_wp2_with fail
  refine (element_any b _).mono ?_
  rintro e w' ⟨rfl, rfl⟩
  rw [isE_of b hb]
  go_wp2_with fail
  refine (product_any a b _ ha hb).mono ?_
  rintro e w' ⟨rfl, rfl⟩
  go_wp2_with fail
  go_ret2
  exact ⟨rfl, rfl⟩
set_option maxHeartbeats 400000 in
theorem times_any (a b : Nat) (w : World) (ha : a < 8192) (hb : b < 8192) :
    Calls Tryz.prog 198 #[.int .i64 a, .int .i64 b] w fun e w' => e = .returned (.int .i64 (gmul a b : Nat)) ∧ w = w' := by
  go_enter Tryz.func198, Tryz.ntmps198
  go_wp2_with fail
  refine (gfMul_same a b _ ha hb).mono ?_
  rintro e w' ⟨rfl, rfl⟩
  go_wp2_with fail
  go_ret
  exact ⟨rfl, rfl⟩

/-- The same world, but for what was drawn. -/
theorem grown_drewN (w : World) (n : Nat) (rb : Option Nat) : w.grownBy (w.drewN n) rb := ⟨rfl, rfl, rfl, Nat.le_refl _, fun _ _ _ => rfl⟩

/-- What laid asks of the function that it is handed: at the places from n - 1 down it answers g, keeps I, and turns no block but rb; and I lies below B. -/
structure Asks (f : Nat) (caps : Array Value) (n : Nat) (g : Nat → Nat) (B : Nat) (rb : Option Nat) (I : Nat → World → Prop) : Prop where
  body : ∀ args w, Sem.run Tryz.prog (callFunc f args) w = .ok (.enter f args) w
  call : ∀ k w, k < n → B ≤ w.heap.size → I (k + 1) w → Calls Tryz.prog f (#[.int .i64 (k : Nat)] ++ caps) w fun e w' => e = .returned (.int .i64 (g k : Nat)) ∧ I k w' ∧ w.grownBy w' rb
  keep : ∀ k w w', I k w → Below B w w' → I k w'
  low : ∀ b, rb = some b → b < B

/-- A row as it was, where another block alone was turned. -/
theorem owns_other {w w' : World} {base n : Nat} {e : TypeId} {v : Value} {xs : List Value} {rb : Option Nat} (h : w.ownsRow base e 1 v n xs) (hg : w.grownBy w' rb) (hr : ∀ b, rb = some b → b < base) : w'.ownsRow base e 1 v n xs := by
  refine ⟨h.1, ?_⟩
  rcases h.2 with h2 | ⟨g, cap, cur, hv, hb, hh, r⟩
  · exact .inl h2
  · refine .inr ⟨g, cap, cur, hv, hb, ?_, r⟩
    rw [hg.block g (lt_of_block hh) (fun e => by have := hr g e.symm; omega)]
    exact hh
theorem ints_set (p : List Nat) (k x : Nat) : (ints p).set k (x : Int) = ints (p.set k x) := by simp [ints, List.map_set]
theorem ints_replicate (n : Nat) : ints (List.replicate n 0) = List.replicate n 0 := by simp [ints]

/-- What laid holds when the places from k on are asked. -/
structure LaidAt (g : Nat → Nat) (n B : Nat) (T : TypeId) (rb : Option Nat) (I : Nat → World → Prop) (w : World) (k : Nat) (v : Value) (wr : World) : Prop where
  own : wr.ownsRow B T 1 v (outTo g n k).length ((ints (outTo g n k)).map (Value.int .i64))
  nil : outTo g n k = [] → v = .slice none 0 0
  inv : I k wr
  grown : w.grownBy wr rb

theorem below_of_grown {B : Nat} {w w' : World} {row : Option Nat} (hg : w.grownBy w' row) (hB : B ≤ w.heap.size) (hr : ∀ b, row = some b → B ≤ b) : Below B w w' := (Below.refl _ _).grown hg hB hr
theorem grown_set (w : World) (a : Addr) (u : Value) : w.grownBy (w.setCell a u) (some a.block) :=
  ⟨rfl, rfl, rfl, by simp, fun k _ h => Below.heap_setCell w a u k (fun e => h (by rw [e]))⟩
/-- A store of what was asked. -/
theorem laid_store {g : Nat → Nat} {n B : Nat} {T : TypeId} {rb : Option Nat} {I : Nat → World → Prop} {w w1 : World} {k gb L cap : Nat} {ps : List Nat} (hB : w.heap.size = B) (hkeep : ∀ k w w', I k w → Below B w w' → I k w')
    (hown : w1.ownsRow B T 1 (.slice (some ⟨gb, 0, none⟩) L cap) L ((ints ps).map (Value.int .i64))) (hgb : B ≤ gb) (hinv : I k w1) (hgr : w.grownBy w1 rb) (hps : outTo g n k = ps.set k (g k)) (hne : 0 < ps.length) :
    LaidAt g n B T rb I w k (.slice (some ⟨gb, 0, none⟩) L cap) (w1.setCell ⟨gb, k, none⟩ (.int .i64 (g k : Nat))) := by
  have hl : ps.length = L := by have := hown.1; simpa [length_ints] using this
  have R := owned_set (q := k) (x := ((g k : Nat) : Int)) hgb hown (Below.refl B w1)
  rw [ints_set, ← hps] at R
  have hlen : (outTo g n k).length = L := by rw [hps]; simpa using hl
  refine ⟨by rw [hlen]; exact R.1, fun h => ?_, hkeep k _ _ hinv R.2, hgr.andThen (grown_set w1 ⟨gb, k, none⟩ _) (fun j hj => ?_)⟩
  · rw [h] at hlen; simp at hlen; omega
  · simp at hj; left; omega

theorem nil_nil (w : World) : Sem.run Tryz.prog (binOp .eql 32 (.slice none 0 0) (.slice none 0 0)) w = .ok (.bool true) w := rfl
theorem some_nil (g n c : Nat) (w : World) : Sem.run Tryz.prog (binOp .eql 32 (.slice (some ⟨g, 0, none⟩) n c) (.slice none 0 0)) w = .ok (.bool false) w := rfl
set_option maxHeartbeats 1600000 in
set_option maxRecDepth 100000 in
theorem laid_any (f : Nat) (caps : Array Value) (z : Int) (g : Nat → Nat) (B : Nat) (rb : Option Nat) (I : Nat → World → Prop) (w : World) (hA : Asks f caps z.toNat g B rb I) (hI : I z.toNat w) (hB : w.heap.size = B) (hz : -100000 ≤ z) (hz' : z ≤ 100000) :
    Calls Tryz.prog 194 #[.int .i64 z, .func (.func f) #[] caps] w fun e w' => ∃ v, e = .returned v ∧ w'.ownsRow B 3 1 v (norm (tabL g z.toNat)).length ((ints (norm (tabL g z.toNat))).map (Value.int .i64)) ∧ I 0 w' ∧ w.grownBy w' rb := by
  obtain ⟨i0, hi0, hz0, hz1, hz2⟩ := info_parts Tryz.info3
  generalize hn : z.toNat = n at *
  have HN : Hid (z.toNat = n) := hn
  clear hn
  go_enter Tryz.func194, Tryz.ntmps194
  go_wp2
  go_loopw [5, 6] (fun v y wr => ∃ p : Int, -100001 ≤ p ∧ p < z ∧ y = .int .i64 p ∧ LaidAt g n B 3 rb I w (p + 1).toNat v wr) (fun _ y _ => (intOf y + 1).toNat)
  case atStart =>
    refine ⟨z - 1, by omega, by omega, rfl, ?_⟩
    rw [show (z - 1 + 1).toNat = n from by have := HN.out; omega]
    have e := outTo_top g n n (Nat.le_refl _)
    exact ⟨by rw [e]; exact World.ownsRow_nil _ _ _ _, fun _ => rfl, hI, World.grownBy.refl _ _⟩
  case round =>
    obtain ⟨p, hp1, hp2, rfl, hL⟩ := hrel
    by_cases h0 : 0 ≤ p
    · obtain ⟨k, rfl⟩ := Int.eq_ofNat_of_zero_le h0
      have hkn : k < n := by have := HN.out; omega
      rw [show ((k : Int) + 1).toNat = k + 1 from by omega] at hL
      obtain ⟨hown, hnil, hinv, hgr⟩ := hL
      have hsz := hgr.size
      have hBs : B ≤ wr.heap.size := by omega
      have hbody := hA.body
      go_wp2_with fail
      refine (hA.call k _ hkn hBs hinv).mono ?_
      rintro e w1 ⟨rfl, hinv1, hgr1⟩
      replace hown := owns_other hown hgr1 (fun b hb => hA.low b hb)
      replace hgr := hgr.trans hgr1
      have hsz1 := hgr.size
      clear hbody hinv hgr1 hsz hBs
      by_cases hg0 : g k = 0
      · have HS : Hid (outTo g n k = outTo g n (k + 1)) := outTo_skip g n k hg0
        rw [hg0]
        go_wp2
        go_roundw
        case rel =>
          refine ⟨(k : Int) - 1, by omega, by omega, by go_num, ?_⟩
          rw [show ((k : Int) - 1 + 1).toNat = k from by omega]
          exact ⟨by rw [HS.out]; exact hown, by rw [HS.out]; exact hnil, hinv1, hgr⟩
        case measure => simp [intOf]
      · have hq : (((g k : Nat) : Int) == 0) = false := by simp [hg0]
        by_cases hout : outTo g n (k + 1) = []
        · obtain rfl := hnil hout
          have hnn := nil_nil w1
          have HS : Hid (outTo g n k = (List.replicate (k + 1) 0).set k (g k)) := outTo_first g n k hkn hg0 hout
          have hmx : k + 1 ≤ maxLen := by unfold maxLen; omega
          have hmk : ∀ w2 : World, w2.ownsRow B 3 1 (.slice (some ⟨w1.heap.size, 0, none⟩) (k + 1) (k + 1)) (k + 1) (madeCells (Value.int IntKind.i64 0).cells ((k + 1) * 1)).toList → w1.grownBy w2 none →
              w2.cell? ⟨w1.heap.size, k, none⟩ = some (.int .i64 0) ∧ w2.frozen? ⟨w1.heap.size, k, none⟩ = false ∧ Hid (LaidAt g n B 3 rb I w k (.slice (some ⟨w1.heap.size, 0, none⟩) (k + 1) (k + 1)) (w2.setCell ⟨w1.heap.size, k, none⟩ (.int .i64 (g k : Nat)))) := fun w2 h1 h2 => by
            rw [made_ints, ← ints_replicate] at h1
            have hc := owned_cell h1 k (by omega)
            refine ⟨?_, h1.frozenAt k, ?_⟩
            · rw [hc, ints_get]; simp [cf]
            · exact laid_store hB hA.keep h1 (by omega) (hA.keep k _ _ hinv1 (below_of_grown h2 (by omega) (by simp))) (hgr.andThen h2 (by simp)) HS.out (by simp)
          clear hown hnil hinv1 hgr
          go_wp2_with (at_make; refine wpList_make_full _ rfl _ _ 32 rfl B 3 i0 (.int .i64 0) 1 Tryz.underlying32 hi0 hz0 hz1 _ _ _ _ (k + 1) rfl rfl (by omega) (by omega) (by rw [hz2]; omega) hmx (by omega) ?_; intro w2 hown2 hgrow2; obtain ⟨hcl, hfz, HR⟩ := hmk w2 hown2 hgrow2; clear hown2 hgrow2 hmk)
          go_roundw
          case rel =>
            refine ⟨(k : Int) - 1, by omega, by omega, by go_num, ?_⟩
            rw [show ((k : Int) - 1 + 1).toNat = k from by omega]
            assumption
          case measure => simp [intOf]
        · have HS : Hid (outTo g n k = (outTo g n (k + 1)).set k (g k)) := outTo_next g n k hkn hout
          have hlt := outTo_lt g n (k + 1) hout
          have hln := outTo_len g n (k + 1)
          have HO : Hid (outTo g n (k + 1) ≠ []) := hout
          clear hout
          generalize hol : (outTo g n (k + 1)).length = L at *
          have HOL : Hid ((outTo g n (k + 1)).length = L) := hol
          clear hol
          obtain ⟨a, cap, rfl, hrow⟩ := row_of_owns hown
          obtain ⟨gb, hgb, rfl⟩ := owns_head hown (by omega)
          have hnn := some_nil gb L cap w1
          have hcl := owned_cell hown k (by omega)
          have hfz := hown.frozenAt k
          rw [ints_get] at hcl
          have HR : Hid (LaidAt g n B 3 rb I w k (.slice (some ⟨gb, 0, none⟩) L cap) (w1.setCell ⟨gb, k, none⟩ (.int .i64 (g k : Nat)))) :=
            laid_store hB hA.keep hown hgb hinv1 hgr HS.out (by have := HOL.out; omega)
          have hkL : (k : Int) < (L : Int) := by omega
          clear hown hnil hinv1 hgr hrow
          go_wp2
          go_roundw
          case rel =>
            refine ⟨(k : Int) - 1, by omega, by omega, by go_num, ?_⟩
            rw [show ((k : Int) - 1 + 1).toNat = k from by omega]
            exact HR.out
          case measure => simp [intOf]
    · have HZ : Hid (outTo g n (p + 1).toNat = norm (tabL g n)) := by
        show _ = _
        rw [show (p + 1).toNat = 0 from by omega, outTo_zero]
      obtain ⟨hown, hnil, hinv, hgr⟩ := hL
      rw [HZ.out] at hown
      rw [show (p + 1).toNat = 0 from by omega] at hinv
      clear hnil
      go_wp2
      go_ret
      exact ⟨_, rfl, hown, hinv, hgr⟩

end Go.Proofs.YtgamakejaknagaaGreat

/-
  The code of layer 3 (poly), as it landed: normal, coefficient, and from them Norm, Add, Derive, Eval return what the face asks.
-/
namespace Go.Proofs.YtgamakejaknagaaGreat
open Go.RowKit
set_option linter.unusedVariables false
set_option maxRecDepth 8192

/-- A row that lies below block B. -/
structure LRow (B : Nat) (k : IntKind) (w : World) (a : Option Addr) (len cap : Nat) (zs : List Int) : Prop where
  row : Row k w a len cap zs
  low : ∀ x, a = some x → 0 < len → x.block < B
theorem LRow.below {B : Nat} {k : IntKind} {w w' : World} {a : Option Addr} {len cap : Nat} {zs : List Int} (h : LRow B k w a len cap zs) (hb : Below B w w') : LRow B k w' a len cap zs := by
  refine ⟨⟨h.row.hlen, h.row.hcap, h.row.hmax, h.row.hnil, fun h0 => ?_⟩, h.low⟩
  obtain ⟨b, off, rfl, hbs, hcell⟩ := h.row.hcell h0
  refine ⟨b, off, rfl, by have := hb.size; omega, fun i hi => ?_⟩
  rw [hb.cell (p := ⟨b, off + i, none⟩) (h.low ⟨b, off, none⟩ rfl h0)]
  exact hcell i hi
theorem Row.lt {k : IntKind} {w : World} {a : Option Addr} {len cap : Nat} {zs : List Int} (h : Row k w a len cap zs) : ∀ x, a = some x → 0 < len → x.block < w.heap.size := fun x hx h0 => by
  obtain ⟨b, off, rfl, hbs, hcell⟩ := h.hcell h0
  simp only [Option.some.injEq] at hx
  subst hx
  exact hbs
theorem Row.lrow {k : IntKind} {w w' : World} {a : Option Addr} {len cap : Nat} {zs : List Int} {B : Nat} (h : Row k w a len cap zs) (hb : Below w.heap.size w w') (hB : w.heap.size ≤ B) : LRow B k w' a len cap zs :=
  ⟨h.below hb (Nat.le_refl _), fun x hx h0 => by have := h.lt x hx h0; omega⟩
theorem Row.grown {k : IntKind} {w w' : World} {a : Option Addr} {len cap : Nat} {zs : List Int} (h : Row k w a len cap zs) (hg : w.grownBy w' none) : Row k w' a len cap zs :=
  h.below (below_of_grown hg (Nat.le_refl _) (by simp)) (Nat.le_refl _)

theorem Row.drewN {k : IntKind} {w : World} {a : Option Addr} {len cap : Nat} {zs : List Int} (h : Row k w a len cap zs) (n : Nat) : Row k (w.drewN n) a len cap zs := h.grown (grown_drewN w n none)

/-- The box of a slice, and the slice in it. -/
structure Boxed1 (bx : Nat) (B : Nat) (w : World) (a : Option Addr) (len cap : Nat) (p : List Nat) : Prop where
  box : w.cell? ⟨bx, 0, none⟩ = some (.slice a len cap)
  lrow : LRow B .i64 w a len cap (ints p)
theorem Boxed1.below {bx B : Nat} {w w' : World} {a : Option Addr} {len cap : Nat} {p : List Nat} (h : Boxed1 bx B w a len cap p) (hb : Below B w w') (hbx : bx < B) : Boxed1 bx B w' a len cap p :=
  ⟨by rw [hb.cell hbx]; exact h.box, h.lrow.below hb⟩
theorem Boxed1.grown {bx B : Nat} {w w' : World} {a : Option Addr} {len cap : Nat} {p : List Nat} (h : Boxed1 bx B w a len cap p) (hg : w.grownBy w' none) : Boxed1 bx B w' a len cap p :=
  ⟨hg.cell h.box (by simp), ⟨h.lrow.row.grown hg, h.lrow.low⟩⟩

set_option maxHeartbeats 400000 in
theorem normalAt_any (bx B : Nat) (a : Option Addr) (len cap : Nat) (p : List Nat) (k : Nat) (w : World) (hk : k < len) (h : Boxed1 bx B w a len cap p) (hsm : len ≤ 100000) :
    Calls Tryz.prog 211 #[.int .i64 k, .pointer (some ⟨bx, 0, none⟩)] w fun e w' => e = .returned (.int .i64 (cf p k : Nat)) ∧ w = w' := by
  have hbox := h.box
  obtain ⟨b, off, rfl, hbs, hcell⟩ := h.lrow.row.hcell (by omega)
  have hc1 := hcell k hk
  rw [ints_get] at hc1
  clear hcell h
  have hkk : (k : Int) < (len : Int) := by omega
  go_enter Tryz.func211, Tryz.ntmps211
  go_wp2
  go_ret
  exact ⟨rfl, rfl⟩
theorem normal_asks (bx B : Nat) (a : Option Addr) (len cap : Nat) (p : List Nat) (hbx : bx < B) (hsm : len ≤ 100000) :
    Asks 211 #[.pointer (some ⟨bx, 0, none⟩)] len (cf p) B none (fun _ w => Boxed1 bx B w a len cap p) where
  body := fun _ _ => rfl
  call := fun k w hk hB hI => (normalAt_any bx B a len cap p k w hk hI hsm).mono fun e w' ⟨h1, h2⟩ => ⟨h1, h2 ▸ hI, h2 ▸ World.grownBy.refl _ _⟩
  keep := fun k w w' hI hb => hI.below hb hbx
  low := by simp

set_option maxHeartbeats 800000 in
set_option maxRecDepth 100000 in
theorem normal_any (a : Option Addr) (len cap : Nat) (p : List Nat) (w : World) (hr : Row .i64 w a len cap (ints p)) (hsm : len ≤ 100000) :
    Calls Tryz.prog 206 #[.slice a len cap] w fun e w' => ∃ v, e = .returned v ∧ w'.ownsRow w.heap.size 3 1 v (norm p).length ((ints (norm p)).map (Value.int .i64)) ∧ Below w.heap.size w w' := by
  have HL : Hid (p.length = len) := by have := hr.hlen; rwa [length_ints] at this
  have HB : Hid (Boxed1 w.heap.size (w.heap.size + 1) (w.alloc (.cells #[.slice a len cap] 32)) a len cap p) :=
    ⟨by rw [World.cell?_alloc_at _ _ _ _ rfl]; rfl, hr.lrow (below_one _ _) (by omega)⟩
  go_enter Tryz.func206, Tryz.ntmps206
  go_wp2_with fail
  refine (laid_any _ _ (len : Int) (cf p) (w.heap.size + 1) none _ _ (normal_asks w.heap.size (w.heap.size + 1) a len cap p (by omega) hsm) HB.out (by simp) (by omega) (by omega)).mono ?_
  rintro e w1 ⟨v, rfl, hown, _, hgr⟩
  rw [show tabL (cf p) ((len : Int)).toNat = p from by rw [Int.toNat_natCast, ← HL.out]; exact tabL_cf p] at hown
  go_wp2
  go_ret
  refine ⟨_, rfl, owns_base hown (by omega), btrans (below_one w _) (below_of_grown hgr (Nat.le_refl _) (by simp))⟩

theorem hands_nil (w w' : World) (n : Int) (hb : Below w.heap.size w w') : Hands w [] n (.returned (.tuple #[.slice none 0 0, .int .i64 n])) w' :=
  ⟨none, 0, rfl, ⟨rfl, Nat.le_refl _, Nat.zero_le _, fun _ => rfl, fun h => absurd h (by simp)⟩, hb⟩
theorem hands_own {w w' : World} {e : TypeId} {B : Nat} {v : Value} {r : List Nat} (n : Int) (hown : w'.ownsRow B e 1 v r.length ((ints r).map (Value.int .i64))) (hb : Below w.heap.size w w') : Hands w r n (.returned (.tuple #[v, .int .i64 n])) w' := by
  obtain ⟨a, cap, rfl, hrow⟩ := row_of_owns hown
  exact ⟨a, cap, rfl, hrow, hb⟩

set_option maxHeartbeats 400000 in
theorem coef_any (a : Option Addr) (len cap : Nat) (p : List Nat) (k : Nat) (w : World) (hr : Row .i64 w a len cap (ints p)) (hsm : len ≤ 100000) (hk : k ≤ 1000000) :
    Calls Tryz.prog 196 #[.slice a len cap, .int .i64 k] w fun e w' => e = .returned (.int .i64 (cf p k : Nat)) ∧ w = w' := by
  by_cases hlt : k < len
  · obtain ⟨b, off, rfl, hbs, hcell⟩ := hr.hcell (by omega)
    have hc1 := hcell k hlt
    rw [ints_get] at hc1
    clear hcell
    have hkk : (k : Int) < (len : Int) := by omega
    go_enter Tryz.func196, Tryz.ntmps196
    go_wp2
    go_ret
    exact ⟨rfl, rfl⟩
  · have HZ : Hid (cf p k = 0) := cf_big p k (by have := hr.hlen; rw [length_ints] at this; omega)
    have hkk : (len : Int) ≤ (k : Int) := by omega
    go_enter Tryz.func196, Tryz.ntmps196
    go_wp2
    go_ret
    exact ⟨ret_int (by rw [HZ.out]; rfl), rfl⟩

set_option maxHeartbeats 800000 in
theorem addAt_any (bx by_ B : Nat) (a c : Option Addr) (len cap len' cap' : Nat) (p q : List Nat) (k : Nat) (w : World) (hp : IsP p) (hq : IsP q) (hk : k ≤ 1000000) (h : Boxed1 bx B w a len cap p) (h' : Boxed1 by_ B w c len' cap' q) (hsm : len ≤ 100000) (hsm' : len' ≤ 100000) :
    Calls Tryz.prog 195 #[.int .i64 k, .pointer (some ⟨bx, 0, none⟩), .pointer (some ⟨by_, 0, none⟩)] w fun e w' => e = .returned (.int .i64 ((cf p k ^^^ cf q k : Nat) : Int)) ∧ w.grownBy w' none := by
  have hbox := h.box
  have hbox' := h'.box
  have hr := h.lrow.row
  have hr' := h'.lrow.row
  have c1 := cf_lt hp k
  have c2 := cf_lt hq k
  clear h h'
  go_enter Tryz.func195, Tryz.ntmps195
  go_wp2
  go_quiet (first
    | (go_at_call 196; with_reducible exact quiet_eq (coef_any a len cap p k _ (hr.drewN _) hsm hk))
    | (go_at_call 196; with_reducible exact quiet_eq (coef_any c len' cap' q k _ (hr'.drewN _) hsm' hk)))
  go_wp2
  go_ret
  exact ⟨ret_int (xor_i64 _ _ (by omega) (by omega)), grown_drewN _ _ _⟩

theorem add_asks (bx by_ B : Nat) (a c : Option Addr) (len cap len' cap' : Nat) (p q : List Nat) (hp : IsP p) (hq : IsP q) (hbx : bx < B) (hby : by_ < B) (hsm : len ≤ 100000) (hsm' : len' ≤ 100000) (n : Nat) (hn : n ≤ 100000) :
    Asks 195 #[.pointer (some ⟨bx, 0, none⟩), .pointer (some ⟨by_, 0, none⟩)] n (fun i => cf p i ^^^ cf q i) B none (fun _ w => Boxed1 bx B w a len cap p ∧ Boxed1 by_ B w c len' cap' q) where
  body := fun _ _ => rfl
  call := fun k w hk hB hI => (addAt_any bx by_ B a c len cap len' cap' p q k w hp hq (by omega) hI.1 hI.2 hsm hsm').mono fun e w' ⟨h1, h2⟩ => ⟨h1, ⟨hI.1.grown h2, hI.2.grown h2⟩, h2⟩
  keep := fun k w w' hI hb => ⟨hI.1.below hb hbx, hI.2.below hb hby⟩
  low := by simp

theorem boxes (w : World) (T : TypeId) (a c : Option Addr) (len cap len' cap' : Nat) (p q : List Nat) (hr : Row .i64 w a len cap (ints p)) (hr' : Row .i64 w c len' cap' (ints q)) :
    Boxed1 w.heap.size (w.heap.size + 2) ((w.alloc (.cells #[.slice a len cap] T)).alloc (.cells #[.slice c len' cap'] T)) a len cap p ∧
    Boxed1 (w.heap.size + 1) (w.heap.size + 2) ((w.alloc (.cells #[.slice a len cap] T)).alloc (.cells #[.slice c len' cap'] T)) c len' cap' q := by
  refine ⟨⟨?_, hr.lrow (below_two _ _ _) (by omega)⟩, ⟨?_, hr'.lrow (below_two _ _ _) (by omega)⟩⟩
  · rw [World.cell?_alloc_past _ _ _ (by simp), World.cell?_alloc_at _ _ _ _ rfl]; rfl
  · rw [World.cell?_alloc_at _ _ _ _ (by simp)]; rfl
set_option maxHeartbeats 1600000 in
set_option maxRecDepth 100000 in
theorem addC : AddC where
  no := by
    intro a c len cap len' cap' zs ys w hr hr' hsm hsm' hz
    have hr2 := hr.below (below_two w (.cells #[.slice a len cap] 32) (.cells #[.slice c len' cap'] 32)) (Nat.le_refl _)
    have hr3 := hr'.below (below_two w (.cells #[.slice a len cap] 32) (.cells #[.slice c len' cap'] 32)) (Nat.le_refl _)
    cases h1 : allE zs
    · go_enter Tryz.func173, Tryz.ntmps173
      go_wp2_with fail
      refine (elements_any _ _ _ zs _ hr2).mono ?_
      rintro e w' ⟨rfl, rfl⟩
      rw [h1]
      go_wp2_with fail
      go_ret2
      exact hands_nil _ _ _ (below_two _ _ _)
    · have h2 : allE ys = false := by rw [h1] at hz; simpa using hz
      go_enter Tryz.func173, Tryz.ntmps173
      go_wp2_with fail
      refine (elements_any _ _ _ zs _ hr2).mono ?_
      rintro e w' ⟨rfl, rfl⟩
      rw [h1]
      go_wp2_with fail
      refine (elements_any _ _ _ ys _ hr3).mono ?_
      rintro e w' ⟨rfl, rfl⟩
      rw [h2]
      go_wp2_with fail
      go_ret2
      exact hands_nil _ _ _ (below_two _ _ _)
  yes := by
    intro a c len cap len' cap' p q w hr hr' hsm hsm' hp hq
    have HL : Hid (p.length = len) := by have := hr.hlen; rwa [length_ints] at this
    have HL' : Hid (q.length = len') := by have := hr'.hlen; rwa [length_ints] at this
    have hr2 := hr.below (below_two w (.cells #[.slice a len cap] 32) (.cells #[.slice c len' cap'] 32)) (Nat.le_refl _)
    have hr3 := hr'.below (below_two w (.cells #[.slice a len cap] 32) (.cells #[.slice c len' cap'] 32)) (Nat.le_refl _)
    have HB : Hid _ := boxes w 32 a c len cap len' cap' p q hr hr'
    by_cases h12 : len' ≤ len
    · have hmx : (len' : Int) ≤ (len : Int) := by omega
      go_enter Tryz.func173, Tryz.ntmps173
      go_wp2_with fail
      refine (elements_any _ _ _ _ _ hr2).mono ?_
      rintro e w' ⟨rfl, rfl⟩
      rw [allE_ints hp]
      go_wp2_with fail
      refine (elements_any _ _ _ _ _ hr3).mono ?_
      rintro e w' ⟨rfl, rfl⟩
      rw [allE_ints hq]
      go_wp2_with fail
      refine (laid_any _ _ (len : Int) (fun i => cf p i ^^^ cf q i) (w.heap.size + 2) none _ _ (add_asks w.heap.size (w.heap.size + 1) (w.heap.size + 2) a c len cap len' cap' p q hp hq (by omega) (by omega) (by omega) (by omega) len (by omega)) HB.out (by simp) (by omega) (by omega)).mono ?_
      rintro e w1 ⟨v, rfl, hown, _, hgr⟩
      rw [show norm (tabL (fun i => cf p i ^^^ cf q i) ((len : Int)).toNat) = norm (addL p q) from sumTo_norm p q len (by have := HL.out; omega) (by have := HL'.out; omega)] at hown
      go_wp2
      go_ret2
      exact hands_own _ hown (btrans (below_two _ _ _) (below_of_grown hgr (Nat.le_refl _) (by simp)))
    · have hmx : (len : Int) < (len' : Int) := by omega
      go_enter Tryz.func173, Tryz.ntmps173
      go_wp2_with fail
      refine (elements_any _ _ _ _ _ hr2).mono ?_
      rintro e w' ⟨rfl, rfl⟩
      rw [allE_ints hp]
      go_wp2_with fail
      refine (elements_any _ _ _ _ _ hr3).mono ?_
      rintro e w' ⟨rfl, rfl⟩
      rw [allE_ints hq]
      go_wp2_with fail
      refine (laid_any _ _ (len' : Int) (fun i => cf p i ^^^ cf q i) (w.heap.size + 2) none _ _ (add_asks w.heap.size (w.heap.size + 1) (w.heap.size + 2) a c len cap len' cap' p q hp hq (by omega) (by omega) (by omega) (by omega) len' (by omega)) HB.out (by simp) (by omega) (by omega)).mono ?_
      rintro e w1 ⟨v, rfl, hown, _, hgr⟩
      rw [show norm (tabL (fun i => cf p i ^^^ cf q i) ((len' : Int)).toNat) = norm (addL p q) from sumTo_norm p q len' (by have := HL.out; omega) (by have := HL'.out; omega)] at hown
      go_wp2
      go_ret2
      exact hands_own _ hown (btrans (below_two _ _ _) (below_of_grown hgr (Nat.le_refl _) (by simp)))

theorem evl_drop (p : List Nat) (x k : Nat) (hk : k < p.length) : evl (p.drop k) x = cf p k ^^^ gmul x (evl (p.drop (k + 1)) x) := by
  rw [List.drop_eq_getElem_cons hk]
  show p[k] ^^^ _ = _
  unfold cf
  rw [List.getElem?_eq_getElem hk]; rfl
theorem isP_drop {p : List Nat} (h : IsP p) (k : Nat) : IsP (p.drop k) := fun x hx => h x (List.mem_of_mem_drop hx)

set_option maxHeartbeats 1600000 in
set_option maxRecDepth 100000 in
theorem evalC : EvalC where
  no := by
    intro a len cap zs x w hr hsm hz
    cases h1 : allE zs
    · go_enter Tryz.func175, Tryz.ntmps175
      go_wp2_with fail
      refine (elements_any _ _ _ zs _ hr).mono ?_
      rintro e w' ⟨rfl, rfl⟩
      rw [h1]
      go_wp2_with fail
      go_ret2
      exact ⟨rfl, Below.refl _ _⟩
    · have h2 : allE [x] = false := by rw [h1] at hz; simpa [allE] using hz
      have hr2 := row_new .i64 w 3 w.heap.size rfl [x] 1 rfl (by decide) #[.int .i64 x] rfl
      go_enter Tryz.func175, Tryz.ntmps175
      go_wp2_with fail
      refine (elements_any _ _ _ zs _ hr).mono ?_
      rintro e w' ⟨rfl, rfl⟩
      rw [h1]
      go_wp2_with fail
      refine (elements_any _ _ _ [x] _ hr2).mono ?_
      rintro e w' ⟨rfl, rfl⟩
      rw [h2]
      go_wp2_with fail
      go_ret2
      exact ⟨rfl, below_one _ _⟩
  yes := by
    intro a len cap p x w hr hsm hp hx
    have HL : Hid (p.length = len) := by have := hr.hlen; rwa [length_ints] at this
    have h2 : allE [(x : Int)] = true := by simp [allE, isE_nat hx]
    have hr2 := row_new .i64 w 3 w.heap.size rfl [(x : Int)] 1 rfl (by decide) #[.int .i64 x] rfl
    have hr3 := hr.below (below_one w (.cells #[.int .i64 x] 3)) (Nat.le_refl _)
    go_enter Tryz.func175, Tryz.ntmps175
    go_wp2_with fail
    refine (elements_any _ _ _ _ _ hr).mono ?_
    rintro e w' ⟨rfl, rfl⟩
    rw [allE_ints hp]
    go_wp2_with fail
    refine (elements_any _ _ _ [(x : Int)] _ hr2).mono ?_
    rintro e w' ⟨rfl, rfl⟩
    rw [h2]
    go_wp2_with fail
    go_loopw [6, 7] (fun o y wr => ∃ k : Nat, k ≤ len ∧ y = .int .i64 ((k : Int) - 1) ∧ o = .int .i64 (evl (p.drop k) x : Nat) ∧ (w.alloc (.cells #[.int .i64 x] 3)).grownBy wr none) (fun _ y _ => (intOf y + 1).toNat)
    case atStart => exact ⟨len, Nat.le_refl _, rfl, by rw [List.drop_of_length_le (by have := HL.out; omega)]; rfl, World.grownBy.refl _ _⟩
    case round =>
      obtain ⟨k, hk, rfl, rfl, hg⟩ := hrel
      by_cases h0 : k = 0
      · subst h0
        go_wp2
        go_ret2
        exact ⟨rfl, btrans (below_one _ _) (below_of_grown hg (Nat.le_refl _) (by simp))⟩
      · obtain ⟨j, rfl⟩ := Nat.exists_eq_add_one_of_ne_zero h0
        have hrr := hr3.grown hg
        obtain ⟨b, off, rfl, hbs, hcell⟩ := hrr.hcell (by omega)
        have hc1 := hcell j (by omega)
        rw [ints_get] at hc1
        clear hcell hrr
        have hjj : (j : Int) < (len : Int) := by omega
        have c1 := cf_lt hp j
        have c2 := evl_lt (isP_drop hp (j + 1)) x hx
        have HS : Hid (evl (p.drop j) x = cf p j ^^^ gmul x (evl (p.drop (j + 1)) x)) := evl_drop p x j (by have := HL.out; omega)
        generalize evl (p.drop (j + 1)) x = o at *
        have c3 := gmul_lt o x c2
        rw [show ((j + 1 : Nat) : Int) - 1 = (j : Int) from by omega]
        go_wp2
        go_quiet (first | (go_at_call 198; with_reducible exact quiet_eq (times_any o x _ c2 hx)))
        go_wp2
        go_roundw
        case rel =>
          refine ⟨j, by omega, by go_num, ?_, hg.trans (grown_drewN _ _ _)⟩
          rw [HS.out, Nat.xor_comm, gmul_comm x o hx c2, xor_i64 _ _ (by omega) (by omega)]
        case measure => simp [intOf]

end Go.Proofs.YtgamakejaknagaaGreat

/-
  The code of layer 3 (poly), as it landed: product, quotient, and from them Mul and Div return what the face asks.
-/
namespace Go.Proofs.YtgamakejaknagaaGreat
open Go.RowKit
set_option linter.unusedVariables false
set_option maxRecDepth 8192

set_option maxHeartbeats 1600000 in
set_option maxRecDepth 100000 in
theorem productAt_any (bx by_ B : Nat) (a c : Option Addr) (len cap len' cap' : Nat) (p q : List Nat) (k : Nat) (w : World) (hp : IsP p) (hq : IsP q) (hk : k ≤ 1000000) (h : Boxed1 bx B w a len cap p) (h' : Boxed1 by_ B w c len' cap' q) (hsm : len ≤ 100000) (hsm' : len' ≤ 100000) :
    Calls Tryz.prog 210 #[.int .i64 k, .pointer (some ⟨by_, 0, none⟩), .pointer (some ⟨bx, 0, none⟩)] w fun e w' => e = .returned (.int .i64 (cf (mulL p q) k : Nat)) ∧ w.grownBy w' none := by
  have HL : Hid (p.length = len) := by have := h.lrow.row.hlen; rwa [length_ints] at this
  have HL' : Hid (q.length = len') := by have := h'.lrow.row.hlen; rwa [length_ints] at this
  have HLO : ∃ lo : Nat, (lo = 0 ∧ k + 1 ≤ len') ∨ (lo = k + 1 - len' ∧ len' < k + 1) := by
    by_cases hh : k + 1 ≤ len'
    · exact ⟨0, .inl ⟨rfl, hh⟩⟩
    · exact ⟨_, .inr ⟨rfl, by omega⟩⟩
  obtain ⟨lo, hlo⟩ := HLO
  have HZ : Hid (cv p q k lo = 0) := cv_low p q k lo fun j hj => by have := HL'.out; omega
  have hlk : lo ≤ k + 1 := by omega
  have hll : k < lo + len' ∨ lo = k + 1 := by omega
  have hbox := h.box
  have hbox' := h'.box
  rcases hlo with ⟨hl1, hl2⟩ | ⟨hl1, hl2⟩
  all_goals
    go_enter Tryz.func210, Tryz.ntmps210
    go_wp2
    go_loopw [5, 6] (fun o y wr => ∃ i : Nat, lo ≤ i ∧ i ≤ k + 1 ∧ y = .int .i64 i ∧ o = .int .i64 (cv p q k i : Nat) ∧ w.grownBy wr none) (fun _ y _ => (k + 1 - intOf y).toNat)
    case atStart => exact ⟨lo, Nat.le_refl _, hlk, by subst hl1; go_num, by rw [HZ.out]; rfl, World.grownBy.refl _ _⟩
    case round =>
      obtain ⟨i, hi1, hi2, rfl, rfl, hg⟩ := hrel
      have hB1 := h.grown hg
      have hB2 := h'.grown hg
      have hb1 := hB1.box
      have hb2 := hB2.box
      by_cases hik : i ≤ k
      · by_cases hil : i < len
        · obtain ⟨b, off, rfl, hbs, hcell⟩ := hB1.lrow.row.hcell (by omega)
          obtain ⟨b', off', rfl, hbs', hcell'⟩ := hB2.lrow.row.hcell (by omega)
          have hc1 := hcell i hil
          have hc2 := hcell' (k - i) (by omega)
          rw [ints_get] at hc1 hc2
          clear hcell hcell' hB1 hB2 hbox hbox' HZ
          have c1 := cf_lt hp i
          have c2 := cf_lt hq (k - i)
          have c3 := gmul_lt (cf p i) (cf q (k - i)) c1
          have c4 := cv_lt q hp k i
          have HS : Hid (cv p q k (i + 1) = cv p q k i ^^^ gmul (cf p i) (cf q (k - i))) := rfl
          generalize cv p q k i = o at *
          have e1 : IntKind.i64.wrap ((k : Int) - (i : Int)) = (k : Int) - (i : Int) := by rw [IntKind.wrap_i64]; omega
          have e2 : ((k : Int) - (i : Int)).toNat = k - i := by omega
          have e3 : (0 : Int) ≤ (k : Int) - (i : Int) := by omega
          have e4 : (k : Int) - (i : Int) < (len' : Int) := by omega
          have e5 : (i : Int) < (len : Int) := by omega
          have e6 : (i : Int) ≤ (k : Int) := by omega
          go_wp2
          go_quiet (first | (go_at_call 198; with_reducible exact quiet_eq (times_any (cf p i) (cf q (k - i)) _ c1 c2)))
          go_wp2
          go_roundw
          case rel => exact ⟨i + 1, by omega, by omega, by go_num, by rw [HS.out, xor_i64 _ _ (by omega) (by omega)], hg.trans (grown_drewN _ _ _)⟩
          case measure => simp [intOf]; omega
        · have HE : Hid (cv p q k i = cf (mulL p q) k) := cv_stop p q hq k i hi2 (.inr (by have := HL.out; omega))
          have e5 : (len : Int) ≤ (i : Int) := by omega
          have e6 : (i : Int) ≤ (k : Int) := by omega
          go_wp2
          go_ret
          exact ⟨ret_int (by rw [HE.out]), hg⟩
      · have HE : Hid (cv p q k i = cf (mulL p q) k) := cv_stop p q hq k i hi2 (.inl (by omega))
        have e6 : (k : Int) < (i : Int) := by omega
        go_wp2
        go_ret
        exact ⟨ret_int (by rw [HE.out]), hg⟩
theorem product_asks (bx by_ B : Nat) (a c : Option Addr) (len cap len' cap' : Nat) (p q : List Nat) (hp : IsP p) (hq : IsP q) (hbx : bx < B) (hby : by_ < B) (hsm : len ≤ 100000) (hsm' : len' ≤ 100000) (n : Nat) (hn : n ≤ 100000) :
    Asks 210 #[.pointer (some ⟨by_, 0, none⟩), .pointer (some ⟨bx, 0, none⟩)] n (cf (mulL p q)) B none (fun _ w => Boxed1 bx B w a len cap p ∧ Boxed1 by_ B w c len' cap' q) where
  body := fun _ _ => rfl
  call := fun k w hk hB hI => (productAt_any bx by_ B a c len cap len' cap' p q k w hp hq (by omega) hI.1 hI.2 hsm hsm').mono fun e w' ⟨h1, h2⟩ => ⟨h1, ⟨hI.1.grown h2, hI.2.grown h2⟩, h2⟩
  keep := fun k w w' hI hb => ⟨hI.1.below hb hbx, hI.2.below hb hby⟩
  low := by simp

set_option maxHeartbeats 800000 in
set_option maxRecDepth 100000 in
theorem productP_any (a c : Option Addr) (len cap len' cap' : Nat) (p q : List Nat) (w : World) (hr : Row .i64 w a len cap (ints p)) (hr' : Row .i64 w c len' cap' (ints q)) (hp : IsP p) (hq : IsP q) (hsm : len ≤ 10000) (hsm' : len' ≤ 10000) :
    Calls Tryz.prog 205 #[.slice a len cap, .slice c len' cap'] w fun e w' => ∃ v, e = .returned v ∧ w'.ownsRow w.heap.size 3 1 v (norm (mulL p q)).length ((ints (norm (mulL p q))).map (Value.int .i64)) ∧ Below w.heap.size w w' := by
  have HL : Hid (p.length = len) := by have := hr.hlen; rwa [length_ints] at this
  have HL' : Hid (q.length = len') := by have := hr'.hlen; rwa [length_ints] at this
  have HB : Hid _ := boxes w 32 a c len cap len' cap' p q hr hr'
  go_enter Tryz.func205, Tryz.ntmps205
  go_wp2_with fail
  refine (laid_any _ _ ((len : Int) + (len' : Int) - 1) (cf (mulL p q)) (w.heap.size + 2) none _ _ (product_asks w.heap.size (w.heap.size + 1) (w.heap.size + 2) a c len cap len' cap' p q hp hq (by omega) (by omega) (by omega) (by omega) _ (by omega)) HB.out (by simp) (by omega) (by omega)).mono ?_
  rintro e w1 ⟨v, rfl, hown, _, hgr⟩
  rw [tabL_mul p q hq _ (by have := HL.out; have := HL'.out; omega)] at hown
  go_wp2
  go_ret
  exact ⟨_, rfl, owns_base hown (by omega), btrans (below_two _ _ _) (below_of_grown hgr (Nat.le_refl _) (by simp))⟩

theorem norm_mul {p q : List Nat} (hp : IsP p) (hq : IsP q) : norm (mulL (norm p) (norm q)) = norm (mulL p q) :=
  norm_ext ((mulL_right _ (norm_eqv q)).trans (mulL_left q (isP_norm hp) hp hq (norm_eqv p)))
set_option maxHeartbeats 1600000 in
set_option maxRecDepth 100000 in
theorem pmul_own (a c : Option Addr) (len cap len' cap' : Nat) (p q : List Nat) (w : World) (hr : Row .i64 w a len cap (ints p)) (hr' : Row .i64 w c len' cap' (ints q)) (hsm : len ≤ 10000) (hsm' : len' ≤ 10000) (hp : IsP p) (hq : IsP q) :
    Calls Tryz.prog 192 #[.slice a len cap, .slice c len' cap'] w fun e w' => ∃ v, e = .returned (.tuple #[v, .int .i64 0]) ∧ w'.ownsRow w.heap.size 3 1 v (norm (mulL p q)).length ((ints (norm (mulL p q))).map (Value.int .i64)) ∧ Below w.heap.size w w' := by
  have hl1 : (norm p).length ≤ 10000 := by have := norm_length_le p; have := hr.hlen; rw [length_ints] at this; omega
  have hl2 : (norm q).length ≤ 10000 := by have := norm_length_le q; have := hr'.hlen; rw [length_ints] at this; omega
  go_enter Tryz.func192, Tryz.ntmps192
  go_wp2_with fail
  refine (elements_any _ _ _ _ _ hr).mono ?_
  rintro e w' ⟨rfl, rfl⟩
  rw [allE_ints hp]
  go_wp2_with fail
  refine (elements_any _ _ _ _ _ hr').mono ?_
  rintro e w' ⟨rfl, rfl⟩
  rw [allE_ints hq]
  go_wp2_with fail
  refine (normal_any _ _ _ p _ hr (by omega)).mono ?_
  rintro e w1 ⟨v1, rfl, hown1, hb1⟩
  obtain ⟨a1, cp1, rfl, hrow1⟩ := row_of_owns hown1
  replace hr' := hr'.below hb1 (Nat.le_refl _)
  clear hown1
  go_wp2_with fail
  refine (normal_any _ _ _ q _ hr' (by omega)).mono ?_
  rintro e w2 ⟨v2, rfl, hown2, hb2⟩
  obtain ⟨a2, cp2, rfl, hrow2⟩ := row_of_owns hown2
  replace hrow1 := hrow1.below hb2 (Nat.le_refl _)
  clear hown2
  go_wp2_with fail
  refine (productP_any _ _ _ _ _ _ (norm p) (norm q) _ hrow1 hrow2 (isP_norm hp) (isP_norm hq) hl1 hl2).mono ?_
  rintro e w3 ⟨v3, rfl, hown3, hb3⟩
  rw [norm_mul hp hq] at hown3
  go_wp2_with fail
  go_ret2
  exact ⟨_, rfl, owns_base hown3 (Nat.le_trans hb1.size hb2.size), btrans hb1 (btrans hb2 hb3)⟩
set_option maxHeartbeats 1600000 in
set_option maxRecDepth 100000 in
theorem pmulC : PMulC where
  no := by
    intro a c len cap len' cap' zs ys w hr hr' hsm hsm' hz
    cases h1 : allE zs
    · go_enter Tryz.func192, Tryz.ntmps192
      go_wp2_with fail
      refine (elements_any _ _ _ zs _ hr).mono ?_
      rintro e w' ⟨rfl, rfl⟩
      rw [h1]
      go_wp2_with fail
      go_ret2
      exact hands_nil _ _ _ (Below.refl _ _)
    · have h2 : allE ys = false := by rw [h1] at hz; simpa using hz
      go_enter Tryz.func192, Tryz.ntmps192
      go_wp2_with fail
      refine (elements_any _ _ _ zs _ hr).mono ?_
      rintro e w' ⟨rfl, rfl⟩
      rw [h1]
      go_wp2_with fail
      refine (elements_any _ _ _ ys _ hr').mono ?_
      rintro e w' ⟨rfl, rfl⟩
      rw [h2]
      go_wp2_with fail
      go_ret2
      exact hands_nil _ _ _ (Below.refl _ _)
  yes := fun a c len cap len' cap' p q w hr hr' hsm hsm' hp hq => (pmul_own a c len cap len' cap' p q w hr hr' hsm hsm' hp hq).mono fun e w' ⟨v, h1, h2, h3⟩ => by subst h1; exact hands_own _ h2 h3

end Go.Proofs.YtgamakejaknagaaGreat
