/-
  The document's answer of layer 6 (casemateref06): May, Room, Whole, Raw, sector; small, tiny, turned of the laws. (Written by tools/gen/ecc_ref.py.)
-/
import Derived.Test.YtgamakejaknagaaGreatPackK
import Derived.Test.YtgamakejaknagaaGreatPackG
import Derived.Maps.OwnSet
import Derived.Maps.Ext
import Derived.DeepKeys4
import Derived.Test.YtgamakejaknagaaGreatPackA
import Derived.Test.YtgamakejaknagaaGreatPackI
import Derived.Deep.CutRange
import Derived.WalkMore
import Derived.Shelf.SlIterI.Nil
import Derived.Shelf.Bits.Mul64
import Derived.RangeFuncCalls
namespace Go.Proofs.YtgamakejaknagaaGreat
open Go.RowKit
set_option linter.unusedVariables false
set_option maxRecDepth 8192

theorem below_drews (w : World) (n : Nat) : Below w.heap.size w (w.drewN n) := ⟨rfl, rfl, rfl, Nat.le_refl _, fun _ _ => rfl⟩
set_option maxHeartbeats 1600000 in
theorem refMay_any (b p s n f : Int) (w : World) : Calls Tryz.prog 38 #[.agg #[.int .i64 b, .int .i64 p, .int .i64 s, .int .i64 n, .int .i64 f]] w fun e w' => e = .returned (.bool (mayG b p s n f)) ∧ Below w.heap.size w w' := by
  by_cases hsn : 1 ≤ s ∧ s ≤ 8 ∧ 4 ≤ n ∧ n ≤ 512
  · obtain ⟨h1, h2, h3, h4⟩ := hsn
    obtain ⟨s, rfl⟩ := Int.eq_ofNat_of_zero_le (show 0 ≤ s by omega)
    obtain ⟨n, rfl⟩ := Int.eq_ofNat_of_zero_le (show 0 ≤ n by omega)
    have hsn : s * n ≤ 8 * 512 := Nat.mul_le_mul (by omega) (by omega)
    have u1 : IntKind.i64.wrap ((s : Int) * (n : Int)) = ((s * n : Nat) : Int) := by rw [← Int.natCast_mul, IntKind.wrap_i64]; omega
    have HM : Hid (∀ x : Bool, ((1 ≤ b ∧ b ≤ 256 ∧ 2 ≤ p ∧ p ≤ 64 ∧ (n : Int) % 4 = 0 ∧ 1 ≤ f ∧ f ≤ 8 ∧ 16 ≤ s * n) ↔ x = true) → x = mayG b p s n f) := fun x h => by
      unfold mayG
      rw [← Int.natCast_mul]
      cases x
      · symm; rw [decide_eq_false_iff_not]; intro hh; have := h.1 (by omega); simp at this
      · symm; rw [decide_eq_true_iff]; have := h.2 rfl; omega
    go_enter Tryz.func38, Tryz.ntmps38
    go_wp2
    all_goals (go_ret; refine ⟨ret_bool (HM.out _ ?_), below_one _ _⟩; simp only [decide_eq_true_iff, Bool.false_eq_true, iff_false]; omega)
  · have HM : Hid (mayG b p s n f = false) := mayG_no (fun h => hsn ⟨h.2.2.2.2.1, h.2.2.2.2.2.1, h.2.2.2.2.2.2.1, h.2.2.2.2.2.2.2.1⟩)
    go_enter Tryz.func38, Tryz.ntmps38
    go_wp2
    all_goals (first | (go_ret; exact ⟨ret_bool HM.out.symm, below_one _ _⟩) | (exfalso; omega))
theorem refRoom_any (b p f : Int) (s n R : Nat) (hR : s * n = R) (hs : s ≤ 8) (hn : n ≤ 512) (w : World) : Calls Tryz.prog 39 #[.agg #[.int .i64 b, .int .i64 p, .int .i64 ((s : Nat)), .int .i64 ((n : Nat)), .int .i64 f]] w fun e w' => e = .returned (.int .i64 (R : Int)) ∧ Below w.heap.size w w' := by
  have hsn : s * n ≤ 8 * 512 := Nat.mul_le_mul hs hn
  go_enter Tryz.func39, Tryz.ntmps39
  go_wp2
  go_ret
  exact ⟨ret_int (by rw [← hR]; exact (Int.natCast_mul s n).symm), below_one _ _⟩
theorem gok_ex {b p s n f : Int} (h : mayG b p s n f = true) (hr : s * n ≤ 64) : ∃ (S N F R m W L : Nat), s = S ∧ n = N ∧ f = F ∧ GOk b p S N F R m W L := by
  obtain ⟨S, N, F, h1, h2, h3, G⟩ := gok_of h hr
  exact ⟨S, N, F, _, _, _, _, h1, h2, h3, G⟩
end Go.Proofs.YtgamakejaknagaaGreat

/-
  Maps as plain functions from key values to element values, over whatever program and element type: MapIs; what a look-up, a store, a delete and len do; and Turned: what has turned since, but for a set of blocks.
-/
namespace Go.Proofs.YtgamakejaknagaaGreat
open Go.RowKit Go.Maps
set_option linter.unusedVariables false
set_option maxRecDepth 8192

/-- An element, read as itself. -/
def rawElem (v : Value) : Option (DataW Value × List MemPlace) := some (.held v, [])

/-- Block b is a map of at most n entries: at a key value it holds what m says. -/
def MapIs (P : Program) (k : TypeId) (w : World) (b n : Nat) (m : Value → Option Value) : Prop :=
  ∃ D : DataW Value, w.ownsMap P k rawElem b n D ∧ ∀ key kl, keyOf P k key = some kl → Maps.has D kl = (m key).isSome ∧ ∀ v, m key = some v → ∀ z, D.atKey kl z = .held v

section
variable {P : Program} {k : TypeId} {w : World} {b n : Nat} {m : Value → Option Value}

theorem MapIs.mono (h : MapIs P k w b n m) {n' : Nat} (hn : n ≤ n') : MapIs P k w b n' m := by
  obtain ⟨D, h1, h2⟩ := h; exact ⟨D, h1.mono hn, h2⟩
theorem MapIs.lt (h : MapIs P k w b n m) : b < w.heap.size := by obtain ⟨D, h1, h2⟩ := h; exact h1.lt
theorem MapIs.same (h : MapIs P k w b n m) {w' : World} (hb : w'.heap[b]? = w.heap[b]?) : MapIs P k w' b n m := by
  obtain ⟨D, ⟨es, clock, h0, F, hs, hD⟩, h2⟩ := h
  exact ⟨D, ⟨es, clock, hb.trans h0, F, hs, hD⟩, h2⟩
theorem mapIs_made (P : Program) (k : TypeId) (w : World) : MapIs P k (w.alloc (.map #[] 0)) w.heap.size 0 (fun _ => none) :=
  ⟨.map [], World.ownsMap_made w P k rawElem, fun key kl hk => ⟨rfl, fun v e => by cases e⟩⟩

theorem MapIs.look_gen (h : MapIs P k w b n m) (K : Keyed P k) {t e : TypeId} (ht : P.underlying t = some (.map k e)) {z : Value} (hz : (zeroValue e).run P w = .ok z w) {key : Value} {kl : Lit} (hkey : keyOf P k key = some kl) (c : Bool) :
    (Instr.lookup t (.map (some b)) key c).run P w = .ok (if c then .tuple #[(m key).getD z, .bool (m key).isSome] else (m key).getD z) w := by
  obtain ⟨D, ⟨es, clock, hb, F, _, rfl⟩, h2⟩ := h
  obtain ⟨g1, g2⟩ := h2 key kl hkey
  rcases Maps.fit_look c K ht hz hb F hkey with ⟨hrun, _, hat⟩ | ⟨e0, y, _, _, hrun, hRv, hat, _⟩
  · have hn : m key = none := by
      cases hm : m key with
      | none => rfl
      | some v =>
        rw [Maps.has_false_of_atKey hat, hm] at g1; cases g1
    rw [hn]; simpa using hrun
  · have hs : (m key).isSome = true := by rw [← g1]; exact Maps.has_true_of_atKey hat
    obtain ⟨v, hv⟩ := Option.isSome_iff_exists.1 hs
    have e1 := g2 v hv (.nil)
    rw [hat] at e1
    have e2 : e0.val = v := by
      unfold rawElem at hRv
      have := Option.some.inj hRv
      rw [← this] at e1
      simpa using e1
    rw [hv, ← e2]; simpa using hrun

/-- 'm[k]'. -/
theorem MapIs.look (h : MapIs P k w b n m) (K : Keyed P k) {t e : TypeId} (ht : P.underlying t = some (.map k e)) {z : Value} (hz : (zeroValue e).run P w = .ok z w) {key : Value} {kl : Lit} (hkey : keyOf P k key = some kl) :
    (Instr.lookup t (.map (some b)) key false).run P w = .ok ((m key).getD z) w := by simpa using h.look_gen K ht hz hkey false
/-- 'v, ok := m[k]'. -/
theorem MapIs.look_ok (h : MapIs P k w b n m) (K : Keyed P k) {t e : TypeId} (ht : P.underlying t = some (.map k e)) {z : Value} (hz : (zeroValue e).run P w = .ok z w) {key : Value} {kl : Lit} (hkey : keyOf P k key = some kl) :
    (Instr.lookup t (.map (some b)) key true).run P w = .ok (.tuple #[(m key).getD z, .bool (m key).isSome]) w := by simpa using h.look_gen K ht hz hkey true

/-- The map with one more entry. -/
noncomputable def mput (m : Value → Option Value) (key v : Value) : Value → Option Value := by classical exact fun x => if x = key then some v else m x
/-- The map without an entry. -/
noncomputable def mdel (m : Value → Option Value) (key : Value) : Value → Option Value := by classical exact fun x => if x = key then none else m x
theorem mput_same (m : Value → Option Value) (key v : Value) : mput m key v key = some v := by unfold mput; simp
theorem mput_other (m : Value → Option Value) {key x : Value} (v : Value) (h : x ≠ key) : mput m key v x = m x := by unfold mput; simp [h]
theorem mdel_same (m : Value → Option Value) (key : Value) : mdel m key key = none := by unfold mdel; simp
theorem mdel_other (m : Value → Option Value) {key x : Value} (h : x ≠ key) : mdel m key x = m x := by unfold mdel; simp [h]

/-- 'm[k] = v'. -/
theorem MapIs.store (h : MapIs P k w b n m) (K : Keyed P k) {t e : TypeId} (ht : P.underlying t = some (.map k e)) (hn : n < maxLen) {key : Value} {kl : Lit} (hkey : keyOf P k key = some kl) (v : Value) :
    ∃ w', (Instr.mapUpdate t (.map (some b)) key v).run P w = .ok () w' ∧ MapIs P k w' b (n + 1) (mput m key v) ∧ w.grownBy w' (some b) := by
  obtain ⟨D, h1, h2⟩ := h
  obtain ⟨w', hrun, r1, r2⟩ := h1.update K ht hn hkey (show rawElem v = some (.held v, []) from rfl)
  refine ⟨w', hrun, ⟨_, r1, fun x xl hx => ?_⟩, r2⟩
  by_cases he : x = key
  · subst he
    rw [hkey] at hx; cases hx
    rw [mput_same]
    refine ⟨by rw [Maps.has_put_same h1.isMap (K.key hkey)]; rfl, fun u hu z => ?_⟩
    cases hu
    rw [Maps.atKey_put_same h1.isMap (K.key hkey)]
  · have hne : xl ≠ kl := fun e => he (K.inj hx (e ▸ hkey))
    rw [mput_other m v he, Maps.has_put_other hne]
    refine ⟨(h2 x xl hx).1, fun u hu z => ?_⟩
    rw [Maps.atKey_put_other hne]
    exact (h2 x xl hx).2 u hu z

/-- 'delete(m, k)'. -/
theorem MapIs.drop (h : MapIs P k w b n m) (K : Keyed P k) {t e : TypeId} (ht : P.underlying t = some (.map k e)) {key : Value} {kl : Lit} (hkey : keyOf P k key = some kl) (ty : TypeId) :
    ∃ w', (Builtin.delete_ #[t, k] ty #[.map (some b), key]).run P w = .ok (.tuple #[]) w' ∧ MapIs P k w' b n (mdel m key) ∧ w.grownBy w' (some b) := by
  obtain ⟨D, h1, h2⟩ := h
  obtain ⟨w', hrun, r1, r2⟩ := h1.drop K ht hkey ty
  refine ⟨w', hrun, ⟨_, r1, fun x xl hx => ?_⟩, r2.grown⟩
  by_cases he : x = key
  · subst he
    rw [hkey] at hx; cases hx
    rw [mdel_same]
    exact ⟨Maps.has_del_same, fun u hu => by cases hu⟩
  · have hne : xl ≠ kl := fun e => he (K.inj hx (e ▸ hkey))
    rw [mdel_other m he, Maps.has_del_other hne]
    refine ⟨(h2 x xl hx).1, fun u hu z => ?_⟩
    rw [Maps.atKey_del_other hne]
    exact (h2 x xl hx).2 u hu z
end

/-! ### at the operation, for the walk -/
section
variable {P : Program} (w : World) {ops : Array Oper} {rest : List Oper} {o : Oper} {a : Act} {Q : Exit → Act → World → Prop}

end

/-! ### what has turned -/
/-- But for the blocks F (and new ones) all is as it was. -/
structure Turned (F : Nat → Prop) (w w' : World) : Prop where
  os : w'.os = w.os
  tape : w'.tape = w.tape
  output : w'.output = w.output
  size : w.heap.size ≤ w'.heap.size
  block : ∀ k, k < w.heap.size → ¬ F k → w'.heap[k]? = w.heap[k]?

theorem Turned.refl (F : Nat → Prop) (w : World) : Turned F w w := ⟨rfl, rfl, rfl, Nat.le_refl _, fun _ _ _ => rfl⟩
theorem Turned.trans {F : Nat → Prop} {a b c : World} (h : Turned F a b) (k : Turned F b c) : Turned F a c :=
  ⟨k.os.trans h.os, k.tape.trans h.tape, k.output.trans h.output, Nat.le_trans h.size k.size, fun i hi hf => (k.block i (Nat.lt_of_lt_of_le hi h.size) hf).trans (h.block i hi hf)⟩
theorem Turned.mono {F G : Nat → Prop} {w w' : World} (h : Turned F w w') (hFG : ∀ k, k < w.heap.size → F k → G k) : Turned G w w' :=
  ⟨h.os, h.tape, h.output, h.size, fun k hk hg => h.block k hk (fun hf => hg (hFG k hk hf))⟩
/-- One behind the other, where the second turns what the first does, or what is new. -/
theorem Turned.andThen {F G : Nat → Prop} {a b c : World} (h : Turned F a b) (k : Turned G b c) (hG : ∀ i, G i → F i ∨ a.heap.size ≤ i) : Turned F a c :=
  ⟨k.os.trans h.os, k.tape.trans h.tape, k.output.trans h.output, Nat.le_trans h.size k.size, fun i hi hf =>
    (k.block i (Nat.lt_of_lt_of_le hi h.size) (fun hg => (hG i hg).elim hf (fun hge => by omega))).trans (h.block i hi hf)⟩
theorem Turned.of_below {w w' : World} (F : Nat → Prop) (h : Below w.heap.size w w') : Turned F w w' := ⟨h.os, h.tape, h.output, h.size, fun k hk _ => h.block k hk⟩
theorem Turned.below {F : Nat → Prop} {w w' : World} (h : Turned F w w') {B : Nat} (hB : B ≤ w.heap.size) (hF : ∀ k, F k → B ≤ k) : Below B w w' :=
  ⟨h.os, h.tape, h.output, h.size, fun k hk => h.block k (Nat.lt_of_lt_of_le hk hB) (fun hf => by have := hF k hf; omega)⟩
theorem Turned.alloc {F : Nat → Prop} {a w : World} (h : Turned F a w) (o : Obj) : Turned F a (w.alloc o) :=
  h.trans (Turned.of_below F ((Below.refl w.heap.size w).alloc (Nat.le_refl _) o))
theorem Turned.drew {F : Nat → Prop} {a w : World} (h : Turned F a w) : Turned F a w.drew := ⟨h.os, h.tape, h.output, h.size, h.block⟩
theorem Turned.setCell {F : Nat → Prop} {a w : World} (h : Turned F a w) {p : Addr} (hp : F p.block ∨ a.heap.size ≤ p.block) (u : Value) : Turned F a (w.setCell p u) := by
  have e := (Below.refl p.block w).setCell (p := p) (Nat.le_refl _) u
  refine ⟨e.os.trans h.os, e.tape.trans h.tape, e.output.trans h.output, Nat.le_trans h.size e.size, fun k hk hf => ?_⟩
  rw [Below.heap_setCell w p u k (fun e => hp.elim (fun h' => hf (e ▸ h')) (fun h' => by omega))]
  exact h.block k hk hf
theorem Turned.grown {F : Nat → Prop} {a w w' : World} {row : Option Nat} (h : Turned F a w) (hg : w.grownBy w' row) (hr : ∀ k, row = some k → F k ∨ a.heap.size ≤ k) : Turned F a w' := by
  refine ⟨hg.os.trans h.os, hg.tape.trans h.tape, hg.output.trans h.output, Nat.le_trans h.size hg.size, fun k hk hf => ?_⟩
  rw [hg.block k (Nat.lt_of_lt_of_le hk h.size) (fun e => (hr k e.symm).elim hf (fun h' => by omega))]
  exact h.block k hk hf
theorem Turned.cell {F : Nat → Prop} {w w' : World} (h : Turned F w w') {p : Addr} (hp : p.block < w.heap.size) (hF : ¬ F p.block) : w'.cell? p = w.cell? p := World.cell?_of_block (w := w) (h.block p.block hp hF)
/-- A row whose block has not turned reads as it did. -/
theorem Row.turned {k : IntKind} {w w' : World} {a : Option Addr} {len cap : Nat} {zs : List Int} {F : Nat → Prop} (h : Row k w a len cap zs) (hb : Turned F w w') (hF : 0 < len → ∀ x, a = some x → ¬ F x.block) : Row k w' a len cap zs := by
  refine ⟨h.hlen, h.hcap, h.hmax, h.hnil, fun h0 => ?_⟩
  obtain ⟨b, off, rfl, hbs, hcell⟩ := h.hcell h0
  refine ⟨b, off, rfl, by have := hb.size; omega, fun i hi => ?_⟩
  rw [hb.cell (p := ⟨b, off + i, none⟩) hbs (hF h0 ⟨b, off, none⟩ rfl)]
  exact hcell i hi
/-- A row whose block is as it was. -/
theorem Row.same {k : IntKind} {w w' : World} {b o : Nat} {len cap : Nat} {zs : List Int} (h : Row k w (some ⟨b, o, none⟩) len cap zs) (hs : w.heap.size ≤ w'.heap.size) (hb : w'.heap[b]? = w.heap[b]?) : Row k w' (some ⟨b, o, none⟩) len cap zs := by
  refine ⟨h.hlen, h.hcap, h.hmax, h.hnil, fun h0 => ?_⟩
  obtain ⟨b', off, he, hbs, hcell⟩ := h.hcell h0
  cases he
  refine ⟨b, o, rfl, by omega, fun i hi => ?_⟩
  rw [World.cell?_of_block (w := w) (show w'.heap[(⟨b, o + i, none⟩ : Addr).block]? = w.heap[(⟨b, o + i, none⟩ : Addr).block]? from hb)]
  exact hcell i hi

/-- A row that lies in none of the blocks F. -/
structure Off (F : Nat → Prop) (k : IntKind) (w : World) (a : Option Addr) (len cap : Nat) (z : List Int) : Prop where
  row : Row k w a len cap z
  off : 0 < len → ∀ x, a = some x → ¬ F x.block
theorem Off.step {F F' : Nat → Prop} {k : IntKind} {w w' : World} {a : Option Addr} {len cap : Nat} {z : List Int} (h : Off F k w a len cap z) (t : Turned F w w') (f : ∀ x, F' x → F x ∨ w.heap.size ≤ x) : Off F' k w' a len cap z := by
  refine ⟨h.row.turned t h.off, fun h0 x hx hF => ?_⟩
  rcases f _ hF with h1 | h1
  · exact h.off h0 x hx h1
  · obtain ⟨b, o, e, hb, _⟩ := h.row.hcell h0
    rw [hx] at e
    have : x.block = b := by cases e; rfl
    omega
theorem Off.below {F : Nat → Prop} {k : IntKind} {w w' : World} {a : Option Addr} {len cap : Nat} {z : List Int} (h : Off F k w a len cap z) (q : Below w.heap.size w w') : Off F k w' a len cap z := ⟨h.row.below q (Nat.le_refl _), h.off⟩
/-- A row that was there ahead of all of them. -/
theorem Off.of_old {F : Nat → Prop} {k : IntKind} {w : World} {a : Option Addr} {len cap : Nat} {z : List Int} {B : Nat} (h : Row k w a len cap z) (hb : 0 < len → ∀ x, a = some x → x.block < B) (hF : ∀ x, F x → B ≤ x) : Off F k w a len cap z :=
  ⟨h, fun h0 x hx hf => by have := hb h0 x hx; have := hF _ hf; omega⟩
theorem Row.blk_lt {k : IntKind} {w : World} {a : Option Addr} {len cap : Nat} {z : List Int} (h : Row k w a len cap z) : 0 < len → ∀ x, a = some x → x.block < w.heap.size := fun h0 x hx => by
  obtain ⟨b, o, e, hb, _⟩ := h.hcell h0
  rw [hx] at e
  have : x.block = b := by cases e; rfl
  omega

end Go.Proofs.YtgamakejaknagaaGreat

/-
  What layer 7 wants of the layers below: bch.Bits, ecc's geometry (Check, Raw), the document's May, Room, Whole and Raw. (Written by tools/gen/chip_low.py out of the templates of layers 3, 5 and 6.)
-/
namespace Go.Proofs.YtgamakejaknagaaGreat
open Go.RowKit
set_option linter.unusedVariables false
set_option maxRecDepth 8192

end Go.Proofs.YtgamakejaknagaaGreat

/-
  The library's functions that chip calls: math/bits.Mul, maps.Keys, slices.Collect (the shelf's contracts, laid in plain words), slices.Repeat (walked). (Written by tools/gen/chip_lib.py.)
-/
namespace Go.Proofs.YtgamakejaknagaaGreat
open Go.RowKit Go.Maps Go.Sort Go.Shelf
set_option linter.unusedVariables false
set_option maxRecDepth 8192

def libRen : Go.Shelf.Ren := ⟨fun | 7 => 112 | 10 => 131 | 8 => 111 | 11 => 130 | n => n, fun | 23 => 69 | 26 => 3 | 3 => 141 | 28 => 84 | 0 => 0 | 27 => 83 | 33 => 95 | 4 => 4 | 24 => 32 | n => n, fun n => n⟩
theorem keysL : SlLaysZI.n7 Tryz.prog libRen where
  mixed := by kernel_rfl
  f7 := ⟨Tryz.f112.name, by decide, Tryz.func112.trans (congrArg some (by kernel_rfl))⟩
  f10 := ⟨Tryz.f131.name, by decide, Tryz.func131.trans (congrArg some (by kernel_rfl))⟩
  t0 := Tryz.underlying0
  a0 := Tryz.isAgg0
  z0 := Tryz.sizeOf0
  v0 := Tryz.zeroValue0
  t4 := Tryz.underlying4
  a4 := Tryz.isAgg4
  z4 := Tryz.sizeOf4
  v4 := Tryz.zeroValue4
  t23 := Tryz.underlying69
  a23 := Tryz.isAgg69
  z23 := Tryz.sizeOf69
  v23 := Tryz.zeroValue69
  t26 := Tryz.underlying3
  a26 := Tryz.isAgg3
  z26 := Tryz.sizeOf3
  v26 := Tryz.zeroValue3
  t27 := Tryz.underlying83
  a27 := Tryz.isAgg83
  z27 := Tryz.sizeOf83
  v27 := Tryz.zeroValue83
  t28 := Tryz.underlying84
  a28 := Tryz.isAgg84
  z28 := Tryz.sizeOf84
  v28 := Tryz.zeroValue84
  t33 := Tryz.underlying95
  a33 := Tryz.isAgg95
  z33 := Tryz.sizeOf95
  v33 := Tryz.zeroValue95
theorem collL : SlLaysZI.n8 Tryz.prog libRen where
  mixed := by kernel_rfl
  f8 := ⟨Tryz.f111.name, by decide, Tryz.func111.trans (congrArg some (by kernel_rfl))⟩
  f11 := ⟨Tryz.f130.name, by decide, Tryz.func130.trans (congrArg some (by kernel_rfl))⟩
  t0 := Tryz.underlying0
  a0 := Tryz.isAgg0
  z0 := Tryz.sizeOf0
  v0 := Tryz.zeroValue0
  t24 := Tryz.underlying32
  a24 := Tryz.isAgg32
  z24 := Tryz.sizeOf32
  v24 := Tryz.zeroValue32
  t26 := Tryz.underlying3
  a26 := Tryz.isAgg3
  z26 := Tryz.sizeOf3
  v26 := Tryz.zeroValue3
  t28 := Tryz.underlying84
  a28 := Tryz.isAgg84
  z28 := Tryz.sizeOf84
  v28 := Tryz.zeroValue84
  i26 := by kernel_rfl
def mulRen : Go.Shelf.Ren := ⟨fun | 212 => 167 | 263 => 187 | 264 => 188 | n => n, fun | 46 => 167 | 51 => 198 | 146 => 221 | 53 => 200 | 148 => 223 | n => n, fun n => n⟩
theorem mulLays : Lays.n212 Tryz.prog mulRen where
  mixed := by kernel_rfl
  f212 := Tryz.func167.trans (congrArg some (by kernel_rfl))
  f263 := Tryz.func187.trans (congrArg some (by kernel_rfl))
  f264 := Tryz.func188.trans (congrArg some (by kernel_rfl))
  t46 := Tryz.underlying167
  a46 := Tryz.isAgg167
  z46 := Tryz.sizeOf167
  v46 := Tryz.zeroValue167
  t51 := Tryz.underlying198
  a51 := Tryz.isAgg198
  z51 := Tryz.sizeOf198
  v51 := Tryz.zeroValue198
  t53 := Tryz.underlying200
  a53 := Tryz.isAgg200
  z53 := Tryz.sizeOf200
  v53 := Tryz.zeroValue200
  t146 := Tryz.underlying221
  a146 := Tryz.isAgg221
  z146 := Tryz.sizeOf221
  v146 := Tryz.zeroValue221
  t148 := Tryz.underlying223
  a148 := Tryz.isAgg223
  z148 := Tryz.sizeOf223
  v148 := Tryz.zeroValue223

theorem mul_any (x y : Nat) (hx : x < 18446744073709551616) (hy : y < 18446744073709551616) (w : World) :
    Calls Tryz.prog 167 #[.int .u64 x, .int .u64 y] w fun e w' => e = .returned (.tuple #[.int .u64 ((x * y / 18446744073709551616 : Nat) : Int), .int .u64 ((x * y % 18446744073709551616 : Nat) : Int)]) ∧ w' = w := Any.bits_Mul mulLays x y hx hy w

/-- maps.Keys: the map in a box. -/
theorem keys_any (mb : Option Nat) (w : World) : Calls Tryz.prog 112 #[.map mb] w fun e w' =>
    e = .returned (.func (.func 131) #[] #[.pointer (some ⟨w.heap.size, 0, none⟩)]) ∧ w' = w.alloc (.cells #[.map mb] 69) :=
  (callsIn_wide (n := 1)).1 (AnyZI.keys_in keysL _ 1 trivial rfl mb w)

theorem enters_keys1 : ∀ args w, (callFunc 131 args).run Tryz.prog w = .ok (.enter 131 args) w := keysL.f10.enters rfl

/-- slices.Collect of the keys of a map: each once, in some order. -/
theorem collect_some (Bm b n : Nat) (m : Value → Option Value) (w : World) (hBm : Bm < w.heap.size) (hm : w.cell? ⟨Bm, 0, none⟩ = some (.map (some b))) (hown : MapIs Tryz.prog 3 w b n m) (hn : n ≤ 1000000) :
    Calls Tryz.prog 111 #[.func (.func 131) #[] #[.pointer (some ⟨Bm, 0, none⟩)]] w fun e w' => ∃ (v : Value) (ss : List Int), e = .returned v ∧
      (ss.Nodup ∧ (∀ x ∈ ss, (Lit.int .i64 x).wf = true) ∧ ∀ x, (Lit.int .i64 x).wf = true → (x ∈ ss ↔ (m (.int .i64 x)).isSome = true)) ∧ w'.ownsRow w.heap.size 3 1 v ss.length (ss.map (Value.int .i64)) ∧ Below w.heap.size w w' := by
  obtain ⟨D, hD, hmD⟩ := hown
  have hsz := hD.size_le
  have hK : Keyed Tryz.prog 3 := int_keyed Tryz.underlying3
  refine ((callsIn_wide (n := 5)).1 (AnyZI.collect_in collL Fence.wide 5 trivial trivial rfl (by omega) 131 #[.pointer (some ⟨Bm, 0, none⟩)] trivial enters_keys1
    (fun ss => ss.Perm (intKeys D)) (Maps.size D) (by unfold maxLen; omega) (by omega) w (AnyZI.keys_gives { keysL with } Fence.wide _ trivial rfl (by omega) Bm b n D w hBm hm hD))).mono ?_
  rintro e w' ⟨v, ss, rfl, hS, hrow, _, hb⟩
  obtain ⟨es, hes, hpw⟩ := hD.tidy hK
  have hkeys : ∀ p ∈ es, ∃ x, p.1 = .int .i64 x ∧ (Lit.int .i64 x).wf = true := by
    obtain ⟨es', clock, _, F, _, hDe⟩ := hD
    rw [hes] at hDe
    have e1 := (DataW.map.inj hDe)
    intro p hp
    rw [e1] at hp
    obtain ⟨v', hv'⟩ := Maps.fit_keys F p ((WideShapes.sorted_perm _).mem_iff.1 hp)
    obtain ⟨x, _, hx, hw⟩ := Maps.keyOf_i64 Tryz.underlying3 hv'
    exact ⟨x, hx, hw⟩
  have hmem : ∀ x, x ∈ intKeys D ↔ Maps.has D (.int .i64 x) = true := by
    intro x
    rw [hes]
    show x ∈ es.map (fun p => intOf p.1) ↔ es.any (fun p => p.1.sameKey (.int .i64 x)) = true
    rw [List.mem_map, List.any_eq_true]
    constructor
    · rintro ⟨p, hp, rfl⟩
      obtain ⟨y, hy, _⟩ := hkeys p hp
      refine ⟨p, hp, ?_⟩
      rw [hy]
      exact WideAt.sameKey_self trivial
    · rintro ⟨p, hp, hs⟩
      exact ⟨p, hp, by rw [WideAt.sameKey_eq hs]; rfl⟩
  have hnd : (intKeys D).Nodup := by
    rw [hes]
    show (es.map (fun p => intOf p.1)).Nodup
    rw [List.Nodup, List.pairwise_map]
    refine List.Pairwise.imp_of_mem ?_ hpw
    intro p q hp hq hne he
    obtain ⟨x, hx, _⟩ := hkeys p hp
    obtain ⟨y, hy, _⟩ := hkeys q hq
    rw [hx, hy] at he hne
    exact hne (by rw [show x = y from he])
  refine ⟨v, ss, rfl, ⟨hS.nodup_iff.2 hnd, fun x hx => ?_, fun x hx => ?_⟩, hrow, hb⟩
  · have h1 := (hmem x).1 (hS.mem_iff.1 hx)
    rw [hes] at h1
    obtain ⟨p, hp, hs⟩ := List.any_eq_true.1 h1
    obtain ⟨y, hy, hw⟩ := hkeys p hp
    rw [WideAt.sameKey_eq hs] at hy
    cases hy
    exact hw
  · rw [hS.mem_iff, hmem x, (hmD _ _ (keyOf_int_mk Tryz.underlying3 hx)).1]

/-- slices.Collect of the keys of a nil map. -/
theorem collect_none (Bm : Nat) (w : World) (hBm : Bm < w.heap.size) (hm : w.cell? ⟨Bm, 0, none⟩ = some (.map none)) :
    Calls Tryz.prog 111 #[.func (.func 131) #[] #[.pointer (some ⟨Bm, 0, none⟩)]] w fun e w' => ∃ (v : Value) (ss : List Int), e = .returned v ∧
      ss = [] ∧ w'.ownsRow w.heap.size 3 1 v ss.length (ss.map (Value.int .i64)) ∧ Below w.heap.size w w' := by
  refine ((callsIn_wide (n := 5)).1 (AnyZI.collect_in collL Fence.wide 5 trivial trivial rfl (by omega) 131 #[.pointer (some ⟨Bm, 0, none⟩)] trivial enters_keys1
    (fun ss => ss = []) 0 (by unfold maxLen; omega) (by omega) w (AnyZI.keys_gives_nil { keysL with } Fence.wide _ trivial rfl Bm w hBm hm))).mono ?_
  rintro e w' ⟨v, ss, rfl, hS, hrow, _, hb⟩
  exact ⟨v, ss, rfl, hS, hrow, hb⟩
end Go.Proofs.YtgamakejaknagaaGreat

/-
  A chip in memory, as layer 7's code lays it: its struct, five maps, pages and sets of wrong bits (ChipAt), over a plain state (CS); how it is carried, and what stores into its cells and maps make of it.
-/
namespace Go.Proofs.YtgamakejaknagaaGreat
open Go.RowKit Go.Maps
set_option linter.unusedVariables false
set_option maxRecDepth 8192

/-- A geometry of small pages that may be. -/
structure Geo where
  b : Int
  p : Int
  s : Nat
  n : Nat
  f : Nat
  R : Nat
  m : Nat
  W : Nat
  L : Nat
  ok : GOk b p s n f R m W L

/-- What a chip knows. -/
structure CS where
  pg : Int → Int → List Int
  nx : Int → Int
  bd : Int → Bool
  wk : Int → Bool
  wr : Int → Int → Int → Bool
  fu : Int
  up : Bool
  ah : Int
  ke : Int

/-- Where it lies: the struct, pages, next, marked, weak, wrong; lim: sets of wrong bits lie below it (0: no such bound). -/
structure CB where
  c : Nat
  mp : Nat
  mn : Nat
  mm : Nat
  mw : Nat
  mr : Nat
  lim : Nat
def CB.all (B : CB) : List Nat := [B.c, B.mp, B.mn, B.mm, B.mw, B.mr]

abbrev spotV (b p : Int) : Value := .agg #[.int .i64 b, .int .i64 p]
theorem spotV_inj {b p b' p' : Int} (h : spotV b p = spotV b' p') : b = b' ∧ p = p' := by simpa [spotV] using h
theorem intV_ne {x y : Int} (h : x ≠ y) : Value.int .i64 x ≠ Value.int .i64 y := fun e => h (by simpa using e)
theorem spotV_ne {b p b' p' : Int} (h : ¬ (b = b' ∧ p = p')) : spotV b p ≠ spotV b' p' := fun e => h (spotV_inj e)

theorem intKeyed : Keyed Tryz.prog 3 := int_keyed Tryz.underlying3
theorem spotKeyed : Keyed Tryz.prog 122 := Keyed.of_law (deep_law_laid (m := 5) (by kernel_rfl) (by omega) (of_decide_eq_true (by kernel_rfl)) (by kernel_rfl) (by kernel_rfl))
def I64 (x : Int) : Prop := -9223372036854775808 ≤ x ∧ x ≤ 9223372036854775807
theorem I64.wf {x : Int} (h : I64 x) : (Lit.int .i64 x).wf = true := WalkArith.wf_i64 h
theorem int_key {x : Int} (h : I64 x) : keyOf Tryz.prog 3 (.int .i64 x) = some (.int .i64 x) := keyOf_int_mk Tryz.underlying3 h.wf
theorem spot_key {b p : Int} (hb : I64 b) (hp : I64 p) : ∃ kl, keyOf Tryz.prog 122 (spotV b p) = some kl := by
  obtain ⟨d, hd⟩ : ∃ d, Tryz.prog.types.size = d + 1 := ⟨Tryz.prog.types.size - 1, by have : 0 < Tryz.prog.types.size := of_decide_eq_true (by kernel_rfl); omega⟩
  have hk : Tryz.prog.keyType 122 = true := by kernel_rfl
  have hc : Tryz.prog.cellsOf 122 = 2 := by kernel_rfl
  have hc3 : Tryz.prog.cellsOf 3 = 1 := by kernel_rfl
  have e : Tryz.prog.keyLits (Tryz.prog.types.size + 1) 122 [.int .i64 b, .int .i64 p] = some [.int .i64 b, .int .i64 p] := by
    rw [hd]; simp [Program.keyLits, Tryz.underlying122, Tryz.underlying3, hc, hc3, hb.wf, hp.wf]
  have hfm : (Tryz.prog.keyType 122 && (spotV b p).formed Tryz.prog 122) = true := by rw [hk]; simp [Value.formed, Tryz.underlying122, hc]
  refine ⟨.string (keyBytes [.int .i64 b, .int .i64 p]), ?_⟩
  unfold keyOf
  rw [Tryz.underlying122]
  simp only [hfm, if_true]
  rw [show (spotV b p).cells.toList = [.int .i64 b, .int .i64 p] from rfl, e]
  rfl

/-- A page in the map. -/
def PageOk (F : Nat → Prop) (B : CB) (L : Nat) (w : World) (v : Option Value) (z : List Int) : Prop :=
  IsB z ∧ z.length = L ∧ ((v = none ∧ z = List.replicate L 255) ∨ ∃ g, v = some (.slice (some ⟨g, 0, none⟩) L L) ∧ F g ∧ g ∉ B.all ∧ Row .u8 w (some ⟨g, 0, none⟩) L L z)
def PagesOk (F : Nat → Prop) (B : CB) (L N : Nat) (pg : Int → Int → List Int) (w : World) : Prop :=
  ∃ m, MapIs Tryz.prog 122 w B.mp N m ∧ ∀ b p, PageOk F B L w (m (spotV b p)) (pg b p)
def NextOk (B : CB) (N : Nat) (nx : Int → Int) (w : World) : Prop :=
  ∃ m, MapIs Tryz.prog 3 w B.mn N m ∧ ∀ b, (m (.int .i64 b)).getD (.int .i64 0) = .int .i64 (nx b) ∧ 0 ≤ nx b ∧ nx b ≤ 64
def SetOk (x N : Nat) (mk : Int → Bool) (w : World) : Prop :=
  ∃ m, MapIs Tryz.prog 3 w x N m ∧ ∀ b, (m (.int .i64 b)).isSome = mk b ∧ (m (.int .i64 b)).getD (.agg #[]) = .agg #[]
/-- A set of wrong bits in the map. -/
def BitsOk (F : Nat → Prop) (B : CB) (L : Nat) (w : World) (v : Option Value) (wr : Int → Bool) : Prop :=
  (∀ x, wr x = true → 0 ≤ x ∧ x < 8 * (L : Int)) ∧ ((v = none ∧ ∀ x, wr x = false) ∨ ∃ s, v = some (.map (some s)) ∧ F s ∧ (s ∉ B.all ∧ (B.lim = 0 ∨ s < B.lim)) ∧ SetOk s 1000000 wr w)
def WrongOk (F : Nat → Prop) (B : CB) (L N : Nat) (wr : Int → Int → Int → Bool) (w : World) : Prop :=
  ∃ m, MapIs Tryz.prog 122 w B.mr N m ∧ ∀ b p, BitsOk F B L w (m (spotV b p)) (wr b p)
def CellOk (G : Geo) (B : CB) (S : CS) (w : World) : Prop :=
  w.heap[B.c]? = some (.cells #[.int .i64 G.b, .int .i64 G.p, .int .i64 G.s, .int .i64 G.n, .int .i64 G.f, .map (some B.mp), .map (some B.mn), .map (some B.mm), .map (some B.mw), .map (some B.mr), .int .i64 S.fu, .bool S.up, .int .i64 S.ah, .int .i64 S.ke] 72 (0, 0))

/-- The chip G with the state S lies in w at B, in the blocks F, its maps of at most N entries. -/
structure ChipAt (G : Geo) (B : CB) (F : Nat → Prop) (N : Nat) (S : CS) (w : World) : Prop where
  cell : CellOk G B S w
  apart : B.all.Nodup
  inF : ∀ x, x ∈ B.all → F x
  fresh : ∀ x, F x → x < w.heap.size
  pages : PagesOk F B G.L N S.pg w
  next : NextOk B N S.nx w
  marked : SetOk B.mm N S.bd w
  weak : SetOk B.mw N S.wk w
  wrong : WrongOk F B G.L N S.wr w
  fu : 0 ≤ S.fu ∧ S.fu ≤ 64
  ah : 0 ≤ S.ah ∧ S.ah ≤ 9223372036854775807
  ke : I64 S.ke

theorem SetOk.same {x N : Nat} {mk : Int → Bool} {w w' : World} (h : SetOk x N mk w) (hb : w'.heap[x]? = w.heap[x]?) : SetOk x N mk w' := by
  obtain ⟨m, hm, r⟩ := h; exact ⟨m, hm.same hb, r⟩
theorem SetOk.add {x N : Nat} {bd : Int → Bool} {w : World} {m : Value → Option Value} (hm : ∀ b, (m (.int .i64 b)).isSome = bd b ∧ (m (.int .i64 b)).getD (.agg #[]) = .agg #[]) (y : Int) (h : MapIs Tryz.prog 3 w x N (mput m (.int .i64 y) (.agg #[]))) :
    SetOk x N (fun b => if b = y then true else bd b) w := by
  refine ⟨_, h, fun b => ?_⟩
  by_cases hb : b = y
  · subst hb; rw [mput_same]; simp
  · rw [mput_other m _ (intV_ne hb)]; simpa [hb] using hm b
theorem SetOk.mono {x N N' : Nat} {mk : Int → Bool} {w : World} (h : SetOk x N mk w) (hN : N ≤ N') : SetOk x N' mk w := by
  obtain ⟨m, hm, r⟩ := h; exact ⟨m, hm.mono hN, r⟩
theorem NextOk.same {B : CB} {N : Nat} {nx : Int → Int} {w w' : World} (h : NextOk B N nx w) (hb : w'.heap[B.mn]? = w.heap[B.mn]?) : NextOk B N nx w' := by
  obtain ⟨m, hm, r⟩ := h; exact ⟨m, hm.same hb, r⟩
theorem PageOk.same {F : Nat → Prop} {B : CB} {L : Nat} {w w' : World} {v : Option Value} {z : List Int} (h : PageOk F B L w v z) (hs : w.heap.size ≤ w'.heap.size) (hb : ∀ x, F x → x ∉ B.all → w'.heap[x]? = w.heap[x]?) : PageOk F B L w' v z := by
  obtain ⟨h1, h2, h3⟩ := h
  refine ⟨h1, h2, ?_⟩
  rcases h3 with h3 | ⟨g, e, hF, hB, hr⟩
  · exact .inl h3
  · exact .inr ⟨g, e, hF, hB, hr.same hs (hb g hF hB)⟩
theorem PageOk.wide {F F' : Nat → Prop} {B : CB} {L : Nat} {w : World} {v : Option Value} {z : List Int} (h : PageOk F B L w v z) (hF : ∀ x, F x → F' x) : PageOk F' B L w v z := by
  obtain ⟨h1, h2, h3⟩ := h
  refine ⟨h1, h2, ?_⟩
  rcases h3 with h3 | ⟨g, e, hG, hB, hr⟩
  · exact .inl h3
  · exact .inr ⟨g, e, hF g hG, hB, hr⟩
theorem PagesOk.same {F : Nat → Prop} {B : CB} {L N : Nat} {pg : Int → Int → List Int} {w w' : World} (h : PagesOk F B L N pg w) (hs : w.heap.size ≤ w'.heap.size) (hm : w'.heap[B.mp]? = w.heap[B.mp]?) (hb : ∀ x, F x → x ∉ B.all → w'.heap[x]? = w.heap[x]?) : PagesOk F B L N pg w' := by
  obtain ⟨m, h1, r⟩ := h; exact ⟨m, h1.same hm, fun b p => (r b p).same hs hb⟩
theorem BitsOk.same {F : Nat → Prop} {B : CB} {L : Nat} {w w' : World} {v : Option Value} {wr : Int → Bool} (h : BitsOk F B L w v wr) (hb : ∀ x, F x → x ∉ B.all → w'.heap[x]? = w.heap[x]?) : BitsOk F B L w' v wr := by
  obtain ⟨h1, h3⟩ := h
  refine ⟨h1, ?_⟩
  rcases h3 with h3 | ⟨g, e, hF, hB, hr⟩
  · exact .inl h3
  · exact .inr ⟨g, e, hF, hB, hr.same (hb g hF hB.1)⟩
theorem BitsOk.wide {F F' : Nat → Prop} {B : CB} {L : Nat} {w : World} {v : Option Value} {wr : Int → Bool} (h : BitsOk F B L w v wr) (hF : ∀ x, F x → F' x) : BitsOk F' B L w v wr := by
  obtain ⟨h1, h3⟩ := h
  refine ⟨h1, ?_⟩
  rcases h3 with h3 | ⟨g, e, hG, hB, hr⟩
  · exact .inl h3
  · exact .inr ⟨g, e, hF g hG, hB, hr⟩
theorem WrongOk.same {F : Nat → Prop} {B : CB} {L N : Nat} {wr : Int → Int → Int → Bool} {w w' : World} (h : WrongOk F B L N wr w) (hm : w'.heap[B.mr]? = w.heap[B.mr]?) (hb : ∀ x, F x → x ∉ B.all → w'.heap[x]? = w.heap[x]?) : WrongOk F B L N wr w' := by
  obtain ⟨m, h1, r⟩ := h; exact ⟨m, h1.same hm, fun b p => (r b p).same hb⟩

section
variable {G : Geo} {B : CB} {F : Nat → Prop} {N : Nat} {S : CS} {w w' : World}

/-- What lies in no block of the chip may turn. -/
theorem ChipAt.kept (h : ChipAt G B F N S w) (hs : w.heap.size ≤ w'.heap.size) (hb : ∀ x, F x → w'.heap[x]? = w.heap[x]?) : ChipAt G B F N S w' := by
  have hm : ∀ x, x ∈ B.all → w'.heap[x]? = w.heap[x]? := fun x hx => hb x (h.inF x hx)
  exact ⟨(hm B.c (by simp [CB.all])).trans h.cell, h.apart, h.inF, fun x hx => by have := h.fresh x hx; omega, h.pages.same hs (hm _ (by simp [CB.all])) (fun x hx _ => hb x hx), h.next.same (hm _ (by simp [CB.all])),
    h.marked.same (hm _ (by simp [CB.all])), h.weak.same (hm _ (by simp [CB.all])), h.wrong.same (hm _ (by simp [CB.all])) (fun x hx _ => hb x hx), h.fu, h.ah, h.ke⟩
theorem ChipAt.below (h : ChipAt G B F N S w) (hb : Below w.heap.size w w') : ChipAt G B F N S w' := h.kept hb.size fun x hx => hb.block x (h.fresh x hx)
theorem ChipAt.drew (h : ChipAt G B F N S w) : ChipAt G B F N S w.drew := h.kept (Nat.le_refl _) fun _ _ => rfl
theorem ChipAt.turned {F2 : Nat → Prop} (h : ChipAt G B F N S w) (hb : Turned F2 w w') (hd : ∀ x, F x → ¬ F2 x) : ChipAt G B F N S w' := h.kept hb.size fun x hx => hb.block x (h.fresh x hx) (hd x hx)
theorem ChipAt.mono (h : ChipAt G B F N S w) {N' : Nat} (hN : N ≤ N') : ChipAt G B F N' S w := by
  obtain ⟨m1, a1, r1⟩ := h.pages
  obtain ⟨m2, a2, r2⟩ := h.next
  obtain ⟨m3, a3, r3⟩ := h.wrong
  exact ⟨h.cell, h.apart, h.inF, h.fresh, ⟨m1, a1.mono hN, r1⟩, ⟨m2, a2.mono hN, r2⟩, h.marked.mono hN, h.weak.mono hN, ⟨m3, a3.mono hN, r3⟩, h.fu, h.ah, h.ke⟩
theorem ChipAt.lt (h : ChipAt G B F N S w) : B.c < w.heap.size := h.fresh _ (h.inF _ (by simp [CB.all]))

/-- The struct's cells, for the walk. -/
structure Cells (G : Geo) (B : CB) (S : CS) (w : World) : Prop where
  c0 : w.cell? ⟨B.c, 0, none⟩ = some (.int .i64 G.b)
  c1 : w.cell? ⟨B.c, 1, none⟩ = some (.int .i64 G.p)
  c2 : w.cell? ⟨B.c, 2, none⟩ = some (.int .i64 G.s)
  c3 : w.cell? ⟨B.c, 3, none⟩ = some (.int .i64 G.n)
  c4 : w.cell? ⟨B.c, 4, none⟩ = some (.int .i64 G.f)
  c5 : w.cell? ⟨B.c, 5, none⟩ = some (.map (some B.mp))
  c6 : w.cell? ⟨B.c, 6, none⟩ = some (.map (some B.mn))
  c7 : w.cell? ⟨B.c, 7, none⟩ = some (.map (some B.mm))
  c8 : w.cell? ⟨B.c, 8, none⟩ = some (.map (some B.mw))
  c9 : w.cell? ⟨B.c, 9, none⟩ = some (.map (some B.mr))
  c10 : w.cell? ⟨B.c, 10, none⟩ = some (.int .i64 S.fu)
  c11 : w.cell? ⟨B.c, 11, none⟩ = some (.bool S.up)
  c12 : w.cell? ⟨B.c, 12, none⟩ = some (.int .i64 S.ah)
  c13 : w.cell? ⟨B.c, 13, none⟩ = some (.int .i64 S.ke)
  fr : ∀ i, w.frozen? ⟨B.c, i, none⟩ = false
theorem CellOk.cells (h : CellOk G B S w) : Cells G B S w := by
  unfold CellOk at h
  refine ⟨?_, ?_, ?_, ?_, ?_, ?_, ?_, ?_, ?_, ?_, ?_, ?_, ?_, ?_, fun i => ?_⟩
  all_goals first | (simp [World.cell?, h]; done) | (simp [World.frozen?, h]; done)

theorem block_setC {w : World} {g i : Nat} {cs : Array Value} {t : TypeId} {fr : Nat × Nat} (h : w.heap[g]? = some (.cells cs t fr)) (v : Value) : (w.setCell ⟨g, i, none⟩ v).heap[g]? = some (.cells (cs.setIfInBounds i v) t fr) := by
  rw [setCell_eq_setRow w g i cs t fr v h]
  exact setRow_heap w g _ _ t _ h

/-- A store into the struct. -/
theorem ChipAt.setc (h : ChipAt G B F N S w) (i : Nat) (v : Value) {S' : CS} (hc : CellOk G B S' (w.setCell ⟨B.c, i, none⟩ v)) (e1 : S'.pg = S.pg) (e2 : S'.nx = S.nx) (e3 : S'.bd = S.bd) (e4 : S'.wk = S.wk) (e5 : S'.wr = S.wr)
    (hf : 0 ≤ S'.fu ∧ S'.fu ≤ 64) (ha : 0 ≤ S'.ah ∧ S'.ah ≤ 9223372036854775807) (hk : I64 S'.ke) : ChipAt G B F N S' (w.setCell ⟨B.c, i, none⟩ v) := by
  have hne : ∀ x, x ≠ B.c → (w.setCell ⟨B.c, i, none⟩ v).heap[x]? = w.heap[x]? := fun x hx => Below.heap_setCell w _ v x hx
  have hd := h.apart
  simp only [CB.all, List.nodup_cons, List.mem_cons, List.not_mem_nil, or_false, not_or] at hd
  have hx : ∀ x, F x → x ∉ B.all → (w.setCell ⟨B.c, i, none⟩ v).heap[x]? = w.heap[x]? := fun x _ hn => hne x (fun e => hn (by simp [CB.all, e]))
  have hs : w.heap.size ≤ (w.setCell ⟨B.c, i, none⟩ v).heap.size := by simp
  refine ⟨hc, h.apart, h.inF, fun x hx => by have := h.fresh x hx; simpa using this, ?_, ?_, ?_, ?_, ?_, hf, ha, hk⟩
  · rw [e1]; exact h.pages.same hs (hne _ (Ne.symm hd.1.1)) hx
  · rw [e2]; exact h.next.same (hne _ (Ne.symm hd.1.2.1))
  · rw [e3]; exact h.marked.same (hne _ (Ne.symm hd.1.2.2.1))
  · rw [e4]; exact h.weak.same (hne _ (Ne.symm hd.1.2.2.2.1))
  · rw [e5]; exact h.wrong.same (hne _ (Ne.symm hd.1.2.2.2.2)) hx
theorem ChipAt.set_up (h : ChipAt G B F N S w) (x : Bool) : ChipAt G B F N { S with up := x } (w.setCell ⟨B.c, 11, none⟩ (.bool x)) :=
  h.setc 11 _ (by have := block_setC (i := 11) h.cell (.bool x); simpa [CellOk] using this) rfl rfl rfl rfl rfl h.fu h.ah h.ke
theorem ChipAt.set_ah (h : ChipAt G B F N S w) (x : Int) (hx : 0 ≤ x ∧ x ≤ 9223372036854775807) : ChipAt G B F N { S with ah := x } (w.setCell ⟨B.c, 12, none⟩ (.int .i64 x)) :=
  h.setc 12 _ (by have := block_setC (i := 12) h.cell (.int .i64 x); simpa [CellOk] using this) rfl rfl rfl rfl rfl h.fu hx h.ke
theorem ChipAt.set_ke (h : ChipAt G B F N S w) (x : Int) (hx : I64 x) : ChipAt G B F N { S with ke := x } (w.setCell ⟨B.c, 13, none⟩ (.int .i64 x)) :=
  h.setc 13 _ (by have := block_setC (i := 13) h.cell (.int .i64 x); simpa [CellOk] using this) rfl rfl rfl rfl rfl h.fu h.ah hx

/-- One of its maps has turned, or a new block came: what the others are. -/
theorem ChipAt.map_turned (h : ChipAt G B F N S w) {x : Nat} (hx : x ∈ B.all) (hxc : x ≠ B.c) (hg : w.grownBy w' (some x)) : CellOk G B S w' ∧ (∀ y, F y → y ∉ B.all → w'.heap[y]? = w.heap[y]?) ∧ (∀ y, y ∈ B.all → y ≠ x → w'.heap[y]? = w.heap[y]?) := by
  have key : ∀ y, F y → y ≠ x → w'.heap[y]? = w.heap[y]? := fun y hy hne => hg.block y (h.fresh y hy) (fun e => hne (by cases e; rfl))
  exact ⟨(key _ (h.inF _ (by simp [CB.all])) (Ne.symm hxc)).trans h.cell, fun y hy hn => key y hy (fun e => hn (e ▸ hx)), fun y hy hne => key y (h.inF y hy) hne⟩
theorem ChipAt.nes (h : ChipAt G B F N S w) : (B.c ≠ B.mp ∧ B.c ≠ B.mn ∧ B.c ≠ B.mm ∧ B.c ≠ B.mw ∧ B.c ≠ B.mr) ∧ (B.mp ≠ B.mn ∧ B.mp ≠ B.mm ∧ B.mp ≠ B.mw ∧ B.mp ≠ B.mr) ∧ (B.mn ≠ B.mm ∧ B.mn ≠ B.mw ∧ B.mn ≠ B.mr) ∧ (B.mm ≠ B.mw ∧ B.mm ≠ B.mr) ∧ B.mw ≠ B.mr := by
  have hd := h.apart
  simp only [CB.all, List.nodup_cons, List.mem_cons, List.not_mem_nil, or_false, not_or, not_false_eq_true, List.nodup_nil, and_true] at hd
  exact hd

/-- A block is marked. -/
theorem ChipAt.mark (h : ChipAt G B F N S w) {m : Value → Option Value} (hm : ∀ b, (m (.int .i64 b)).isSome = S.bd b ∧ (m (.int .i64 b)).getD (.agg #[]) = .agg #[]) (x : Int) (hM : MapIs Tryz.prog 3 w' B.mm (N + 1) (mput m (.int .i64 x) (.agg #[]))) (hg : w.grownBy w' (some B.mm)) :
    ChipAt G B F (N + 1) { S with bd := fun b => if b = x then true else S.bd b } w' := by
  obtain ⟨⟨_, _, n3, _, _⟩, ⟨_, n5, _, _⟩, ⟨n6, _, _⟩, ⟨n7, n8⟩, _⟩ := h.nes
  obtain ⟨k1, k2, k3⟩ := h.map_turned (by simp [CB.all]) (Ne.symm n3) hg
  refine ⟨k1, h.apart, h.inF, fun y hy => Nat.lt_of_lt_of_le (h.fresh y hy) hg.size, ?_, ?_, ⟨_, hM, fun b => ?_⟩, ?_, ?_, h.fu, h.ah, h.ke⟩
  · obtain ⟨m1, a1, r1⟩ := h.pages.same hg.size (k3 _ (by simp [CB.all]) n5) k2; exact ⟨m1, a1.mono (by omega), r1⟩
  · obtain ⟨m1, a1, r1⟩ := h.next.same (k3 _ (by simp [CB.all]) n6); exact ⟨m1, a1.mono (by omega), r1⟩
  · by_cases hb : b = x
    · subst hb; rw [mput_same]; simp
    · rw [mput_other m _ (intV_ne hb)]; simpa [hb] using hm b
  · exact (h.weak.same (k3 _ (by simp [CB.all]) (Ne.symm n7))).mono (by omega)
  · obtain ⟨m1, a1, r1⟩ := h.wrong.same (k3 _ (by simp [CB.all]) (Ne.symm n8)) k2; exact ⟨m1, a1.mono (by omega), r1⟩
/-- Next is laid. -/
theorem ChipAt.put_next (h : ChipAt G B F N S w) {m : Value → Option Value} (hm : ∀ b, (m (.int .i64 b)).getD (.int .i64 0) = .int .i64 (S.nx b) ∧ 0 ≤ S.nx b ∧ S.nx b ≤ 64) (x y : Int) (hy : 0 ≤ y ∧ y ≤ 64) (hM : MapIs Tryz.prog 3 w' B.mn (N + 1) (mput m (.int .i64 x) (.int .i64 y))) (hg : w.grownBy w' (some B.mn)) :
    ChipAt G B F (N + 1) { S with nx := fun b => if b = x then y else S.nx b } w' := by
  obtain ⟨⟨_, n3, _, _, _⟩, ⟨n5, _, _, _⟩, ⟨n6, n7, n8⟩, _, _⟩ := h.nes
  obtain ⟨k1, k2, k3⟩ := h.map_turned (by simp [CB.all]) (Ne.symm n3) hg
  refine ⟨k1, h.apart, h.inF, fun y hy => Nat.lt_of_lt_of_le (h.fresh y hy) hg.size, ?_, ⟨_, hM, fun b => ?_⟩, ?_, ?_, ?_, h.fu, h.ah, h.ke⟩
  · obtain ⟨m1, a1, r1⟩ := h.pages.same hg.size (k3 _ (by simp [CB.all]) n5) k2; exact ⟨m1, a1.mono (by omega), r1⟩
  · by_cases hb : b = x
    · subst hb; rw [mput_same]; simpa using hy
    · rw [mput_other m _ (intV_ne hb)]; simpa [hb] using hm b
  · exact (h.marked.same (k3 _ (by simp [CB.all]) (Ne.symm n6))).mono (by omega)
  · exact (h.weak.same (k3 _ (by simp [CB.all]) (Ne.symm n7))).mono (by omega)
  · obtain ⟨m1, a1, r1⟩ := h.wrong.same (k3 _ (by simp [CB.all]) (Ne.symm n8)) k2; exact ⟨m1, a1.mono (by omega), r1⟩
/-- Next is 0 again. -/
theorem ChipAt.del_next (h : ChipAt G B F N S w) {m : Value → Option Value} (hm : ∀ b, (m (.int .i64 b)).getD (.int .i64 0) = .int .i64 (S.nx b) ∧ 0 ≤ S.nx b ∧ S.nx b ≤ 64) (x : Int) (hM : MapIs Tryz.prog 3 w' B.mn N (mdel m (.int .i64 x))) (hg : w.grownBy w' (some B.mn)) :
    ChipAt G B F N { S with nx := fun b => if b = x then 0 else S.nx b } w' := by
  obtain ⟨⟨_, n3, _, _, _⟩, ⟨n5, _, _, _⟩, ⟨n6, n7, n8⟩, _, _⟩ := h.nes
  obtain ⟨k1, k2, k3⟩ := h.map_turned (by simp [CB.all]) (Ne.symm n3) hg
  refine ⟨k1, h.apart, h.inF, fun y hy => Nat.lt_of_lt_of_le (h.fresh y hy) hg.size, h.pages.same hg.size (k3 _ (by simp [CB.all]) n5) k2, ⟨_, hM, fun b => ?_⟩, h.marked.same (k3 _ (by simp [CB.all]) (Ne.symm n6)), h.weak.same (k3 _ (by simp [CB.all]) (Ne.symm n7)),
    h.wrong.same (k3 _ (by simp [CB.all]) (Ne.symm n8)) k2, h.fu, h.ah, h.ke⟩
  by_cases hb : b = x
  · subst hb; rw [mdel_same]; simp
  · rw [mdel_other m (intV_ne hb)]; simpa [hb] using hm b
/-- A page is laid: its row lies in a block that is new. -/
theorem ChipAt.put_page (h : ChipAt G B F N S w) {m : Value → Option Value} (hm : ∀ b p, PageOk F B G.L w (m (spotV b p)) (S.pg b p)) (x y : Int) (g : Nat) (z : List Int) (hg0 : ¬ F g) (hz : IsB z) (hr : Row .u8 w (some ⟨g, 0, none⟩) G.L G.L z) (hgl : g < w.heap.size)
    (hM : MapIs Tryz.prog 122 w' B.mp (N + 1) (mput m (spotV x y) (.slice (some ⟨g, 0, none⟩) G.L G.L))) (hg : w.grownBy w' (some B.mp)) :
    ChipAt G B (fun k => F k ∨ k = g) (N + 1) { S with pg := fun b p => if b = x ∧ p = y then z else S.pg b p } w' := by
  obtain ⟨⟨n3, _, _, _, _⟩, ⟨n5, n6, n7, n8⟩, _, _, _⟩ := h.nes
  obtain ⟨k1, k2, k3⟩ := h.map_turned (by simp [CB.all]) (Ne.symm n3) hg
  have hgB : g ∉ B.all := fun hh => hg0 (h.inF g hh)
  have hgm : g ≠ B.mp := fun e => hgB (by simp [CB.all, e])
  refine ⟨k1, h.apart, fun y hy => .inl (h.inF y hy), fun y hy => hy.elim (fun hy => Nat.lt_of_lt_of_le (h.fresh y hy) hg.size) (fun e => e ▸ Nat.lt_of_lt_of_le hgl hg.size), ⟨_, hM, fun b p => ?_⟩, ?_, ?_, ?_, ?_, h.fu, h.ah, h.ke⟩
  · by_cases hb : b = x ∧ p = y
    · obtain ⟨rfl, rfl⟩ := hb
      rw [mput_same]
      simp only [and_self, if_true]
      exact ⟨hz, hr.hlen, .inr ⟨g, rfl, .inr rfl, hgB, hr.same hg.size (hg.block g hgl (fun e => hgm (by cases e; rfl)))⟩⟩
    · rw [mput_other m _ (spotV_ne hb)]
      simp only [hb, if_false]
      exact ((hm b p).same hg.size k2).wide (fun _ h => .inl h)
  · obtain ⟨m1, a1, r1⟩ := h.next.same (k3 _ (by simp [CB.all]) (Ne.symm n5)); exact ⟨m1, a1.mono (by omega), r1⟩
  · exact (h.marked.same (k3 _ (by simp [CB.all]) (Ne.symm n6))).mono (by omega)
  · exact (h.weak.same (k3 _ (by simp [CB.all]) (Ne.symm n7))).mono (by omega)
  · obtain ⟨m1, a1, r1⟩ := h.wrong.same (k3 _ (by simp [CB.all]) (Ne.symm n8)) k2; exact ⟨m1, a1.mono (by omega), fun b p => (r1 b p).wide (fun _ h => .inl h)⟩
/-- A page is ff. -/
theorem ChipAt.del_page (h : ChipAt G B F N S w) {m : Value → Option Value} (hm : ∀ b p, PageOk F B G.L w (m (spotV b p)) (S.pg b p)) (x y : Int) (hM : MapIs Tryz.prog 122 w' B.mp N (mdel m (spotV x y))) (hg : w.grownBy w' (some B.mp)) :
    ChipAt G B F N { S with pg := fun b p => if b = x ∧ p = y then List.replicate G.L 255 else S.pg b p } w' := by
  obtain ⟨⟨n3, _, _, _, _⟩, ⟨n5, n6, n7, n8⟩, _, _, _⟩ := h.nes
  obtain ⟨k1, k2, k3⟩ := h.map_turned (by simp [CB.all]) (Ne.symm n3) hg
  refine ⟨k1, h.apart, h.inF, fun y hy => Nat.lt_of_lt_of_le (h.fresh y hy) hg.size, ⟨_, hM, fun b p => ?_⟩, h.next.same (k3 _ (by simp [CB.all]) (Ne.symm n5)), h.marked.same (k3 _ (by simp [CB.all]) (Ne.symm n6)), h.weak.same (k3 _ (by simp [CB.all]) (Ne.symm n7)),
    h.wrong.same (k3 _ (by simp [CB.all]) (Ne.symm n8)) k2, h.fu, h.ah, h.ke⟩
  by_cases hb : b = x ∧ p = y
  · obtain ⟨rfl, rfl⟩ := hb
    rw [mdel_same]
    simp only [and_self, if_true]
    exact ⟨fun v hv => by rw [List.mem_replicate] at hv; rw [hv.2]; decide, by simp, .inl ⟨rfl, rfl⟩⟩
  · rw [mdel_other m (spotV_ne hb)]
    simp only [hb, if_false]
    exact (hm b p).same hg.size k2
/-- No bit of a page is read wrongly. -/
theorem ChipAt.del_wrong (h : ChipAt G B F N S w) {m : Value → Option Value} (hm : ∀ b p, BitsOk F B G.L w (m (spotV b p)) (S.wr b p)) (x y : Int) (hM : MapIs Tryz.prog 122 w' B.mr N (mdel m (spotV x y))) (hg : w.grownBy w' (some B.mr)) :
    ChipAt G B F N { S with wr := fun b p => if b = x ∧ p = y then fun _ => false else S.wr b p } w' := by
  obtain ⟨⟨_, _, _, _, n3⟩, ⟨_, _, _, n5⟩, ⟨_, _, n6⟩, ⟨_, n7⟩, n8⟩ := h.nes
  obtain ⟨k1, k2, k3⟩ := h.map_turned (by simp [CB.all]) (Ne.symm n3) hg
  refine ⟨k1, h.apart, h.inF, fun y hy => Nat.lt_of_lt_of_le (h.fresh y hy) hg.size, h.pages.same hg.size (k3 _ (by simp [CB.all]) n5) k2, h.next.same (k3 _ (by simp [CB.all]) n6), h.marked.same (k3 _ (by simp [CB.all]) n7), h.weak.same (k3 _ (by simp [CB.all]) n8),
    ⟨_, hM, fun b p => ?_⟩, h.fu, h.ah, h.ke⟩
  by_cases hb : b = x ∧ p = y
  · obtain ⟨rfl, rfl⟩ := hb
    rw [mdel_same]
    simp only [and_self, if_true]
    exact ⟨fun x hx => by simp at hx, .inl ⟨rfl, fun _ => rfl⟩⟩
  · rw [mdel_other m (spotV_ne hb)]
    simp only [hb, if_false]
    exact (hm b p).same k2
/-- Bits of a page are read wrongly: the set lies in a block that is new. -/
theorem ChipAt.put_wrong (h : ChipAt G B F N S w) {m : Value → Option Value} (hm : ∀ b p, BitsOk F B G.L w (m (spotV b p)) (S.wr b p)) (x y : Int) (s : Nat) (wr : Int → Bool) (hs0 : ¬ F s) (hwr : ∀ x, wr x = true → 0 ≤ x ∧ x < 8 * (G.L : Int)) (hs : SetOk s 1000000 wr w) (hsl : s < w.heap.size) (hlim : B.lim = 0)
    (hM : MapIs Tryz.prog 122 w' B.mr (N + 1) (mput m (spotV x y) (.map (some s)))) (hg : w.grownBy w' (some B.mr)) :
    ChipAt G B (fun k => F k ∨ k = s) (N + 1) { S with wr := fun b p => if b = x ∧ p = y then wr else S.wr b p } w' := by
  obtain ⟨⟨_, _, _, _, n3⟩, ⟨_, _, _, n5⟩, ⟨_, _, n6⟩, ⟨_, n7⟩, n8⟩ := h.nes
  obtain ⟨k1, k2, k3⟩ := h.map_turned (by simp [CB.all]) (Ne.symm n3) hg
  have hgB : s ∉ B.all := fun hh => hs0 (h.inF s hh)
  have hgm : s ≠ B.mr := fun e => hgB (by simp [CB.all, e])
  refine ⟨k1, h.apart, fun y hy => .inl (h.inF y hy), fun y hy => hy.elim (fun hy => Nat.lt_of_lt_of_le (h.fresh y hy) hg.size) (fun e => e ▸ Nat.lt_of_lt_of_le hsl hg.size), ?_, ?_, ?_, ?_, ⟨_, hM, fun b p => ?_⟩, h.fu, h.ah, h.ke⟩
  · obtain ⟨m1, a1, r1⟩ := h.pages.same hg.size (k3 _ (by simp [CB.all]) n5) k2; exact ⟨m1, a1.mono (by omega), fun b p => (r1 b p).wide (fun _ h => .inl h)⟩
  · obtain ⟨m1, a1, r1⟩ := h.next.same (k3 _ (by simp [CB.all]) n6); exact ⟨m1, a1.mono (by omega), r1⟩
  · exact (h.marked.same (k3 _ (by simp [CB.all]) n7)).mono (by omega)
  · exact (h.weak.same (k3 _ (by simp [CB.all]) n8)).mono (by omega)
  · by_cases hb : b = x ∧ p = y
    · obtain ⟨rfl, rfl⟩ := hb
      rw [mput_same]
      simp only [and_self, if_true]
      exact ⟨hwr, .inr ⟨s, rfl, .inr rfl, ⟨hgB, .inl hlim⟩, hs.same (hg.block s hsl (fun e => hgm (by cases e; rfl)))⟩⟩
    · rw [mput_other m _ (spotV_ne hb)]
      simp only [hb, if_false]
      exact ((hm b p).same k2).wide (fun _ h => .inl h)
end

/-- What a call does to a chip: it answers r, and leaves the state S'; nothing else has turned. -/
def Does (G : Geo) (B : CB) (F : Nat → Prop) (N : Nat) (w : World) (S' : CS) (w' : World) : Prop :=
  ∃ F', ChipAt G B F' N S' w' ∧ Turned F w w' ∧ ∀ x, F' x → F x ∨ w.heap.size ≤ x

end Go.Proofs.YtgamakejaknagaaGreat

/-
  The code of layer 7 (chip), as it landed: has, add, below, hasBlock, hasPage, size, fits, ready, readyFor, cut, kept, and the library's Repeat.
-/
namespace Go.Proofs.YtgamakejaknagaaGreat
open Go.RowKit Go.Maps
set_option linter.unusedVariables false
set_option maxRecDepth 8192

/-- Is n one of 0 to m - 1? -/
def inB0 (n m : Int) : Bool := decide (0 ≤ n ∧ n < m)
theorem inB0_yes {n m : Int} (h : inB0 n m = true) : 0 ≤ n ∧ n < m := by unfold inB0 at h; exact of_decide_eq_true h
theorem inB0_no {n m : Int} (h : inB0 n m = false) : ¬ (0 ≤ n ∧ n < m) := by unfold inB0 at h; exact of_decide_eq_false h

theorem chipHas_any (mb N : Nat) (bd : Int → Bool) (x : Int) (w : World) (h : SetOk mb N bd w) (hx : I64 x) :
    Calls Tryz.prog 99 #[.map (some mb), .int .i64 x] w fun e w' => e = .returned (.bool (bd x)) ∧ Below w.heap.size w w' := by
  obtain ⟨m, hm, hs⟩ := h
  have hlk := hm.look_ok intKeyed Tryz.underlying69 (Tryz.zeroValue141 w) (int_key hx)
  rw [(hs x).1, (hs x).2] at hlk
  clear hm hs
  go_enter Tryz.func99, Tryz.ntmps99
  go_wp2
  go_ret
  exact ⟨rfl, below_one _ _⟩

theorem chipAdd_any (mb N : Nat) (m : Value → Option Value) (x : Int) (w : World) (hm : MapIs Tryz.prog 3 w mb N m) (hN : N < 100000000) (hx : I64 x) :
    Calls Tryz.prog 66 #[.map (some mb), .int .i64 x] w fun e w' => (∃ r, e = .returned r) ∧ MapIs Tryz.prog 3 w' mb (N + 1) (mput m (.int .i64 x) (.agg #[])) ∧ w.grownBy w' (some mb) := by
  obtain ⟨w1, hrun, h1, h2⟩ := hm.store intKeyed Tryz.underlying69 (by unfold maxLen; omega) (int_key hx) (.agg #[])
  go_enter Tryz.func66, Tryz.ntmps66
  go_wp2
  go_end0
  exact ⟨⟨_, rfl⟩, h1, h2⟩

theorem chipBelow_any (n m : Int) (w : World) : Calls Tryz.prog 74 #[.int .i64 n, .int .i64 m] w fun e w' => e = .returned (.bool (inB0 n m)) ∧ w = w' := by
  have HB : Hid (inB0 n m = decide (0 ≤ n ∧ n < m)) := rfl
  go_enter Tryz.func74, Tryz.ntmps74
  go_wp2
  all_goals (go_ret; refine ⟨ret_bool ?_, rfl⟩; rw [HB.out]; symm; first | (rw [decide_eq_true_iff]; omega) | (rw [decide_eq_false_iff_not]; omega) | (rw [decide_eq_decide]; omega))

section
variable {G : Geo} {B : CB} {F : Nat → Prop} {N : Nat} {S : CS}

theorem chipHasBlock_any (x : Int) (w : World) (h : CellOk G B S w) :
    Calls Tryz.prog 65 #[.pointer (some ⟨B.c, 0, none⟩), .int .i64 x] w fun e w' => e = .returned (.bool (inB0 x G.b)) ∧ w = w' := by
  obtain ⟨c0, _⟩ := h.cells
  clear h
  go_enter Tryz.func65, Tryz.ntmps65
  go_wp2_with fail
  refine (chipBelow_any x G.b _).mono ?_
  rintro e w1 ⟨rfl, rfl⟩
  go_wp2_with fail
  go_ret
  exact ⟨rfl, rfl⟩

/-- Is there such a page? -/
def hasP (G : Geo) (x y : Int) : Bool := inB0 x G.b && inB0 y G.p
theorem hasP_yes {x y : Int} (h : hasP G x y = true) : (0 ≤ x ∧ x < G.b) ∧ 0 ≤ y ∧ y < G.p := by
  unfold hasP at h
  rw [Bool.and_eq_true] at h
  exact ⟨inB0_yes h.1, inB0_yes h.2⟩

theorem chipHasPage_any (x y : Int) (w : World) (h : CellOk G B S w) :
    Calls Tryz.prog 72 #[.pointer (some ⟨B.c, 0, none⟩), .int .i64 x, .int .i64 y] w fun e w' => e = .returned (.bool (hasP G x y)) ∧ w = w' := by
  have h' := h
  obtain ⟨_, c1, _⟩ := h.cells
  have HP : Hid (hasP G x y = (inB0 x G.b && inB0 y G.p)) := rfl
  cases hb : inB0 x G.b
  · go_enter Tryz.func72, Tryz.ntmps72
    go_wp2_with fail
    refine (chipHasBlock_any x _ h').mono ?_
    rintro e w1 ⟨rfl, rfl⟩
    rw [hb]
    clear h h'
    go_wp2_with fail
    go_ret
    exact ⟨ret_bool (by rw [HP.out, hb]; rfl), rfl⟩
  · go_enter Tryz.func72, Tryz.ntmps72
    go_wp2_with fail
    refine (chipHasBlock_any x _ h').mono ?_
    rintro e w1 ⟨rfl, rfl⟩
    rw [hb]
    clear h h'
    go_wp2_with fail
    refine (chipBelow_any y G.p _).mono ?_
    rintro e w1 ⟨rfl, rfl⟩
    go_wp2_with fail
    go_ret
    exact ⟨ret_bool (by rw [HP.out, hb]; rfl), rfl⟩

theorem chipSize_any (w : World) (h : CellOk G B S w) :
    Calls Tryz.prog 73 #[.pointer (some ⟨B.c, 0, none⟩)] w fun e w' => e = .returned (.int .i64 (G.L : Int)) ∧ Below w.heap.size w w' := by
  obtain ⟨c0, c1, c2, c3, c4, _⟩ := h.cells
  clear h
  go_enter Tryz.func73, Tryz.ntmps73
  go_wp2_with fail
  refine (eccRaw_yes bitsC G.ok _).mono ?_
  rintro e w1 ⟨rfl, q1⟩
  go_wp2_with fail
  go_ret
  exact ⟨rfl, q1⟩

/-- May raw bytes of that length be laid there? -/
def fitsP (G : Geo) (x y : Int) (len : Nat) : Bool := hasP G x y && decide (len = G.L)
theorem chipFits_any (x y : Int) (a : Option Addr) (len cap : Nat) (w : World) (h : CellOk G B S w) (hlen : len ≤ maxLen) (hBc : B.c < w.heap.size) :
    Calls Tryz.prog 142 #[.pointer (some ⟨B.c, 0, none⟩), .int .i64 x, .int .i64 y, .slice a len cap] w fun e w' => e = .returned (.bool (fitsP G x y len)) ∧ Below w.heap.size w w' := by
  have HP : Hid (fitsP G x y len = (hasP G x y && decide (len = G.L))) := rfl
  have hL := G.ok.L2
  have hlen' : (len : Int) ≤ 9223372036854775807 := by unfold maxLen at hlen; omega
  cases hb : hasP G x y
  · go_enter Tryz.func142, Tryz.ntmps142
    go_wp2_with fail
    refine (chipHasPage_any x y _ h).mono ?_
    rintro e w1 ⟨rfl, rfl⟩
    rw [hb]
    go_wp2_with fail
    go_ret
    exact ⟨ret_bool (by rw [HP.out, hb]; rfl), Below.refl _ _⟩
  · go_enter Tryz.func142, Tryz.ntmps142
    go_wp2_with fail
    refine (chipHasPage_any x y _ h).mono ?_
    rintro e w1 ⟨rfl, rfl⟩
    rw [hb]
    go_wp2_with fail
    refine (chipSize_any _ h).mono ?_
    rintro e w1 ⟨rfl, q1⟩
    go_wp2_with fail
    go_ret
    exact ⟨ret_bool (by rw [HP.out, hb, Bool.true_and, Bool.eq_iff_iff]; simp; omega), q1⟩

theorem chipReady_any (w : World) (h : CellOk G B S w) : Calls Tryz.prog 108 #[.pointer (some ⟨B.c, 0, none⟩)] w fun e w' => e = .returned (.int .i64 (if S.up = true then 0 else 70)) ∧ w = w' := by
  have c11 := h.cells.c11
  clear h
  have HU : Hid (∀ x : Bool, S.up = x → (if S.up = true then (0 : Int) else 70) = if x = true then 0 else 70) := fun x hx => by rw [hx]
  generalize (if S.up = true then (0 : Int) else 70) = r at *
  cases hu : S.up
  · rw [hu] at c11
    have HR : Hid (r = 70) := HU.out false hu
    clear HU hu
    go_enter Tryz.func108, Tryz.ntmps108
    go_wp2
    go_ret
    exact ⟨ret_int HR.out.symm, rfl⟩
  · rw [hu] at c11
    have HR : Hid (r = 0) := HU.out true hu
    clear HU hu
    go_enter Tryz.func108, Tryz.ntmps108
    go_wp2
    go_ret
    exact ⟨ret_int HR.out.symm, rfl⟩

theorem chipReadyFor_down (x : Int) (w : World) (h : CellOk G B S w) (hu : S.up = false) : Calls Tryz.prog 95 #[.pointer (some ⟨B.c, 0, none⟩), .int .i64 x] w fun e w' => e = .returned (.int .i64 70) ∧ w = w' := by
  go_enter Tryz.func95, Tryz.ntmps95
  go_wp2_with fail
  refine (chipReady_any _ h).mono ?_
  rw [hu]
  rintro e w1 ⟨rfl, rfl⟩
  go_wp2_with fail
  go_ret
  exact ⟨rfl, rfl⟩
theorem chipReadyFor_no (x : Int) (w : World) (h : CellOk G B S w) (hu : S.up = true) (hx : inB0 x G.b = false) : Calls Tryz.prog 95 #[.pointer (some ⟨B.c, 0, none⟩), .int .i64 x] w fun e w' => e = .returned (.int .i64 1) ∧ w = w' := by
  go_enter Tryz.func95, Tryz.ntmps95
  go_wp2_with fail
  refine (chipReady_any _ h).mono ?_
  rw [hu]
  rintro e w1 ⟨rfl, rfl⟩
  go_wp2_with fail
  refine (chipHasBlock_any x _ h).mono ?_
  rintro e w1 ⟨rfl, rfl⟩
  rw [hx]
  go_wp2_with fail
  go_ret
  exact ⟨rfl, rfl⟩
theorem chipReadyFor_yes (x : Int) (w : World) (h : CellOk G B S w) (hu : S.up = true) (hx : inB0 x G.b = true) : Calls Tryz.prog 95 #[.pointer (some ⟨B.c, 0, none⟩), .int .i64 x] w fun e w' => e = .returned (.int .i64 0) ∧ w = w' := by
  go_enter Tryz.func95, Tryz.ntmps95
  go_wp2_with fail
  refine (chipReady_any _ h).mono ?_
  rw [hu]
  rintro e w1 ⟨rfl, rfl⟩
  go_wp2_with fail
  refine (chipHasBlock_any x _ h).mono ?_
  rintro e w1 ⟨rfl, rfl⟩
  rw [hx]
  go_wp2_with fail
  go_ret
  exact ⟨rfl, rfl⟩

/-- A deed more is counted. -/
theorem chipCut_no (w : World) (h : ChipAt G B F N S w) (ha : S.ah = 0) : Calls Tryz.prog 96 #[.pointer (some ⟨B.c, 0, none⟩)] w fun e w' => e = .returned (.bool false) ∧ w = w' := by
  have c12 := h.cell.cells.c12
  rw [ha] at c12
  clear h
  go_enter Tryz.func96, Tryz.ntmps96
  go_wp2
  go_ret
  exact ⟨rfl, rfl⟩
theorem chipCut_on (w : World) (h : ChipAt G B F N S w) (ha : 1 < S.ah) : Calls Tryz.prog 96 #[.pointer (some ⟨B.c, 0, none⟩)] w fun e w' => e = .returned (.bool false) ∧ ChipAt G B F N { S with ah := S.ah - 1 } w' ∧ Turned F w w' := by
  have c12 := h.cell.cells.c12
  have f12 := h.cell.cells.fr 12
  have ha2 := h.ah
  have HS : Hid (ChipAt G B F N { S with ah := S.ah - 1 } (w.setCell ⟨B.c, 12, none⟩ (.int .i64 (S.ah - 1)))) := h.set_ah (S.ah - 1) (by omega)
  have HT : Hid (Turned F w (w.setCell ⟨B.c, 12, none⟩ (.int .i64 (S.ah - 1)))) := (Turned.refl F w).setCell (p := ⟨B.c, 12, none⟩) (.inl (h.inF _ (by simp [CB.all]))) _
  clear h
  have n0 : ¬ S.ah = 0 := by omega
  have n1 : 0 < S.ah - 1 := by omega
  generalize S.ah = x at *
  go_enter Tryz.func96, Tryz.ntmps96
  go_wp2
  go_ret
  exact ⟨rfl, HS.out, HT.out⟩
theorem chipCut_yes (w : World) (h : ChipAt G B F N S w) (ha : S.ah = 1) : Calls Tryz.prog 96 #[.pointer (some ⟨B.c, 0, none⟩)] w fun e w' => e = .returned (.bool true) ∧ ChipAt G B F N { S with ah := 0, up := false } w' ∧ Turned F w w' := by
  have c12 := h.cell.cells.c12
  have f12 := h.cell.cells.fr 12
  have f11 := h.cell.cells.fr 11
  have c11 := h.cell.cells.c11
  have HS : Hid (ChipAt G B F N { S with ah := 0, up := false } ((w.setCell ⟨B.c, 12, none⟩ (.int .i64 0)).setCell ⟨B.c, 11, none⟩ (.bool false))) := (h.set_ah 0 (by omega)).set_up false
  have hF := h.inF B.c (by simp [CB.all])
  have HT : Hid (Turned F w ((w.setCell ⟨B.c, 12, none⟩ (.int .i64 0)).setCell ⟨B.c, 11, none⟩ (.bool false))) := ((Turned.refl F w).setCell (p := ⟨B.c, 12, none⟩) (.inl hF) _).setCell (p := ⟨B.c, 11, none⟩) (.inl hF) _
  clear h hF
  rw [ha] at c12
  go_enter Tryz.func96, Tryz.ntmps96
  go_wp2
  go_ret
  exact ⟨rfl, HS.out, HT.out⟩

/-- How many of so many are done in a deed that is cut. -/
def keptN (ke : Int) (all : Nat) : Nat := min ke.toNat all
theorem chipKept_any (all : Nat) (w : World) (h : CellOk G B S w) (hall : all ≤ 1000000) : Calls Tryz.prog 98 #[.pointer (some ⟨B.c, 0, none⟩), .int .i64 (all : Int)] w fun e w' => e = .returned (.int .i64 (keptN S.ke all : Int)) ∧ w = w' := by
  have c13 := h.cells.c13
  clear h
  have HK : Hid (∀ r : Int, (0 ≤ S.ke ∧ S.ke ≤ all ∧ r = S.ke) ∨ (0 ≤ S.ke ∧ all < S.ke ∧ r = all) ∨ (S.ke < 0 ∧ r = 0) → r = (keptN S.ke all : Int)) := fun r hr => by
    unfold keptN
    rcases Nat.le_total S.ke.toNat all with hh | hh
    · rw [Nat.min_eq_left hh]; omega
    · rw [Nat.min_eq_right hh]; omega
  generalize (keptN S.ke all : Int) = r at *
  generalize S.ke = x at *
  rcases (show (0 ≤ x ∧ x ≤ all) ∨ (0 ≤ x ∧ all < x) ∨ x < 0 by omega) with hx | hx | hx
  · have HR : Hid (x = r) := HK.out _ (.inl ⟨hx.1, hx.2, rfl⟩)
    have h1 := hx.1
    have h2 := hx.2
    go_enter Tryz.func98, Tryz.ntmps98
    go_wp2
    all_goals (go_ret; refine ⟨ret_int ?_, rfl⟩; have := HR.out; omega)
  · have HR : Hid ((all : Int) = r) := HK.out _ (.inr (.inl ⟨hx.1, hx.2, rfl⟩))
    have h1 := hx.1
    have h2 := hx.2
    go_enter Tryz.func98, Tryz.ntmps98
    go_wp2
    all_goals (go_ret; refine ⟨ret_int ?_, rfl⟩; have := HR.out; omega)
  · have HR : Hid ((0 : Int) = r) := HK.out _ (.inr (.inr ⟨hx, rfl⟩))
    go_enter Tryz.func98, Tryz.ntmps98
    go_wp2
    all_goals (go_ret; refine ⟨ret_int ?_, rfl⟩; have := HR.out; omega)
end
end Go.Proofs.YtgamakejaknagaaGreat

/-
  The code of layer 7 (chip), as it landed: the library's Repeat; blank, page.
-/
namespace Go.Proofs.YtgamakejaknagaaGreat
open Go.RowKit Go.Maps
set_option linter.unusedVariables false
set_option maxRecDepth 8192

/-- 'copy' into a row of the call's own, from whatever row. -/
theorem copy_gen {P : Program} {k : IntKind} {w : World} {g o d dc len cap : Nat} {dT elem ty : TypeId} {a : Option Addr} {y z : List Int} (hu : P.underlying dT = some (.slice elem)) (hsz : (P.info? elem).map (·.size) = some 1)
    (hg : w.heap[g]? = some (.cells (z.map (Value.int k)).toArray elem (0, 0))) (ho : o + d ≤ z.length) (hr : Row k w a len cap y) :
    ∃ w2, Sem.run P (Builtin.copy_ #[dT, dT] ty #[.slice (some ⟨g, o, none⟩) d dc, .slice a len cap]) w = .ok (.int .i64 ((min len d : Nat) : Int)) w2 ∧
      w2.heap[g]? = some (.cells ((z.take o ++ y.take (min len d) ++ z.drop (o + min len d)).map (Value.int k)).toArray elem (0, 0)) ∧ w.grownBy w2 (some g) := by
  have hl := hr.hlen
  by_cases h0 : min len d = 0
  · refine ⟨w, ?_, ?_, World.grownBy.refl _ _⟩
    · rw [h0]; exact run_copy_none (P := P) w dT dT ty elem _ a d dc len cap hu hsz h0
    · rw [h0, hg]; simp
  · obtain ⟨b, off, rfl, hbs, hcell⟩ := hr.hcell (by omega)
    have hyl : (y.take (min len d)).length = min len d := by rw [List.length_take]; omega
    have hrun := run_copy_row (P := P) w dT dT ty elem g o d dc ⟨b, off, none⟩ len cap (z.map (Value.int k)).toArray elem ((y.take (min len d)).map (Value.int k)) hu hsz hg (by rw [List.length_map, hyl])
      (cells_row hyl (fun i hi => by rw [hcell i (by omega)]; simp [hi])) (by rw [List.length_map, hyl]; simp; omega) (ints_oneCell _ _)
    have e1 : ((z.map (Value.int k)).toArray.toList.take o) ++ (y.take (min len d)).map (Value.int k) ++ (z.map (Value.int k)).toArray.toList.drop (o + ((y.take (min len d)).map (Value.int k)).length) = (z.take o ++ y.take (min len d) ++ z.drop (o + min len d)).map (Value.int k) := by
      rw [List.length_map, hyl]
      simp [List.map_take, List.map_drop]
    rw [e1] at hrun
    refine ⟨_, ?_, setRow_heap w g _ _ elem _ hg, ⟨rfl, rfl, rfl, by simp [World.setRow], fun i _ hi => setRow_other w g i _ (fun e => hi (by rw [e]))⟩⟩
    rw [hrun, List.length_map, hyl]
    rfl

/-- So many ff, noughts behind them. -/
def ffs (n L : Nat) : List Int := List.replicate n 255 ++ List.replicate (L - n) 0
theorem ffs_len {n L : Nat} (h : n ≤ L) : (ffs n L).length = L := by unfold ffs; simp; omega
theorem ffs_step {n L : Nat} (h : n < L) : (ffs n L).take n ++ ((ffs n L).take n).take (min n (L - n)) ++ (ffs n L).drop (n + min n (L - n)) = ffs (n + min n (L - n)) L := by
  have h1 : (ffs n L).take n = List.replicate n 255 := by unfold ffs; rw [List.take_append_of_le_length (by simp), List.take_of_length_le (by simp)]
  have h2 : (ffs n L).drop (n + min n (L - n)) = List.replicate (L - (n + min n (L - n))) 0 := by
    unfold ffs
    rw [← List.drop_drop, List.drop_append, List.drop_of_length_le (l := List.replicate n (255 : Int)) (by simp), List.nil_append]
    simp
    omega
  rw [h1, h2, List.take_replicate, List.replicate_append_replicate]
  unfold ffs
  congr 2
  omega
theorem ffs_first (L : Nat) (h : 1 ≤ L) : (List.replicate L (0 : Int)).take 0 ++ ([255] : List Int).take (min 1 L) ++ (List.replicate L (0 : Int)).drop (0 + min 1 L) = ffs 1 L := by
  have : min 1 L = 1 := by omega
  rw [this]
  unfold ffs
  simp

theorem isB_rowA {k : IntKind} {e : TypeId} {w : World} {base g n cap : Nat} {z : List Int} (h : w.ownsRow base e 1 (.slice (some ⟨g, 0, none⟩) n cap) n (z.map (Value.int k))) : Row k w (some ⟨g, 0, none⟩) n cap z := by
  obtain ⟨a, c, he, hr⟩ := row_of_owns h
  cases he
  exact hr
theorem row_front {k : IntKind} {w : World} {b o len cap : Nat} {z : List Int} (hr : Row k w (some ⟨b, o, none⟩) len cap z) {n : Nat} (hn : n ≤ len) : Row k w (some ⟨b, o, none⟩) n cap (z.take n) := by
  have hl := hr.hlen
  refine ⟨by rw [List.length_take]; omega, by have := hr.hcap; omega, hr.hmax, hr.hnil, fun h0 => ?_⟩
  obtain ⟨b', o', e, hb, hc⟩ := hr.hcell (by omega)
  cases e
  exact ⟨b, o, rfl, hb, fun i hi => by rw [hc i (by omega)]; simp [hi]⟩
set_option maxHeartbeats 800000 in
theorem repeat_any (g L : Nat) (w : World) (hr : Row .u8 w (some ⟨g, 0, none⟩) 1 1 [255]) (h1 : 1 ≤ L) (h2 : L ≤ 1000) :
    Calls Tryz.prog 144 #[.slice (some ⟨g, 0, none⟩) 1 1, .int .i64 (L : Int)] w fun e w' => ∃ q, w.heap.size ≤ q ∧ e = .returned (.slice (some ⟨q, 0, none⟩) L L) ∧ w'.heap[q]? = some (.cells ((List.replicate L (255 : Int)).map (Value.int .u8)).toArray 5 (0, 0)) ∧ Below w.heap.size w w' := by
  obtain ⟨i0, hi0, hz0, hz1, hz2⟩ := info_parts Tryz.info5
  have hmul := mul_any 1 L (by omega) (by omega) w
  rw [Nat.one_mul, Nat.div_eq_of_lt (by omega), Nat.mod_eq_of_lt (by omega)] at hmul
  have hmax : L ≤ maxLen := by unfold maxLen; omega
  have hi : ¬ (L : Int) < 0 := by omega
  have hbig : ¬ (9223372036854775807 : Int) < (L : Int) := by omega
  go_enter Tryz.func144, Tryz.ntmps144
  go_wp2_with fail
  refine hmul.mono ?_
  rintro e w1 ⟨rfl, rfl⟩
  go_wp2_with (at_make; refine wpList_make_full _ rfl _ _ 33 rfl w1.heap.size 5 i0 (.int .u8 0) 1 Tryz.underlying33 hi0 hz0 hz1 _ _ _ _ L rfl rfl rfl rfl (by rw [hz2]; omega) hmax (Nat.le_refl _) ?_; intro w2 hown1 hgrow1)
  rw [made_ints] at hown1
  have hg1 := heap_of_owns hown1
  have hb1 : Below w1.heap.size w1 w2 := (Below.refl _ _).grown hgrow1 (Nat.le_refl _) (by simp)
  have hr2 := hr.below hb1 (Nat.le_refl _)
  obtain ⟨w3, hrun, hg3, hgr3⟩ := copy_gen (P := Tryz.prog) (dT := 33) (elem := 5) (ty := 3) (o := 0) (d := L) (dc := L) Tryz.underlying33 (by kernel_rfl) hg1 (by simp) hr2
  rw [ffs_first L h1] at hg3
  rw [show min 1 L = 1 by omega] at hrun
  have hb3 : Below w1.heap.size w1 w3 := hb1.grown hgr3 hb1.size (fun k e => by cases e; exact Nat.le_refl _)
  rw [hrun]
  have hqq : Hid (w1.heap.size = w1.heap.size) := rfl
  generalize hq : w1.heap.size = q at hown1 hg1 hgr3 hb3 hg3 hqq hrun ⊢
  have HQ : Hid (w1.heap.size = q) := hq
  clear hq hqq
  have HB : Hid (Below q w1 w3) := hb3
  have HG : Hid (w3.heap[q]? = some (.cells ((ffs 1 L).map (Value.int .u8)).toArray 5 (0, 0))) := hg3
  clear hrun hg3 hgr3 hr2 hb1 hg1 hown1 hgrow1 hb3 hr hmul
  go_wp2_with fail
  go_loopw [8] (fun x wr => ∃ n : Nat, 1 ≤ n ∧ n ≤ L ∧ x = .int .i64 (n : Int) ∧ Hid (wr.heap[q]? = some (.cells ((ffs n L).map (Value.int .u8)).toArray 5 (0, 0))) ∧ Hid (Below q w1 wr)) (fun x _ => L - (RowKit.intOf x).toNat)
  case atStart => exact ⟨1, Nat.le_refl _, h1, rfl, HG, HB⟩
  case round =>
    obtain ⟨n, hn1, hn2, rfl, hgn, hbn⟩ := hrel
    by_cases hlt : n < L
    · have hlt' : (n : Int) < (L : Int) := by omega
      have hrow : Row .u8 wr.drew (some ⟨q, 0, none⟩) n L ((ffs n L).take n) := by
        have e0 := (isB_rowA (owns_of_heap (base := 0) hgn.out (by rw [List.length_map, ffs_len hn2]) (Nat.zero_le _) hmax) : Row .u8 wr (some ⟨q, 0, none⟩) L L (ffs n L))
        exact (row_front e0 hn2).drewN 1
      have ed : ((L : Int) - (n : Int)).toNat = L - n := by omega
      obtain ⟨w4, hrun, hg4, hgr4⟩ := copy_gen (P := Tryz.prog) (w := wr.drew) (dT := 33) (elem := 5) (ty := 3) (o := n) (d := L - n) (dc := L - n) Tryz.underlying33 (by kernel_rfl) hgn.out (by rw [ffs_len hn2]; omega) hrow
      rw [ffs_step hlt] at hg4
      have HG4 : Hid (w4.heap[q]? = some (.cells ((ffs (n + min n (L - n)) L).map (Value.int .u8)).toArray 5 (0, 0))) := hg4
      have HB4 : Hid (Below q w1 w4) := hbn.out.drew.grown hgr4 (by rw [← HQ.out]; exact hbn.out.size) (fun k e => by cases e; exact Nat.le_refl _)
      have n4 : ¬ L = n := by omega
      clear hg4 hgr4 hrow hgn hbn
      go_wp2_with fail
      go_region
      go_wp2_with fail
      go_roundw
      case rel => exact ⟨n + min n (L - n), by omega, by omega, by go_num, HG4, HB4⟩
      case measure => simp [RowKit.intOf]; omega
    · have e : n = L := by omega
      subst e
      go_wp2_with fail
      go_ret
      have e2 : ffs n n = List.replicate n 255 := by unfold ffs; simp
      refine ⟨q, by have := HQ.out; omega, rfl, ?_, by rw [HQ.out]; exact hbn.out⟩
      rw [← e2]; exact hgn.out

end Go.Proofs.YtgamakejaknagaaGreat
