/-
  Maps as plain functions from key values to element values, over whatever program and element type: MapIs; what a look-up, a store, a delete and len do; and Turned: what has turned since, but for a set of blocks.
-/
import Derived.Maps.OwnSet
import Derived.Maps.Ext
import Derived.DeepKeys4
import Derived.Test.YtabiipibckmalaaBase
namespace Go.Proofs.Ytabiipibckmalaa
open Go.RowKit Go.Maps
set_option linter.unusedVariables false
set_option maxRecDepth 8192

/-- An element, read as itself. -/
def rawElem (v : Value) : Option (DataW Value × List MemPlace) := some (.held v, [])

/-- Block b is a map of at most n entries: at a key value it holds what m says. -/
def MapIs (P : Program) (k : TypeId) (w : World) (b n : Nat) (m : Value → Option Value) : Prop :=
  ∃ D : DataW Value, w.ownsMap P k rawElem b n D ∧ ∀ key kl, keyOf P k key = some kl → Maps.has D kl = (m key).isSome ∧ ∀ v, m key = some v → ∀ z, D.atKey kl z = .held v

section
variable {P : Program} {k : TypeId} {w : World} {b n : Nat} {m : Value → Option Value}

theorem MapIs.mono (h : MapIs P k w b n m) {n' : Nat} (hn : n ≤ n') : MapIs P k w b n' m := by
  obtain ⟨D, h1, h2⟩ := h; exact ⟨D, h1.mono hn, h2⟩
theorem MapIs.lt (h : MapIs P k w b n m) : b < w.heap.size := by obtain ⟨D, h1, h2⟩ := h; exact h1.lt
theorem MapIs.same (h : MapIs P k w b n m) {w' : World} (hb : w'.heap[b]? = w.heap[b]?) : MapIs P k w' b n m := by
  obtain ⟨D, ⟨es, clock, h0, F, hs, hD⟩, h2⟩ := h
  exact ⟨D, ⟨es, clock, hb.trans h0, F, hs, hD⟩, h2⟩
theorem MapIs.nocell (h : MapIs P k w b n m) (o : Nat) (x : Option Nat) : w.cell? ⟨b, o, none⟩ = none := by
  obtain ⟨D, ⟨es, clock, h0, F, hs, hD⟩, h2⟩ := h
  simp [World.cell?, h0]
theorem mapIs_made (P : Program) (k : TypeId) (w : World) : MapIs P k (w.alloc (.map #[] 0)) w.heap.size 0 (fun _ => none) :=
  ⟨.map [], World.ownsMap_made w P k rawElem, fun key kl hk => ⟨rfl, fun v e => by cases e⟩⟩

theorem MapIs.look_gen (h : MapIs P k w b n m) (K : Keyed P k) {t e : TypeId} (ht : P.underlying t = some (.map k e)) {z : Value} (hz : (zeroValue e).run P w = .ok z w) {key : Value} {kl : Lit} (hkey : keyOf P k key = some kl) (c : Bool) :
    (Instr.lookup t (.map (some b)) key c).run P w = .ok (if c then .tuple #[(m key).getD z, .bool (m key).isSome] else (m key).getD z) w := by
  obtain ⟨D, ⟨es, clock, hb, F, _, rfl⟩, h2⟩ := h
  obtain ⟨g1, g2⟩ := h2 key kl hkey
  rcases Maps.fit_look c K ht hz hb F hkey with ⟨hrun, _, hat⟩ | ⟨e0, y, _, _, hrun, hRv, hat, _⟩
  · have hn : m key = none := by
      cases hm : m key with
      | none => rfl
      | some v =>
        rw [Maps.has_false_of_atKey hat, hm] at g1; cases g1
    rw [hn]; simpa using hrun
  · have hs : (m key).isSome = true := by rw [← g1]; exact Maps.has_true_of_atKey hat
    obtain ⟨v, hv⟩ := Option.isSome_iff_exists.1 hs
    have e1 := g2 v hv (.nil)
    rw [hat] at e1
    have e2 : e0.val = v := by
      unfold rawElem at hRv
      have := Option.some.inj hRv
      rw [← this] at e1
      simpa using e1
    rw [hv, ← e2]; simpa using hrun

/-- 'm[k]'. -/
theorem MapIs.look (h : MapIs P k w b n m) (K : Keyed P k) {t e : TypeId} (ht : P.underlying t = some (.map k e)) {z : Value} (hz : (zeroValue e).run P w = .ok z w) {key : Value} {kl : Lit} (hkey : keyOf P k key = some kl) :
    (Instr.lookup t (.map (some b)) key false).run P w = .ok ((m key).getD z) w := by simpa using h.look_gen K ht hz hkey false
/-- 'v, ok := m[k]'. -/
theorem MapIs.look_ok (h : MapIs P k w b n m) (K : Keyed P k) {t e : TypeId} (ht : P.underlying t = some (.map k e)) {z : Value} (hz : (zeroValue e).run P w = .ok z w) {key : Value} {kl : Lit} (hkey : keyOf P k key = some kl) :
    (Instr.lookup t (.map (some b)) key true).run P w = .ok (.tuple #[(m key).getD z, .bool (m key).isSome]) w := by simpa using h.look_gen K ht hz hkey true

/-- The map with one more entry. -/
noncomputable def mput (m : Value → Option Value) (key v : Value) : Value → Option Value := by classical exact fun x => if x = key then some v else m x
/-- The map without an entry. -/
noncomputable def mdel (m : Value → Option Value) (key : Value) : Value → Option Value := by classical exact fun x => if x = key then none else m x
theorem mput_same (m : Value → Option Value) (key v : Value) : mput m key v key = some v := by unfold mput; simp
theorem mput_other (m : Value → Option Value) {key x : Value} (v : Value) (h : x ≠ key) : mput m key v x = m x := by unfold mput; simp [h]
theorem mdel_same (m : Value → Option Value) (key : Value) : mdel m key key = none := by unfold mdel; simp
theorem mdel_other (m : Value → Option Value) {key x : Value} (h : x ≠ key) : mdel m key x = m x := by unfold mdel; simp [h]

/-- 'm[k] = v'. -/
theorem MapIs.store (h : MapIs P k w b n m) (K : Keyed P k) {t e : TypeId} (ht : P.underlying t = some (.map k e)) (hn : n < maxLen) {key : Value} {kl : Lit} (hkey : keyOf P k key = some kl) (v : Value) :
    ∃ w', (Instr.mapUpdate t (.map (some b)) key v).run P w = .ok () w' ∧ MapIs P k w' b (n + 1) (mput m key v) ∧ w.grownBy w' (some b) := by
  obtain ⟨D, h1, h2⟩ := h
  obtain ⟨w', hrun, r1, r2⟩ := h1.update K ht hn hkey (show rawElem v = some (.held v, []) from rfl)
  refine ⟨w', hrun, ⟨_, r1, fun x xl hx => ?_⟩, r2⟩
  by_cases he : x = key
  · subst he
    rw [hkey] at hx; cases hx
    rw [mput_same]
    refine ⟨by rw [Maps.has_put_same h1.isMap (K.key hkey)]; rfl, fun u hu z => ?_⟩
    cases hu
    rw [Maps.atKey_put_same h1.isMap (K.key hkey)]
  · have hne : xl ≠ kl := fun e => he (K.inj hx (e ▸ hkey))
    rw [mput_other m v he, Maps.has_put_other hne]
    refine ⟨(h2 x xl hx).1, fun u hu z => ?_⟩
    rw [Maps.atKey_put_other hne]
    exact (h2 x xl hx).2 u hu z

/-- 'delete(m, k)'. -/
theorem MapIs.drop (h : MapIs P k w b n m) (K : Keyed P k) {t e : TypeId} (ht : P.underlying t = some (.map k e)) {key : Value} {kl : Lit} (hkey : keyOf P k key = some kl) (ty : TypeId) :
    ∃ w', (Builtin.delete_ #[t, k] ty #[.map (some b), key]).run P w = .ok (.tuple #[]) w' ∧ MapIs P k w' b n (mdel m key) ∧ w.grownBy w' (some b) := by
  obtain ⟨D, h1, h2⟩ := h
  obtain ⟨w', hrun, r1, r2⟩ := h1.drop K ht hkey ty
  refine ⟨w', hrun, ⟨_, r1, fun x xl hx => ?_⟩, r2.grown⟩
  by_cases he : x = key
  · subst he
    rw [hkey] at hx; cases hx
    rw [mdel_same]
    exact ⟨Maps.has_del_same, fun u hu => by cases hu⟩
  · have hne : xl ≠ kl := fun e => he (K.inj hx (e ▸ hkey))
    rw [mdel_other m he, Maps.has_del_other hne]
    refine ⟨(h2 x xl hx).1, fun u hu z => ?_⟩
    rw [Maps.atKey_del_other hne]
    exact (h2 x xl hx).2 u hu z
end

/-! ### at the operation, for the walk -/
section
variable {P : Program} (w : World) {ops : Array Oper} {rest : List Oper} {o : Oper} {a : Act} {Q : Exit → Act → World → Prop}

theorem wpList_mstore (hg : o.guard = none) (mo x v : Operand) (t : TypeId) (hop : o.op = Op.mapUpdate t mo x v)
    (k e : TypeId) (K : Keyed P k) (ht : P.underlying t = some (.map k e)) (b n : Nat) (m : Value → Option Value)
    (hm : a.eval mo = .map (some b)) (hown : MapIs P k w b n m) (hn : n < maxLen) (key val : Value) (kl : Lit) (hx : a.eval x = key) (hv : a.eval v = val) (hkey : keyOf P k key = some kl)
    (hK : ∀ w', MapIs P k w' b (n + 1) (mput m key val) → w.grownBy w' (some b) → wpList P ops Q rest (a.put o.dst undef) w') :
    wpList P ops Q (o :: rest) a w := by
  refine wpList_plain hg fun K' hK' => ?_
  obtain ⟨w', hrun, r1, r2⟩ := hown.store K ht hn hkey val
  unfold Oper.wp
  simp [execOp, hop, hm, hx, hv, hrun, Result.andThen]
  exact hK' _ _ (hK w' r1 r2)

theorem wpList_mdrop (hg : o.guard = none) (mo x : Operand) (t k : TypeId) (hop : o.op = Op.call { callee := Callee.builtin Builtin.delete, args := #[mo, x], argTypes := #[t, k] })
    (e : TypeId) (K : Keyed P k) (ht : P.underlying t = some (.map k e)) (b n : Nat) (m : Value → Option Value)
    (hm : a.eval mo = .map (some b)) (hown : MapIs P k w b n m) (key : Value) (kl : Lit) (hx : a.eval x = key) (hkey : keyOf P k key = some kl)
    (hK : ∀ w', MapIs P k w' b n (mdel m key) → w.grownBy w' (some b) → wpList P ops Q rest (a.put o.dst (.tuple #[])) w') :
    wpList P ops Q (o :: rest) a w := by
  refine wpList_plain hg fun K' hK' => ?_
  obtain ⟨w', hrun, r1, r2⟩ := hown.drop K ht hkey o.type
  unfold Oper.wp
  simp [execOp, hop, resolve, invoke, builtin, hm, hx, hrun, Result.andThen]
  exact hK' _ _ (hK w' r1 r2)

theorem wpList_mlook (hg : o.guard = none) (mo x : Operand) (t : TypeId) (hop : o.op = Op.lookup t mo x false)
    (k e : TypeId) (K : Keyed P k) (ht : P.underlying t = some (.map k e)) (z : Value) (hz : (zeroValue e).run P w = .ok z w) (b n : Nat) (m : Value → Option Value)
    (hm : a.eval mo = .map (some b)) (hown : MapIs P k w b n m) (key : Value) (kl : Lit) (hx : a.eval x = key) (hkey : keyOf P k key = some kl)
    (hK : wpList P ops Q rest (a.put o.dst ((m key).getD z)) w) :
    wpList P ops Q (o :: rest) a w := by
  refine wpList_plain hg fun K' hK' => ?_
  have hrun := hown.look K ht hz hkey
  unfold Oper.wp
  simp [execOp, hop, hm, hx, hrun, Result.andThen]
  exact hK' _ _ hK

theorem wpList_mlook_ok (hg : o.guard = none) (mo x : Operand) (t : TypeId) (hop : o.op = Op.lookup t mo x true)
    (k e : TypeId) (K : Keyed P k) (ht : P.underlying t = some (.map k e)) (z : Value) (hz : (zeroValue e).run P w = .ok z w) (b n : Nat) (m : Value → Option Value)
    (hm : a.eval mo = .map (some b)) (hown : MapIs P k w b n m) (key : Value) (kl : Lit) (hx : a.eval x = key) (hkey : keyOf P k key = some kl)
    (hK : wpList P ops Q rest (a.put o.dst (.tuple #[(m key).getD z, .bool (m key).isSome])) w) :
    wpList P ops Q (o :: rest) a w := by
  refine wpList_plain hg fun K' hK' => ?_
  have hrun := hown.look_ok K ht hz hkey
  unfold Oper.wp
  simp [execOp, hop, hm, hx, hrun, Result.andThen]
  exact hK' _ _ hK
end

/-! ### what has turned -/
/-- But for the blocks F (and new ones) all is as it was. -/
structure Turned (F : Nat → Prop) (w w' : World) : Prop where
  os : w'.os = w.os
  tape : w'.tape = w.tape
  output : w'.output = w.output
  size : w.heap.size ≤ w'.heap.size
  block : ∀ k, k < w.heap.size → ¬ F k → w'.heap[k]? = w.heap[k]?

theorem Turned.refl (F : Nat → Prop) (w : World) : Turned F w w := ⟨rfl, rfl, rfl, Nat.le_refl _, fun _ _ _ => rfl⟩
theorem Turned.trans {F : Nat → Prop} {a b c : World} (h : Turned F a b) (k : Turned F b c) : Turned F a c :=
  ⟨k.os.trans h.os, k.tape.trans h.tape, k.output.trans h.output, Nat.le_trans h.size k.size, fun i hi hf => (k.block i (Nat.lt_of_lt_of_le hi h.size) hf).trans (h.block i hi hf)⟩
theorem Turned.mono {F G : Nat → Prop} {w w' : World} (h : Turned F w w') (hFG : ∀ k, k < w.heap.size → F k → G k) : Turned G w w' :=
  ⟨h.os, h.tape, h.output, h.size, fun k hk hg => h.block k hk (fun hf => hg (hFG k hk hf))⟩
/-- One behind the other, where the second turns what the first does, or what is new. -/
theorem Turned.andThen {F G : Nat → Prop} {a b c : World} (h : Turned F a b) (k : Turned G b c) (hG : ∀ i, G i → F i ∨ a.heap.size ≤ i) : Turned F a c :=
  ⟨k.os.trans h.os, k.tape.trans h.tape, k.output.trans h.output, Nat.le_trans h.size k.size, fun i hi hf =>
    (k.block i (Nat.lt_of_lt_of_le hi h.size) (fun hg => (hG i hg).elim hf (fun hge => by omega))).trans (h.block i hi hf)⟩
theorem Turned.of_below {w w' : World} (F : Nat → Prop) (h : Below w.heap.size w w') : Turned F w w' := ⟨h.os, h.tape, h.output, h.size, fun k hk _ => h.block k hk⟩
theorem Turned.below {F : Nat → Prop} {w w' : World} (h : Turned F w w') {B : Nat} (hB : B ≤ w.heap.size) (hF : ∀ k, F k → B ≤ k) : Below B w w' :=
  ⟨h.os, h.tape, h.output, h.size, fun k hk => h.block k (Nat.lt_of_lt_of_le hk hB) (fun hf => by have := hF k hf; omega)⟩
theorem Turned.alloc {F : Nat → Prop} {a w : World} (h : Turned F a w) (o : Obj) : Turned F a (w.alloc o) :=
  h.trans (Turned.of_below F ((Below.refl w.heap.size w).alloc (Nat.le_refl _) o))
theorem Turned.drew {F : Nat → Prop} {a w : World} (h : Turned F a w) : Turned F a w.drew := ⟨h.os, h.tape, h.output, h.size, h.block⟩
theorem Turned.setCell {F : Nat → Prop} {a w : World} (h : Turned F a w) {p : Addr} (hp : F p.block ∨ a.heap.size ≤ p.block) (u : Value) : Turned F a (w.setCell p u) := by
  have e := (Below.refl p.block w).setCell (p := p) (Nat.le_refl _) u
  refine ⟨e.os.trans h.os, e.tape.trans h.tape, e.output.trans h.output, Nat.le_trans h.size e.size, fun k hk hf => ?_⟩
  rw [Below.heap_setCell w p u k (fun e => hp.elim (fun h' => hf (e ▸ h')) (fun h' => by omega))]
  exact h.block k hk hf
theorem Turned.grown {F : Nat → Prop} {a w w' : World} {row : Option Nat} (h : Turned F a w) (hg : w.grownBy w' row) (hr : ∀ k, row = some k → F k ∨ a.heap.size ≤ k) : Turned F a w' := by
  refine ⟨hg.os.trans h.os, hg.tape.trans h.tape, hg.output.trans h.output, Nat.le_trans h.size hg.size, fun k hk hf => ?_⟩
  rw [hg.block k (Nat.lt_of_lt_of_le hk h.size) (fun e => (hr k e.symm).elim hf (fun h' => by omega))]
  exact h.block k hk hf
theorem Turned.cell {F : Nat → Prop} {w w' : World} (h : Turned F w w') {p : Addr} (hp : p.block < w.heap.size) (hF : ¬ F p.block) : w'.cell? p = w.cell? p := World.cell?_of_block (w := w) (h.block p.block hp hF)
/-- A row whose block has not turned reads as it did. -/
theorem Row.turned {k : IntKind} {w w' : World} {a : Option Addr} {len cap : Nat} {zs : List Int} {F : Nat → Prop} (h : Row k w a len cap zs) (hb : Turned F w w') (hF : 0 < len → ∀ x, a = some x → ¬ F x.block) : Row k w' a len cap zs := by
  refine ⟨h.hlen, h.hcap, h.hmax, h.hnil, fun h0 => ?_⟩
  obtain ⟨b, off, rfl, hbs, hcell⟩ := h.hcell h0
  refine ⟨b, off, rfl, by have := hb.size; omega, fun i hi => ?_⟩
  rw [hb.cell (p := ⟨b, off + i, none⟩) hbs (hF h0 ⟨b, off, none⟩ rfl)]
  exact hcell i hi
/-- A row whose block is as it was. -/
theorem Row.same {k : IntKind} {w w' : World} {b o : Nat} {len cap : Nat} {zs : List Int} (h : Row k w (some ⟨b, o, none⟩) len cap zs) (hs : w.heap.size ≤ w'.heap.size) (hb : w'.heap[b]? = w.heap[b]?) : Row k w' (some ⟨b, o, none⟩) len cap zs := by
  refine ⟨h.hlen, h.hcap, h.hmax, h.hnil, fun h0 => ?_⟩
  obtain ⟨b', off, he, hbs, hcell⟩ := h.hcell h0
  cases he
  refine ⟨b, o, rfl, by omega, fun i hi => ?_⟩
  rw [World.cell?_of_block (w := w) (show w'.heap[(⟨b, o + i, none⟩ : Addr).block]? = w.heap[(⟨b, o + i, none⟩ : Addr).block]? from hb)]
  exact hcell i hi

/-- A row that lies in none of the blocks F. -/
structure Off (F : Nat → Prop) (k : IntKind) (w : World) (a : Option Addr) (len cap : Nat) (z : List Int) : Prop where
  row : Row k w a len cap z
  off : 0 < len → ∀ x, a = some x → ¬ F x.block
theorem Off.step {F F' : Nat → Prop} {k : IntKind} {w w' : World} {a : Option Addr} {len cap : Nat} {z : List Int} (h : Off F k w a len cap z) (t : Turned F w w') (f : ∀ x, F' x → F x ∨ w.heap.size ≤ x) : Off F' k w' a len cap z := by
  refine ⟨h.row.turned t h.off, fun h0 x hx hF => ?_⟩
  rcases f _ hF with h1 | h1
  · exact h.off h0 x hx h1
  · obtain ⟨b, o, e, hb, _⟩ := h.row.hcell h0
    rw [hx] at e
    have : x.block = b := by cases e; rfl
    omega
theorem Off.below {F : Nat → Prop} {k : IntKind} {w w' : World} {a : Option Addr} {len cap : Nat} {z : List Int} (h : Off F k w a len cap z) (q : Below w.heap.size w w') : Off F k w' a len cap z := ⟨h.row.below q (Nat.le_refl _), h.off⟩
/-- A row that was there ahead of all of them. -/
theorem Off.of_old {F : Nat → Prop} {k : IntKind} {w : World} {a : Option Addr} {len cap : Nat} {z : List Int} {B : Nat} (h : Row k w a len cap z) (hb : 0 < len → ∀ x, a = some x → x.block < B) (hF : ∀ x, F x → B ≤ x) : Off F k w a len cap z :=
  ⟨h, fun h0 x hx hf => by have := hb h0 x hx; have := hF _ hf; omega⟩
theorem Row.blk_lt {k : IntKind} {w : World} {a : Option Addr} {len cap : Nat} {z : List Int} (h : Row k w a len cap z) : 0 < len → ∀ x, a = some x → x.block < w.heap.size := fun h0 x hx => by
  obtain ⟨b, o, e, hb, _⟩ := h.hcell h0
  rw [hx] at e
  have : x.block = b := by cases e; rfl
  omega

end Go.Proofs.Ytabiipibckmalaa
