/-
  Blocks beside a store: what turns there turns nothing of the store; a box of one cell (Box1).
-/
import Derived.Test.YtgamakejaknagaaGreatStoreLaw2
namespace Go.Proofs.YtgamakejaknagaaGreat
open Go.RowKit Go.Maps
set_option linter.unusedVariables false
set_option maxRecDepth 8192

section
variable {W w w' : World} {G : Geo} {B : CB} {F F' : Nat → Prop} {N N' : Nat} {S S' : CS} {K K' : Int → BK} {M M' : Int → Option (List Int)} {c : Int} {d s g d' s' g' : Nat} {st st' : List Int} {nu nu' : Int}
/-- A store, where other blocks turned. -/
theorem LS.turned {X : Nat → Prop} (h : LS W G B F N S K M c d s g st nu w) (t : Turned X w w') (hF : ∀ x, F x → ¬ X x) (hd : ¬ X d) (hs : ¬ X s) (hg : ¬ X g) (hW : ∀ x, X x → W.heap.size ≤ x) : LS W G B F N S K M c d s g st nu w' :=
  ⟨⟨h.at_.chip.turned t hF, h.at_.db.turned t hd, h.at_.sb.turned t hs hg, h.at_.fd, h.at_.fs, h.at_.fg, h.at_.sd, h.at_.gd⟩,
   ⟨h.cl.chip.turned t hF, h.cl.lim, h.cl.inv, h.cl.hold, h.cl.le, h.cl.nn, h.cl.low, h.cl.bel.trans (t.below h.cl.bel.size hW)⟩, h.up, h.stok, h.num, h.nu1, h.rest, h.lows, h.lowg⟩
/-- A block that is the store's in no way. -/
structure Free (W : World) (F : Nat → Prop) (d s g x : Nat) (w : World) : Prop where
  f : ¬ F x
  d : x ≠ d
  s : x ≠ s
  g : x ≠ g
  lo : W.heap.size ≤ x
  lt : x < w.heap.size
theorem Free.step {x : Nat} (h : Free W F d s g x w) (q : SDoes F s g w F' w') : Free W F' d s g x w' :=
  ⟨fun hf => (q.nw x hf).elim h.f (fun e => by have := h.lt; omega), h.d, h.s, h.g, h.lo, Nat.lt_of_lt_of_le h.lt q.tn.size⟩
theorem Free.set {x : Nat} (h : Free W F d s g x w) : ¬ SetF F s g x := fun hh => by
  rcases hh with hh | hh | hh
  · exact h.f hh
  · exact h.s hh
  · exact h.g hh
theorem LS.free (h : LS W G B F N S K M c d s g st nu w) {x : Nat} (hx : w.heap.size ≤ x) (hlt : x < w'.heap.size) : Free W F d s g x w' := by
  have h1 := h.at_.chip.fresh
  have h2 := h.at_.db.lt
  have h3 := h.at_.sb.slt
  have h4 := h.at_.sb.glt
  have h5 := h.bel.size
  exact ⟨fun hf => by have := h1 x hf; omega, by omega, by omega, by omega, by omega, hlt⟩
theorem Free.turned {X : Nat → Prop} {x : Nat} (h : Free W F d s g x w) (t : Turned X w w') : Free W F d s g x w' := ⟨h.f, h.d, h.s, h.g, h.lo, Nat.lt_of_lt_of_le h.lt t.size⟩
/-- Beside another store of the chip, that was made since. -/
theorem Free.other {x : Nat} (h : Free W F d s g x w) (hd : w.heap.size ≤ d') (hs : w.heap.size ≤ s') (hg : w.heap.size ≤ g') : Free W F d' s' g' x w :=
  ⟨h.f, by have := h.lt; omega, by have := h.lt; omega, by have := h.lt; omega, h.lo, h.lt⟩
/-- A chip, where other blocks turned. -/
theorem CL.turned {X : Nat → Prop} (h : CL W G B F N S K M c w) (t : Turned X w w') (hF : ∀ x, F x → ¬ X x) (hW : ∀ x, X x → W.heap.size ≤ x) : CL W G B F N S K M c w' :=
  ⟨h.chip.turned t hF, h.lim, h.inv, h.hold, h.le, h.nn, h.low, h.bel.trans (t.below h.bel.size hW)⟩
/-- Blocks that are the store's in no way turned. -/
theorem LS.aside {X : Nat → Prop} (h : LS W G B F N S K M c d s g st nu w) (t : Turned X w w') (hX : ∀ x, X x → Free W F d s g x w) : LS W G B F N S K M c d s g st nu w' :=
  h.turned t (fun x hx hh => (hX x hh).f hx) (fun hh => (hX _ hh).d rfl) (fun hh => (hX _ hh).s rfl) (fun hh => (hX _ hh).g rfl) (fun x hx => (hX x hx).lo)
theorem CL.aside {X : Nat → Prop} (h : CL W G B F N S K M c w) (t : Turned X w w') (hX : ∀ x, X x → Free W F d s g x w) : CL W G B F N S K M c w' :=
  h.turned t (fun x hx hh => (hX x hh).f hx) (fun x hx => (hX x hx).lo)
theorem SBox.aside {X : Nat → Prop} {dn : Bool} (h : SBox w s d g st nu dn) (t : Turned X w w') (hX : ∀ x, X x → Free W F d s g x w) : SBox w' s d g st nu dn :=
  h.turned t (fun hh => (hX _ hh).s rfl) (fun hh => (hX _ hh).g rfl)
theorem turned_put (w : World) (b : Nat) (u : Value) : Turned (fun x => x = b) w (w.setCell ⟨b, 0, none⟩ u) := Turned.setCell (F := fun x => x = b) (Turned.refl _ _) (.inl rfl) u
/-- A box of one cell beside a store. -/
structure Box1 (W : World) (F : Nat → Prop) (d s g b : Nat) (T : TypeId) (v : Value) (w : World) : Prop where
  box : w.heap[b]? = some (.cells #[v] T (0, 0))
  f : Free W F d s g b w
variable {b : Nat} {T : TypeId} {v : Value}
theorem Box1.cell (h : Box1 W F d s g b T v w) : w.cell? ⟨b, 0, none⟩ = some v := by simp [World.cell?, h.box]
theorem Box1.soft (h : Box1 W F d s g b T v w) : w.frozen? ⟨b, 0, none⟩ = false := by simp [World.frozen?, h.box]
theorem Box1.step (h : Box1 W F d s g b T v w) (q : SDoes F s g w F' w') : Box1 W F' d s g b T v w' := ⟨(q.tn.block b h.f.lt h.f.set).trans h.box, h.f.step q⟩
theorem Box1.below (h : Box1 W F d s g b T v w) (q : Below w.heap.size w w') : Box1 W F d s g b T v w' := h.step (SDoes.of_below q)
theorem Box1.put (h : Box1 W F d s g b T v w) (u : Value) : Box1 W F d s g b T u (w.setCell ⟨b, 0, none⟩ u) :=
  ⟨by have := block_setC (i := 0) h.box u; simpa using this, h.f.turned (X := fun x => x = b) (turned_put _ _ u)⟩
theorem Box1.far (h : Box1 W F d s g b T v w) {x : Nat} (hx : b ≠ x) (u : Value) : Box1 W F d s g b T v (w.setCell ⟨x, 0, none⟩ u) :=
  ⟨(Below.heap_setCell w ⟨x, 0, none⟩ u b hx).trans h.box, h.f.turned (X := fun y => y = x) (turned_put _ _ u)⟩
theorem Box1.new (h : LS W G B F N S K M c d s g st nu w) (T : TypeId) (v : Value) : Box1 W F d s g w.heap.size T v (w.alloc (.cells #[v] T)) :=
  ⟨by rw [Array.getElem?_eq_getElem (by simp)]; simp [World.alloc, -World.alloc_eq], h.free (Nat.le_refl _) (by simp)⟩
theorem Box1.ls (h : Box1 W F d s g b T v w) (hl : LS W G B F N S K M c d s g st nu w) (u : Value) : LS W G B F N S K M c d s g st nu (w.setCell ⟨b, 0, none⟩ u) :=
  hl.aside (X := fun x => x = b) (turned_put _ _ u) (fun x e => e ▸ h.f)
theorem Box1.cl (h : Box1 W F d s g b T v w) (hl : CL W G B F N S K M c w) (u : Value) : CL W G B F N S K M c (w.setCell ⟨b, 0, none⟩ u) :=
  hl.aside (d := d) (s := s) (g := g) (X := fun x => x = b) (turned_put _ _ u) (fun x e => e ▸ h.f)
theorem Box1.db (h : Box1 W F d s g b T v w) {x : Nat} (hl : DBox w d x) (u : Value) : DBox (w.setCell ⟨b, 0, none⟩ u) d x :=
  hl.turned (F := fun x => x = b) (turned_put _ _ u) (fun e => h.f.d e.symm)
theorem Box1.off (h : Box1 W F d s g b T v w) {k : IntKind} {a : Option Addr} {len cap : Nat} {z : List Int} (hr : OffS F s g k w a len cap z) (hb : 0 < len → ∀ q : Addr, a = some q → q.block ≠ b) (u : Value) : OffS F s g k (w.setCell ⟨b, 0, none⟩ u) a len cap z := by
  refine ⟨⟨hr.row.hlen, hr.row.hcap, hr.row.hmax, hr.row.hnil, fun h0 => ?_⟩, hr.off⟩
  obtain ⟨bb, off, rfl, hbs, hc⟩ := hr.row.hcell h0
  have t : Turned (fun x => x = b) w (w.setCell ⟨b, 0, none⟩ u) := turned_put _ _ u
  refine ⟨bb, off, rfl, Nat.lt_of_lt_of_le hbs t.size, fun i hi => ?_⟩
  rw [t.cell (p := ⟨bb, off + i, none⟩) hbs (hb h0 ⟨bb, off, none⟩ rfl)]
  exact hc i hi
end
end Go.Proofs.YtgamakejaknagaaGreat
