/-
  A store inside a range over a function: of the chip's blocks those that are no cells lie ahead of the loop (LAt), so that what the loop itself lays and turns leaves it alone.
-/
import Derived.Test.YtbafkakhhelcmaaGreatStoreCode2
import Derived.Test.YtbafkakhhelcmaaGreatStoreRound
import Derived.Test.YtbafkakhhelcmaaGreatPackF
namespace Go.Proofs.YtbafkakhhelcmaaGreat
open Go.RowKit Go.Maps
set_option linter.unusedVariables false
set_option maxRecDepth 8192

def CellsAt (w : World) (x : Nat) : Prop := ∃ o : Obj, w.heap[x]? = some o ∧ o.isCells = true
theorem cellsAt_of {w : World} {a : Addr} {v : Value} (h : w.cell? a = some v) : CellsAt w a.block := by
  unfold World.cell? at h
  split at h
  · rename_i c t f e; exact ⟨_, e, rfl⟩
  · cases h
theorem CellsAt.same {w w' : World} {x : Nat} (h : CellsAt w x) (e : w'.heap[x]? = w.heap[x]?) : CellsAt w' x := by obtain ⟨o, h1, h2⟩ := h; exact ⟨o, e.trans h1, h2⟩
theorem CellsAt.lt {w : World} {x : Nat} (h : CellsAt w x) : x < w.heap.size := by obtain ⟨o, h1, _⟩ := h; exact (Array.getElem?_eq_some_iff.1 h1).1
/-- What the loop's law may turn: no cells. -/
theorem CellsAt.ne {w : World} {x : Nat} {row : Option Nat} {k : Nat} (h : CellsAt w x) (hr : ∀ r, row = some r → k ≤ r ∧ ∃ o : Obj, w.heap[r]? = some o ∧ o.isCells = false) : some x ≠ row := by
  intro e
  obtain ⟨_, o, h1, h2⟩ := hr x e.symm
  obtain ⟨o', h1', h2'⟩ := h
  rw [h1] at h1'
  cases h1'
  rw [h2] at h2'
  cases h2'
section
variable {G : Geo} {B : CB} {F F' : Nat → Prop} {N N' : Nat} {S S' : CS} {d s g k : Nat} {st : List Int} {nu : Int} {dn : Bool} {w w' : World}
theorem ChipAt.limit (h : ChipAt G B F N S w) (hk : w.heap.size ≤ k) : ChipAt G { B with lim := k } F N S w := by
  obtain ⟨m, hm, hb⟩ := h.wrong
  refine ⟨h.cell, h.apart, h.inF, h.fresh, h.pages, h.next, h.marked, h.weak, ⟨m, hm, fun b p => ?_⟩, h.fu, h.ah, h.ke⟩
  obtain ⟨h1, h2⟩ := hb b p
  refine ⟨h1, h2.imp id (fun ⟨x, e, hF, hB, hs⟩ => ⟨x, e, hF, ⟨hB.1, .inr ?_⟩, hs⟩)⟩
  exact Nat.lt_of_lt_of_le (h.fresh x hF) hk
theorem ChipAt.free (h : ChipAt G { B with lim := k } F N S w) (hl : B.lim = 0) : ChipAt G B F N S w := by
  obtain ⟨m, hm, hb⟩ := h.wrong
  refine ⟨h.cell, h.apart, h.inF, h.fresh, h.pages, h.next, h.marked, h.weak, ⟨m, hm, fun b p => ?_⟩, h.fu, h.ah, h.ke⟩
  obtain ⟨h1, h2⟩ := hb b p
  exact ⟨h1, h2.imp id (fun ⟨x, e, hF, hB, hs⟩ => ⟨x, e, hF, ⟨hB.1, .inl hl⟩, hs⟩)⟩
def trimF (F : Nat → Prop) (k : Nat) (w : World) : Nat → Prop := fun x => F x ∧ (x < k ∨ CellsAt w x)
theorem ChipAt.trim (h : ChipAt G B F N S w) (h0 : 0 < B.lim ∧ B.lim ≤ k) (hall : ∀ x ∈ B.all, x < k) : ChipAt G B (trimF F k w) N S w := by
  obtain ⟨m, hm, hb⟩ := h.wrong
  obtain ⟨m2, hm2, hp⟩ := h.pages
  refine ⟨h.cell, h.apart, fun x hx => ⟨h.inF x hx, .inl (hall x hx)⟩, fun x hx => h.fresh x hx.1, ⟨m2, hm2, fun b p => ?_⟩, h.next, h.marked, h.weak, ⟨m, hm, fun b p => ?_⟩, h.fu, h.ah, h.ke⟩
  · obtain ⟨h1, h2, h3⟩ := hp b p
    refine ⟨h1, h2, h3.imp id (fun ⟨x, e, hF, hB, hr⟩ => ⟨x, e, ⟨hF, .inr ?_⟩, hB, hr⟩)⟩
    have := G.ok.L2
    obtain ⟨b', off, e', _, hc⟩ := hr.hcell (by omega)
    simp only [Option.some.injEq, Addr.mk.injEq, and_true] at e'
    have hc0 := hc 0 (by omega)
    have := cellsAt_of hc0
    rw [e'.1]; exact this
  · obtain ⟨h1, h2⟩ := hb b p
    refine ⟨h1, h2.imp id (fun ⟨x, e, hF, hB, hs⟩ => ⟨x, e, ⟨hF, .inl ?_⟩, hB, hs⟩)⟩
    rcases hB.2 with hl | hl
    · omega
    · omega
/-- A store in a loop that began at k. -/
structure LAt (G : Geo) (B : CB) (k : Nat) (F : Nat → Prop) (N : Nat) (S : CS) (d s g : Nat) (st : List Int) (nu : Int) (dn : Bool) (w : World) : Prop where
  at_ : StAt G B F N S d s g st nu dn w
  tr : ∀ x, F x → x < k ∨ CellsAt w x
  all : ∀ x ∈ B.all, x < k
  lm : 0 < B.lim ∧ B.lim ≤ k
theorem lat_of (h : StAt G B F N S d s g st nu dn w) (hlim : B.lim ≤ w.heap.size) : ∃ B' : CB, LAt G B' w.heap.size F N S d s g st nu dn w ∧ ∀ F N S st nu dn w', StAt G B' F N S d s g st nu dn w' → StAt G B F N S d s g st nu dn w' := by
  have hp : 0 < w.heap.size := Nat.lt_of_le_of_lt (Nat.zero_le _) h.sb.slt
  have hall : ∀ x ∈ B.all, x < w.heap.size := fun x hx => h.chip.fresh x (h.chip.inF x hx)
  by_cases h0 : B.lim = 0
  · exact ⟨{ B with lim := w.heap.size }, ⟨⟨h.chip.limit (Nat.le_refl _), h.db, h.sb, h.fd, h.fs, h.fg, h.sd, h.gd⟩, fun x hx => .inl (h.chip.fresh x hx), hall, hp, Nat.le_refl _⟩, fun F N S st nu dn w' k => ⟨k.chip.free h0, k.db, k.sb, k.fd, k.fs, k.fg, k.sd, k.gd⟩⟩
  · exact ⟨B, ⟨h, fun x hx => .inl (h.chip.fresh x hx), hall, by omega, hlim⟩, fun F N S st nu dn w' k => k⟩
theorem LAt.below (h : LAt G B k F N S d s g st nu dn w) (q : Below w.heap.size w w') : LAt G B k F N S d s g st nu dn w' :=
  ⟨h.at_.below q, fun x hx => (h.tr x hx).imp id (fun c => c.same (q.block x c.lt)), h.all, h.lm⟩
theorem SBox.cells (h : SBox w s d g st nu dn) : CellsAt w s ∧ CellsAt w g := ⟨⟨_, h.box, rfl⟩, ⟨_, h.row, rfl⟩⟩
/-- It abides what the loop's law turns. -/
theorem LAt.own (h : LAt G B k F N S d s g st nu dn w) {row : Option Nat} (hg : w.grownBy w' row) (hr : ∀ r, row = some r → k ≤ r ∧ ∃ o : Obj, w.heap[r]? = some o ∧ o.isCells = false) : LAt G B k F N S d s g st nu dn w' := by
  have hne : ∀ x, F x → some x ≠ row := fun x hx e => by
    rcases h.tr x hx with h1 | h1
    · have := (hr x e.symm).1; omega
    · exact h1.ne hr e
  have hsb := h.at_.sb.cells
  have hdc := cellsAt_of h.at_.db.c0
  refine ⟨⟨h.at_.chip.kept hg.size (fun x hx => hg.block x (h.at_.chip.fresh x hx) (hne x hx)), ?_, ?_, h.at_.fd, h.at_.fs, h.at_.fg, h.at_.sd, h.at_.gd⟩, fun x hx => ?_, h.all, h.lm⟩
  · exact ⟨Nat.lt_of_lt_of_le h.at_.db.lt hg.size, by rw [World.cell?_of_block (hg.block d h.at_.db.lt (hdc.ne hr))]; exact h.at_.db.c0⟩
  · exact h.at_.sb.same (hg.block s h.at_.sb.slt (hsb.1.ne hr)) (hg.block g h.at_.sb.glt (hsb.2.ne hr))
  · exact (h.tr x hx).imp id (fun c => c.same (hg.block x (h.at_.chip.fresh x hx) (hne x hx)))
theorem LAt.keeps (h : LAt G B k F N S d s g st nu dn w) (t : Turned F w w') : KeepsFrom k w w' := by
  refine ⟨t.size, fun j o hj ho hc => ?_⟩
  rw [t.block j (Array.getElem?_eq_some_iff.1 ho).1 (fun hf => ?_)]
  · exact ho
  · rcases h.tr j hf with h1 | ⟨o', h1, h2⟩
    · omega
    · rw [ho] at h1; cases h1; rw [hc] at h2; cases h2
/-- A call of its drive or chip. -/
theorem LAt.does (h : LAt G B k F N S d s g st nu dn w) (dd : Does G B F N' w S' w') : ∃ F', LAt G B k F' N' S' d s g st nu dn w' ∧ SDoes F s g w F' w' ∧ Turned F w w' ∧ KeepsFrom k w w' := by
  obtain ⟨F', h1, t, f⟩ := dd
  have hn : ∀ x, x < w.heap.size → ¬ F x → ¬ trimF F' k w' x := fun x hx hf hf' => (f x hf'.1).elim hf (fun e => by omega)
  refine ⟨trimF F' k w', ⟨⟨h1.trim h.lm h.all, h.at_.db.turned t h.at_.fd, h.at_.sb.turned t h.at_.fs h.at_.fg, hn d h.at_.db.lt h.at_.fd, hn s h.at_.sb.slt h.at_.fs, hn g h.at_.sb.glt h.at_.fg, h.at_.sd, h.at_.gd⟩, fun x hx => hx.2, h.all, h.lm⟩, SDoes.of_turned t (fun x hx => f x hx.1), t, h.keeps t⟩
theorem LAt.mono (h : LAt G B k F N S d s g st nu dn w) (hN : N ≤ N') : LAt G B k F N' S d s g st nu dn w := ⟨h.at_.mono hN, h.tr, h.all, h.lm⟩
theorem LAt.setCell (h : LAt G B k F N S d s g st nu dn w) {p : Addr} (hp : p.block = s ∨ p.block = g) (v : Value) {st' : List Int} {nu' : Int} {dn' : Bool} (hb : SBox (w.setCell p v) s d g st' nu' dn') :
    LAt G B k F N S d s g st' nu' dn' (w.setCell p v) ∧ SDoes F s g w F (w.setCell p v) := by
  obtain ⟨h1, h2⟩ := h.at_.setCell hp v hb
  refine ⟨⟨h1, fun x hx => (h.tr x hx).imp id (fun c => c.same (Below.heap_setCell w p v x (fun e => ?_))), h.all, h.lm⟩, h2⟩
  rcases hp with hp | hp
  · exact h.at_.fs (hp ▸ e ▸ hx)
  · exact h.at_.fg (hp ▸ e ▸ hx)
/-- A store into a block that lies in none of it. -/
theorem LAt.setOff (h : LAt G B k F N S d s g st nu dn w) {p : Addr} (hF : ¬ F p.block) (hs : p.block ≠ s) (hg : p.block ≠ g) (hd : p.block ≠ d) (v : Value) : LAt G B k F N S d s g st nu dn (w.setCell p v) := by
  have hb : ∀ x, x ≠ p.block → (w.setCell p v).heap[x]? = w.heap[x]? := fun x hx => Below.heap_setCell w p v x hx
  have hsz : w.heap.size ≤ (w.setCell p v).heap.size := by simp
  refine ⟨⟨h.at_.chip.kept hsz (fun x hx => hb x (fun e => hF (e ▸ hx))), ?_, h.at_.sb.same (hb s (Ne.symm hs)) (hb g (Ne.symm hg)), h.at_.fd, h.at_.fs, h.at_.fg, h.at_.sd, h.at_.gd⟩, fun x hx => (h.tr x hx).imp id (fun c => c.same (hb x (fun e => hF (e ▸ hx)))), h.all, h.lm⟩
  exact ⟨Nat.lt_of_lt_of_le h.at_.db.lt hsz, by rw [World.cell?_of_block (hb d (Ne.symm hd))]; exact h.at_.db.c0⟩
theorem SDoes.own {W : World} (h : SDoes F s g W F' w) {row : Option Nat} (hg : w.grownBy w' row) (hr : ∀ r, row = some r → W.heap.size ≤ r) : SDoes F s g W F' w' := ⟨h.tn.grown hg (fun r e => .inr (hr r e)), h.nw⟩
theorem OffS.own {kd : IntKind} {a : Option Addr} {len cap : Nat} {z : List Int} (h : OffS F s g kd w a len cap z) {row : Option Nat} (hg : w.grownBy w' row) (hr : ∀ r, row = some r → ∃ o : Obj, w.heap[r]? = some o ∧ o.isCells = false) : OffS F s g kd w' a len cap z := ⟨row_kept h.row hg hr, h.off⟩
end

/-! ### slices.Chunk -/
/-- The places of the pieces. -/
abbrev Ch (R len : Nat) := { i : Nat // i * R < len }
def Keeps2 (b1 b2 : Nat) (W W' : World) : Prop := KeepsBox b1 W W' ∧ KeepsBox b2 W W'
theorem keeps2_t {b1 b2 : Nat} {A B C : World} (h : Keeps2 b1 b2 A B) (k : Keeps2 b1 b2 B C) : Keeps2 b1 b2 A C := ⟨keepsBox_t h.1 k.1, keepsBox_t h.2 k.2⟩
theorem keeps2_b {b1 b2 : Nat} {w : World} (W : World) (l : Nat) (o o' : Obj) (h0 : w.heap.size ≤ l) (h : W.heap[l]? = some o) (hc : o.isCells = false) (hw : o.isWalk = false) : Keeps2 b1 b2 W (W.putObj l o') := ⟨keepsBox_b (w := w) W l o o' h0 h hc hw, keepsBox_b (w := w) W l o o' h0 h hc hw⟩
end Go.Proofs.YtbafkakhhelcmaaGreat
