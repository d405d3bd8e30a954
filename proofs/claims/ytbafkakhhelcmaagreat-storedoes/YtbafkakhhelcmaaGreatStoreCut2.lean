/-
 Layer 11's laws: an operation's box, an assigned map, a chip where other blocks turned.
-/
import Derived.Test.YtbafkakhhelcmaaGreatStoreCut
namespace Go.Proofs.YtbafkakhhelcmaaGreat
open Go.RowKit Go.Maps
set_option linter.unusedVariables false
set_option maxRecDepth 8192

/-- An operation's six cells. -/
def opC (kind leb block n keep : Int) (ra : Option Addr) (rl rc : Nat) : Nat → Value := fun i => if i = 0 then .int .i64 kind else if i = 1 then .int .i64 leb else if i = 2 then .int .i64 block else if i = 3 then .int .i64 n else if i = 4 then .int .i64 keep else .slice ra rl rc
theorem vrow_op (w : World) (kind leb block n keep : Int) (ra : Option Addr) (rl rc : Nat) : VRow (w.alloc (.cells #[.int .i64 kind, .int .i64 leb, .int .i64 block, .int .i64 n, .int .i64 keep, .slice ra rl rc] 45)) w.heap.size 45 6 (opC kind leb block n keep ra rl rc) := by
 refine ⟨_, by rw [Array.getElem?_eq_getElem (by simp)]; simp [World.alloc, -World.alloc_eq]; rfl, fun i hi => ?_⟩
 rcases (show i = 0 ∨ i = 1 ∨ i = 2 ∨ i = 3 ∨ i = 4 ∨ i = 5 by omega) with rfl | rfl | rfl | rfl | rfl | rfl <;> rfl
section
variable {W w w' : World} {G : Geo} {B : CB} {F F' : Nat → Prop} {N N' : Nat} {S S' : CS} {K K' : Int → BK} {M M' : Int → Option (List Int)} {c : Int} {d s g d' s' g' : Nat} {st st' : List Int} {nu nu' : Int}
variable {L mb hb db c1 c2 nb hb' db' c1' c2' ob : Nat} {kind leb block n keep : Int} {ra : Option Addr} {rl rc : Nat}
/-- An operation in its box. -/
structure OB (W : World) (F : Nat → Prop) (d s g ob : Nat) (kind leb block n keep : Int) (ra : Option Addr) (rl rc : Nat) (w : World) : Prop where
 v : VRow w ob 45 6 (opC kind leb block n keep ra rl rc)
 f : Free W F d s g ob w
theorem OB.step (h : OB W F d s g ob kind leb block n keep ra rl rc w) (q : SDoes F s g w F' w') : OB W F' d s g ob kind leb block n keep ra rl rc w' := ⟨h.v.turned q.tn h.f.set, h.f.step q⟩
theorem OB.below (h : OB W F d s g ob kind leb block n keep ra rl rc w) (q : Below w.heap.size w w') : OB W F d s g ob kind leb block n keep ra rl rc w' := h.step (SDoes.of_below q)
theorem OB.turned {X : Nat → Prop} (h : OB W F d s g ob kind leb block n keep ra rl rc w) (t : Turned X w w') (hx : ¬ X ob) : OB W F d s g ob kind leb block n keep ra rl rc w' := ⟨h.v.turned t hx, h.f.turned t⟩
theorem OB.other (h : OB W F d s g ob kind leb block n keep ra rl rc w) (hd : w.heap.size ≤ d') (hs : w.heap.size ≤ s') (hg : w.heap.size ≤ g') : OB W F d' s' g' ob kind leb block n keep ra rl rc w := ⟨h.v, h.f.other hd hs hg⟩
theorem OB.o0 (h : OB W F d s g ob kind leb block n keep ra rl rc w) : w.cell? ⟨ob, 0, none⟩ = some (.int .i64 kind) := h.v.at 0 (by omega)
theorem OB.o1 (h : OB W F d s g ob kind leb block n keep ra rl rc w) : w.cell? ⟨ob, 1, none⟩ = some (.int .i64 leb) := h.v.at 1 (by omega)
theorem OB.o2 (h : OB W F d s g ob kind leb block n keep ra rl rc w) : w.cell? ⟨ob, 2, none⟩ = some (.int .i64 block) := h.v.at 2 (by omega)
theorem OB.o3 (h : OB W F d s g ob kind leb block n keep ra rl rc w) : w.cell? ⟨ob, 3, none⟩ = some (.int .i64 n) := h.v.at 3 (by omega)
theorem OB.o4 (h : OB W F d s g ob kind leb block n keep ra rl rc w) : w.cell? ⟨ob, 4, none⟩ = some (.int .i64 keep) := h.v.at 4 (by omega)
theorem OB.o5 (h : OB W F d s g ob kind leb block n keep ra rl rc w) : w.cell? ⟨ob, 5, none⟩ = some (.slice ra rl rc) := h.v.at 5 (by omega)
theorem LS.more (h : LS W G B F N S K M c d s g st nu w) (hN : N ≤ N') {c' : Int} (hc : c ≤ c') : LS W G B F N' S K M c' d s g st nu w :=
 ⟨h.at_.mono hN, ⟨h.cl.chip.mono hN, h.cl.lim, h.cl.inv, h.cl.hold, fun y y0 y1 => by have := h.cl.le y y0 y1; omega, by have := h.cl.nn; omega, h.cl.low, h.cl.bel⟩, h.up, h.stok, h.num, by have := h.nu1; omega, h.rest, h.lows, h.lowg⟩
/-- A chip, where other blocks turned. -/
theorem CL.turned {X : Nat → Prop} (h : CL W G B F N S K M c w) (t : Turned X w w') (hF : ∀ x, F x → ¬ X x) (hW : ∀ x, X x → W.heap.size ≤ x) : CL W G B F N S K M c w' :=
 ⟨h.chip.turned t hF, h.lim, h.inv, h.hold, h.le, h.nn, h.low, h.bel.trans (t.below h.bel.size hW)⟩
/-- Blocks that are the store's in no way turned. -/
theorem LS.aside {X : Nat → Prop} (h : LS W G B F N S K M c d s g st nu w) (t : Turned X w w') (hX : ∀ x, X x → Free W F d s g x w) : LS W G B F N S K M c d s g st nu w' :=
 h.turned t (fun x hx hh => (hX x hh).f hx) (fun hh => (hX _ hh).d rfl) (fun hh => (hX _ hh).s rfl) (fun hh => (hX _ hh).g rfl) (fun x hx => (hX x hx).lo)
theorem CL.aside {X : Nat → Prop} (h : CL W G B F N S K M c w) (t : Turned X w w') (hX : ∀ x, X x → Free W F d s g x w) : CL W G B F N S K M c w' :=
 h.turned t (fun x hx hh => (hX x hh).f hx) (fun x hx => (hX x hx).lo)
theorem SBox.aside {X : Nat → Prop} {dn : Bool} (h : SBox w s d g st nu dn) (t : Turned X w w') (hX : ∀ x, X x → Free W F d s g x w) : SBox w' s d g st nu dn :=
 h.turned t (fun hh => (hX _ hh).s rfl) (fun hh => (hX _ hh).g rfl)
theorem MB.two (h : MB W F d s g L mb hb db c1 c2 M w) : ∀ x, x = hb ∨ x = db → Free W F d s g x w := by
 rintro x (rfl | rfl)
 ·exact h.fh
 ·exact h.fd
/-- The map in nb is assigned to mb. -/
theorem MB.assign (h : MB W F d s g L mb hb db c1 c2 M w) (h' : MB W F d s g L nb hb' db' c1' c2' M' w) (n1 : mb ≠ hb') (n2 : mb ≠ db') :
  MB W F d s g L mb hb' db' c1' c2' M' ((w.setCell ⟨mb, 0, none⟩ (.slice (some ⟨hb', 0, none⟩) L c1')).setCell ⟨mb, 1, none⟩ (.slice (some ⟨db', 0, none⟩) L c2')) ∧
   Turned (fun x => x = mb) w ((w.setCell ⟨mb, 0, none⟩ (.slice (some ⟨hb', 0, none⟩) L c1')).setCell ⟨mb, 1, none⟩ (.slice (some ⟨db', 0, none⟩) L c2')) := by
 have t : Turned (fun x => x = mb) w ((w.setCell ⟨mb, 0, none⟩ (.slice (some ⟨hb', 0, none⟩) L c1')).setCell ⟨mb, 1, none⟩ (.slice (some ⟨db', 0, none⟩) L c2')) :=
  ((Turned.refl (fun x => x = mb) w).setCell (p := ⟨mb, 0, none⟩) (.inl rfl) _).setCell (p := ⟨mb, 1, none⟩) (.inl rfl) _
 refine ⟨⟨h'.m.turned t (fun e => n1 e.symm) (fun e => n2 e.symm), ?_, h.fm.turned t, h'.fh.turned t, h'.fd.turned t, n1, n2⟩, t⟩
 refine ((h.vb.set 0 (by omega) (.slice (some ⟨hb', 0, none⟩) L c1')).set 1 (by omega) (.slice (some ⟨db', 0, none⟩) L c2')).eq fun i hi => ?_
 rcases (show i = 0 ∨ i = 1 by omega) with rfl | rfl <;> rfl
end
end Go.Proofs.YtbafkakhhelcmaaGreat
