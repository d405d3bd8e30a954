/-
  Regions that draw their order, whose operations read and whose calls leave what is old: the reads are taken first, in batches; then the one call that may come up; and on. No order is branched over.
-/
import Derived.Deep.RegionHeld2
import Derived.Below
import Derived.BigRegion
namespace Go.Proofs.Ytagppgdigabbmaa
open Go Go.RowKit
set_option linter.unusedVariables false
set_option maxRecDepth 8192

/-- Nothing that w had has turned. -/
def Since (w w' : World) : Prop := Below w.heap.size w w'
theorem Since.refl (w : World) : Since w w := Below.refl _ _
theorem Since.drew (w : World) : Since w w.drew := (Below.refl _ _).drew
theorem Since.trans {a b c : World} (h : Since a b) (k : Since b c) : Since a c := Below.trans h (k.mono h.size)

section
variable {P : Program} {ops : Array Oper} {Q : Exit → Act → World → Prop} {md : Region.Mode} {S S' : World → Prop}

/-- A stronger condition serves. -/
theorem held_strong (h : ∀ w, S' w → S w) : ∀ (fuel : Nat) (listed : Array Bool) (a : Act) (w : World), wpAnyH P md ops Q S' fuel listed a w → wpAnyH P md ops Q S fuel listed a w
  | 0, _, _, _, hh => hh
  | fuel + 1, _, _, _, hh => ⟨hh.1, fun i hi => wpOp_mono (fun a' w' h' => ⟨h _ h'.1, held_strong h fuel _ a' w' h'.2⟩) (hh.2 i hi)⟩

/-- Each of these may come up in its turn, and nobody who could come before it touches its temporaries. -/
def batchB (md : Region.Mode) (ops : Array Oper) : List Nat → Array Bool → Bool
  | [], _ => true
  | i :: rs, listed => Region.free md ops listed i && ((Region.ready md ops listed).contains i && batchB md ops rs (listed.setIfInBounds i true))
def marked : List Nat → Array Bool → Array Bool
  | [], listed => listed
  | i :: rs, listed => marked rs (listed.setIfInBounds i true)

/-- The reads of a batch, one behind the other: each yields its value in every world that meets S. -/
def wpCalm (P : Program) (ops : Array Oper) (S : World → Prop) (K : Act → Prop) : List Nat → Act → Prop
  | [], a => K a
  | i :: rs, a => ∃ o v, ops[i]? = some o ∧ YieldsIf P ops S o v a ∧ wpCalm P ops S K rs (a.put o.dst v)

theorem calm_nil {K : Act → Prop} {a : Act} (h : K a) : wpCalm P ops S K [] a := h
/-- An operation that is wanted. -/
theorem calm_do {K : Act → Prop} {i : Nat} {rs : List Nat} {a : Act} {o : Oper} (v : Value) (ho : ops[i]? = some o) (hw : Region.wanted o (yielded ops a.tmps) = true)
    (hv : ∀ w, S w → (execOp a.eval o).run P w = .ok (.value v) w) (h : wpCalm P ops S K rs (a.put o.dst v)) : wpCalm P ops S K (i :: rs) a :=
  ⟨o, v, ho, .inl ⟨hw, hv⟩, h⟩
/-- A copy. -/
theorem calm_move {K : Act → Prop} {i : Nat} {rs : List Nat} {a : Act} {o : Oper} (x : Operand) (ho : ops[i]? = some o) (hw : Region.wanted o (yielded ops a.tmps) = true)
    (hop : o.op = .move x) (h : wpCalm P ops S K rs (a.put o.dst (a.eval x))) : wpCalm P ops S K (i :: rs) a :=
  calm_do _ ho hw (fun w _ => BigFrame.run_move x hop w) h
theorem calm_assign {K : Act → Prop} {i : Nat} {rs : List Nat} {a : Act} {o : Oper} (x : Operand) (ho : ops[i]? = some o) (hw : Region.wanted o (yielded ops a.tmps) = true)
    (hop : o.op = .assign x) (h : wpCalm P ops S K rs (a.put o.dst (a.eval x))) : wpCalm P ops S K (i :: rs) a :=
  calm_do _ ho hw (fun w _ => BigFrame.run_assign x hop w) h
/-- An operation that is not wanted. -/
theorem calm_skip {K : Act → Prop} {i : Nat} {rs : List Nat} {a : Act} {o : Oper} (ho : ops[i]? = some o) (hw : Region.wanted o (yielded ops a.tmps) = false)
    (h : wpCalm P ops S K rs (a.put o.dst undef)) : wpCalm P ops S K (i :: rs) a :=
  ⟨o, undef, ho, .inr ⟨hw, rfl⟩, h⟩

/-- A batch of reads. -/
theorem held_batch (hs : Region.noSelect ops = true) (hQ : ∀ c d v a w, Q (.panic c) (Act.put a d v) w → Q (.panic c) a w) :
    ∀ (rs : List Nat) (fuel : Nat) (listed : Array Bool) (a : Act) (w : World), batchB md ops rs listed = true → S w →
      wpCalm P ops S (fun a' => wpAnyH P md ops Q S fuel (marked rs listed) a' w) rs a → wpAnyH P md ops Q S (fuel + rs.length) listed a w
  | [], fuel, listed, a, w, _, _, h => h
  | i :: rs, fuel, listed, a, w, hb, hS, h => by
    simp only [batchB, Bool.and_eq_true] at hb
    obtain ⟨o, v, ho, hy, hk⟩ := h
    exact wpAnyH_take (fuel := fuel + rs.length) ho hs hb.1 hb.2.1 (fun c a w => hQ c _ _ a w) hy hS (held_batch hs hQ rs fuel _ _ w hb.2.2 hS hk)

/-- The same, what follows behind a variable. -/
theorem held_reads {rs : List Nat} {fuel : Nat} {listed : Array Bool} {a : Act} {w : World} (hs : Region.noSelect ops = true) (hQ : ∀ c d v a w, Q (.panic c) (Act.put a d v) w → Q (.panic c) a w)
    (hb : batchB md ops rs listed = true) (hS : S w) (h : ∀ K : Act → Prop, Hid (∀ a', wpAnyH P md ops Q S fuel (marked rs listed) a' w → K a') → wpCalm P ops S K rs a) :
    wpAnyH P md ops Q S (fuel + rs.length) listed a w :=
  held_batch hs hQ rs fuel listed a w hb hS (h _ (fun _ h => h))

/-- The one operation that may come up (a call): behind it the condition is that nothing which stands there turns. -/
theorem held_call {w0 : World} {i : Nat} {o : Oper} {fuel : Nat} {listed : Array Bool} {a : Act} {w : World} (hr : Region.ready md ops listed = [i]) (ho : ops[i]? = some o)
    (hw : Region.wanted o (yielded ops a.tmps) = true)
    (h : ∀ K' : Act → World → Prop, (∀ a w1, Since w0 w1 → wpAnyH P md ops Q (Since w1) fuel (listed.setIfInBounds i true) a w1 → K' a w1) → Oper.wp P o a w K' Q) :
    wpAnyH P md ops Q (Since w0) (fuel + 1) listed a w := by
  refine wpAnyH_all hr (by simp) fun j hj => ?_
  simp only [List.mem_singleton] at hj
  subst hj
  refine wpOp_step ho fun K' hK => ?_
  rw [if_pos hw]
  exact h K' fun a w1 hs hh => hK a w1 ⟨hs, held_strong (fun _ h' => hs.trans h') _ _ _ _ hh⟩

/-- The beginning. -/
theorem held_begin {id : Nat} {a : Act} {w : World} (hm : P.follows .mixedOrders = true)
    (h : wpAnyH P .any ops Q (Since w) ops.size (Array.replicate ops.size false) a w.drew) : (Code.region id ops true).wp P Q a w :=
  wp_region_held hm h
end

end Go.Proofs.Ytagppgdigabbmaa
