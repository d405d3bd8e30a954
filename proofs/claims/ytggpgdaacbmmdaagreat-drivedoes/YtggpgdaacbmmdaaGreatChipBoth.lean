/-
  The landed chip and the document's beside each other; casematelaw07.same. (Written by tools/gen/chip_both.py.)
-/
import Derived.Test.YtggpgdaacbmmdaaGreatChipRef8
namespace Go.Proofs.YtggpgdaacbmmdaaGreat
open Go Go.RowKit Go.Maps
set_option linter.unusedVariables false
set_option maxRecDepth 8192

/-- Marks are on blocks alone. -/
def Inb (G : Geo) (S : CS) : Prop := ∀ b, S.bd b = true → inB0 b G.b = true
theorem Inb.same {G : Geo} {S S' : CS} (h : Inb G S) (e : S'.bd = S.bd) : Inb G S' := fun b hb => h b (by rw [← e]; exact hb)
theorem Inb.no {G : Geo} {S : CS} (h : Inb G S) {b : Int} (hb : inB0 b G.b = false) : S.bd b = false := by
  cases hh : S.bd b
  · rfl
  · rw [h b hh] at hb; cases hb
theorem counted_bd7 (S : CS) : S.counted.bd = S.bd := by unfold CS.counted; split; · rfl
                                                         · split <;> rfl
theorem inb_mark {G : Geo} {S S1 : CS} (h : Inb G S) (e : S1.bd = S.bd) {x : Int} (hx : inB0 x G.b = true) : Inb G (S1.mark x) := fun b hb => by
  unfold CS.mark at hb
  by_cases hh : b = x
  · rw [hh]; exact hx
  · simp only [hh, if_false] at hb
    exact h b (by rw [← e]; exact hb)
theorem inb_doMark {G : Geo} {S : CS} (h : Inb G S) (x : Int) : Inb G (S.doMark G x).2 := by
  cases hx : inB0 x G.b
  · unfold CS.doMark
    repeat' split
    all_goals first | exact h | (exfalso; simp_all; done)
  · unfold CS.doMark
    repeat' split
    all_goals first | exact h | exact h.same (counted_bd7 S) | exact inb_mark h (counted_bd7 S) hx
theorem inb_doProgram {G : Geo} {S : CS} (h : Inb G S) (x y : Int) (z : List Int) : Inb G (S.doProgram G x y z).2 := by
  unfold CS.doProgram
  repeat' split
  all_goals first | exact h | exact h.same (counted_bd7 S)
theorem inb_doErase {G : Geo} {S : CS} (h : Inb G S) (x : Int) : Inb G (S.doErase G x).2 := by
  unfold CS.doErase
  repeat' split
  all_goals first | exact h | exact h.same (counted_bd7 S)
theorem inb_doWeak {G : Geo} {S : CS} (h : Inb G S) (x : Int) : Inb G (S.doWeak G x) := by unfold CS.doWeak; split <;> exact h.same rfl
theorem inb_doFlip {G : Geo} {S : CS} (h : Inb G S) (x y : Int) (ps : List Int) : Inb G (S.doFlip G x y ps) := by unfold CS.doFlip; split <;> exact h.same rfl
theorem inb_doForce {G : Geo} {S : CS} (h : Inb G S) (x y : Int) (z : List Int) : Inb G (S.doForce G x y z).2 := by unfold CS.doForce; split <;> exact h.same rfl
theorem inb_fresh {G : Geo} {ps : List Int} (h : ∀ x ∈ ps, inB0 x G.b = true) (L k : Nat) : Inb G (CS.fresh L ps k) := fun b hb => h b (List.mem_of_mem_take (of_decide_eq_true hb))

/-- Both chips, made since W: the landed one with the state S, the document's with T. -/
structure Both (W : World) (G : Geo) (B : CB) (FC : Nat → Prop) (N : Nat) (R : RB) (FR : Nat → Prop) (S T : CS) (w : World) : Prop where
  chip : ChipAt G B FC N S w
  ref : RefAt G R FR T w
  dis : ∀ x, FC x → ¬ FR x
  low : ∀ x, FC x ∨ FR x → W.heap.size ≤ x
  bel : Below W.heap.size W w
  inb : Inb G S
section
variable {W w w' : World} {G : Geo} {B : CB} {FC FR : Nat → Prop} {N N' : Nat} {R : RB} {S S' T T' : CS}
theorem Both.below (h : Both W G B FC N R FR S T w) (q : Below w.heap.size w w') : Both W G B FC N R FR S T w' := ⟨h.chip.below q, h.ref.below q, h.dis, h.low, btrans h.bel q, h.inb⟩
theorem Both.mono (h : Both W G B FC N R FR S T w) (hN : N ≤ N') : Both W G B FC N' R FR S T w := ⟨h.chip.mono hN, h.ref, h.dis, h.low, h.bel, h.inb⟩
theorem Both.doesC (h : Both W G B FC N R FR S T w) (d : Does G B FC N' w S' w') (hi : Inb G S') : ∃ FC', Both W G B FC' N' R FR S' T w' ∧ Turned (fun k => FC k ∨ FR k) w w' ∧ ∀ x, (FC' x ∨ FR x) → (FC x ∨ FR x) ∨ w.heap.size ≤ x := by
  obtain ⟨FC', h1, h2, h3⟩ := d
  refine ⟨FC', ⟨h1, h.ref.turned h2 (fun x hr hc => h.dis x hc hr), fun x hx hr => ?_, fun x hx => ?_, h.bel.trans (h2.below h.bel.size (fun x hx => h.low x (.inl hx))), hi⟩, h2.mono (fun k _ hk => .inl hk), fun x hx => ?_⟩
  · rcases h3 x hx with e | e
    · exact h.dis x e hr
    · have := h.ref.fresh x hr; omega
  · rcases hx with hx | hx
    · rcases h3 x hx with e | e
      · exact h.low x (.inl e)
      · exact Nat.le_trans h.bel.size e
    · exact h.low x (.inr hx)
  · rcases hx with hx | hx
    · exact (h3 x hx).elim (fun e => .inl (.inl e)) .inr
    · exact .inl (.inr hx)
theorem Both.doesR (h : Both W G B FC N R FR S T w) (d : RDoes G R FR w T' w') : ∃ FR', Both W G B FC N R FR' S T' w' ∧ Turned (fun k => FC k ∨ FR k) w w' ∧ ∀ x, (FC x ∨ FR' x) → (FC x ∨ FR x) ∨ w.heap.size ≤ x := by
  obtain ⟨FR', h1, h2, h3⟩ := d
  refine ⟨FR', ⟨h.chip.turned h2 h.dis, h1, fun x hx hr => ?_, fun x hx => ?_, h.bel.trans (h2.below h.bel.size (fun x hx => h.low x (.inr hx))), h.inb⟩, h2.mono (fun k _ hk => .inr hk), fun x hx => ?_⟩
  · rcases h3 x hr with e | e
    · exact h.dis x hx e
    · have := h.chip.fresh x hx; omega
  · rcases hx with hx | hx
    · exact h.low x (.inl hx)
    · rcases h3 x hx with e | e
      · exact h.low x (.inr e)
      · exact Nat.le_trans h.bel.size e
  · rcases hx with hx | hx
    · exact .inl (.inl hx)
    · exact (h3 x hx).elim (fun e => .inl (.inr e)) .inr
theorem Both.turnedC (h : Both W G B FC N R FR S T w) (hc : ChipAt G B FC N' S' w') (t : Turned FC w w') (hi : Inb G S') : Both W G B FC N' R FR S' T w' :=
  ⟨hc, h.ref.turned t (fun x hr hc => h.dis x hc hr), h.dis, h.low, h.bel.trans (t.below h.bel.size (fun x hx => h.low x (.inl hx))), hi⟩
theorem Both.turnedR (h : Both W G B FC N R FR S T w) (hr : RefAt G R FR T' w') (t : Turned FR w w') : Both W G B FC N R FR S T' w' :=
  ⟨h.chip.turned t h.dis, hr, h.dis, h.low, h.bel.trans (t.below h.bel.size (fun x hx => h.low x (.inr hx))), h.inb⟩
end

end Go.Proofs.YtggpgdaacbmmdaaGreat
