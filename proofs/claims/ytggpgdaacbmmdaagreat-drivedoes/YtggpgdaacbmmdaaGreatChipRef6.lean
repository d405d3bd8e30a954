/-
  The document's answer of layer 7 (casemateref07): Flip. (Written by tools/gen/chip_ref6.py.)
-/
import Derived.Test.YtggpgdaacbmmdaaGreatChipRef5
namespace Go.Proofs.YtggpgdaacbmmdaaGreat
open Go Go.RowKit Go.Maps
set_option linter.unusedVariables false
set_option maxRecDepth 8192

/-- Is x new, and a bit? -/
def okB (L : Nat) (x : Int) (l : List Int) : Bool := inB0 x (8 * (L : Int)) && decide (x ∉ l)
/-- The first k places, each once, those alone that are bits. -/
def ddTo (L : Nat) (ps : List Int) : Nat → List Int
  | 0 => []
  | k + 1 => if okB L (ps[k]?.getD 0) (ddTo L ps k) = true then ddTo L ps k ++ [ps[k]?.getD 0] else ddTo L ps k
theorem ddTo_yes {L : Nat} {ps : List Int} {k : Nat} (h : okB L (ps[k]?.getD 0) (ddTo L ps k) = true) : ddTo L ps (k + 1) = ddTo L ps k ++ [ps[k]?.getD 0] := by show (if _ then _ else _) = _; rw [if_pos h]
theorem ddTo_no {L : Nat} {ps : List Int} {k : Nat} (h : okB L (ps[k]?.getD 0) (ddTo L ps k) = false) : ddTo L ps (k + 1) = ddTo L ps k := by show (if _ then _ else _) = _; rw [if_neg (by rw [h]; simp)]
theorem ddTo_len (L : Nat) (ps : List Int) : ∀ k, (ddTo L ps k).length ≤ k
  | 0 => Nat.le_refl _
  | k + 1 => by
    have := ddTo_len L ps k
    cases h : okB L (ps[k]?.getD 0) (ddTo L ps k)
    · rw [ddTo_no h]; omega
    · rw [ddTo_yes h]; simp; omega
theorem ddTo_nodup (L : Nat) (ps : List Int) : ∀ k, (ddTo L ps k).Nodup
  | 0 => List.nodup_nil
  | k + 1 => by
    have ih := ddTo_nodup L ps k
    cases h : okB L (ps[k]?.getD 0) (ddTo L ps k)
    · rw [ddTo_no h]; exact ih
    · rw [ddTo_yes h]
      unfold okB at h
      rw [Bool.and_eq_true] at h
      have hn := of_decide_eq_true h.2
      rw [List.nodup_append]
      exact ⟨ih, by simp, fun a ha b hb e => by rw [List.mem_singleton] at hb; subst hb; exact hn (e ▸ ha)⟩
theorem ddTo_mem {L : Nat} {ps : List Int} : ∀ k, k ≤ ps.length → ∀ x, x ∈ ddTo L ps k ↔ flipW L ps k x = true
  | 0, _, x => by simp [ddTo, flipW]
  | k + 1, hk, x => by
    have ih := ddTo_mem (L := L) (ps := ps) k (by omega) x
    cases hb : inB0 (ps[k]?.getD 0) (8 * (L : Int))
    · have h : okB L (ps[k]?.getD 0) (ddTo L ps k) = false := by unfold okB; rw [hb]; rfl
      rw [ddTo_no h, ← flipW_miss (by omega) hb]; exact ih
    · rw [← flipW_hit (by omega) hb]
      by_cases hm : ps[k]?.getD 0 ∈ ddTo L ps k
      · have h : okB L (ps[k]?.getD 0) (ddTo L ps k) = false := by unfold okB; rw [decide_eq_false (by simpa using hm)]; simp
        rw [ddTo_no h]
        by_cases hx : x = ps[k]?.getD 0
        · subst hx; simp [hm]
        · simp [hx, ih]
      · have h : okB L (ps[k]?.getD 0) (ddTo L ps k) = true := by unfold okB; rw [hb, decide_eq_true (by simpa using hm)]; rfl
        rw [ddTo_yes h, List.mem_append, List.mem_singleton, ih]
        by_cases hx : x = ps[k]?.getD 0
        · simp [hx]
        · simp [hx]
theorem ddTo_in {L : Nat} {ps : List Int} {k : Nat} (hk : k ≤ ps.length) : inAll L (ddTo L ps k) := fun x hx => by
  have := (ddTo_mem k hk x).1 hx
  unfold flipW at this
  exact (of_decide_eq_true this).2
/-- What the inner loop has found. -/
def foundB (c : Bool) (x : Int) (l : List Int) (m : Nat) : Bool := c && decide (x ∉ l.take m)
theorem foundB_zero (c : Bool) (x : Int) (l : List Int) : foundB c x l 0 = c := by unfold foundB; simp
theorem foundB_step {c : Bool} {x : Int} {l : List Int} {m : Nat} (h : m < l.length) : foundB c x l (m + 1) = (foundB c x l m && (l[m]?.getD 0 != x)) := by
  unfold foundB
  rw [take_snocB l m h, Bool.and_assoc]
  congr 1
  rw [Bool.eq_iff_iff]
  simp only [List.mem_append, List.mem_singleton, not_or, decide_eq_true_eq, Bool.and_eq_true, bne_iff_ne, ne_eq]
  exact ⟨fun ⟨h1, h2⟩ => ⟨h1, fun e => h2 e.symm⟩, fun ⟨h1, h2⟩ => ⟨h1, fun e => h2 e.symm⟩⟩
theorem foundB_all (L : Nat) (x : Int) (l : List Int) : foundB (inB0 x (8 * (L : Int))) x l l.length = okB L x l := by unfold foundB okB; rw [List.take_length]

section
variable {G : Geo} {R : RB} {F : Nat → Prop} {S : CS}
theorem setPage_flip (S : CS) (x y : Int) (f : Int → Bool) : S.setPage x y (S.pg x y) f = S.flipped x y f := by
  unfold CS.setPage CS.flipped
  simp only [CS.mk.injEq, and_true]
  funext b p
  by_cases h : b = x ∧ p = y
  · rw [if_pos h, h.1, h.2]
  · rw [if_neg h]
/-- The wrong bits of a page are stored. -/
theorem RefAt.putWrong {w : World} (h : RefAt G R F S w) {i j : Nat} (hi : i < G.b.toNat) (hj : j < G.p.toNat) (a : Option Addr) (len c : Nat) (l : List Int) (rl : Row .i64 w a len c l) (fl : 0 < len → ∀ x, a = some x → ¬ F x.block) (nd : l.Nodup) (ia : inAll G.L l) (wr : Int → Bool) (me : ∀ x, x ∈ l ↔ wr x = true) :
    RefAt G R (fun k => F k ∨ (0 < len ∧ ∃ x, a = some x ∧ k = x.block)) (S.flipped (i : Int) (j : Int) wr) (w.setCell ⟨R.pb i, j * 2 + 1, none⟩ (.slice a len c)) := by
  have hpF : F (R.pb i) := h.inF _ (.inr (.inr ⟨i, hi, rfl⟩))
  obtain ⟨g0, cap0, a0, len0, c0, l0, e0, e1, ⟨f0, n0⟩, r0, zb, _⟩ := h.pages i hi j hj
  have hg : w.grownBy (w.setCell ⟨R.pb i, j * 2 + 1, none⟩ (.slice a len c)) (some (R.pb i)) := setCell_grown w ⟨R.pb i, j * 2 + 1, none⟩ _
  rw [← setPage_flip]
  refine h.setP rfl rfl hi hj hg (fun k => by rw [World.frozen?_setCell]; exact h.pfr i hi k) (fun k hk hn => ⟨cell_set_other (by omega), cell_set_other (by omega)⟩) (fun _ hk => .inl hk) (fun k hk => ?_) _ wr ⟨g0, cap0, a, len, c, l, (cell_set_other (by omega)).trans e0, cell_set_same e1, ⟨.inl f0, n0⟩, r0.same hg.size (hg.block g0 (h.fresh g0 f0) (fun e => n0 (.inr (.inr ⟨i, hi, by first | exact Option.some.inj e | exact (Option.some.inj e).symm⟩)))), zb, rl.same' hg.size (fun p x hx => ?_), fun p x hx => ⟨.inr ⟨p, x, hx, rfl⟩, fun hc => fl p x hx (h.inF _ hc)⟩, nd, ia, me⟩
  · rcases hk with hk | ⟨p, x, hx, rfl⟩
    · exact Nat.lt_of_lt_of_le (h.fresh k hk) hg.size
    · exact Nat.lt_of_lt_of_le (rl.blk_lt p x hx) hg.size
  · exact hg.block _ (rl.blk_lt p x hx) (fun e => fl p x hx (by rw [show x.block = R.pb i by first | exact Option.some.inj e | exact (Option.some.inj e).symm]; exact hpF))

end
end Go.Proofs.YtggpgdaacbmmdaaGreat
