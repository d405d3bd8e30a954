/-
  The code of layer 7 (chip), as it landed: deeds: Mark, Burn, Erase, Program; Weak, Geometry, Force.
-/
import Derived.Test.YtggpgdaacbmmdaaGreatChipCode4
namespace Go.Proofs.YtggpgdaacbmmdaaGreat
open Go.RowKit Go.Maps
set_option linter.unusedVariables false
set_option maxRecDepth 8192

/-- A deed is counted: is it cut? -/
def CS.cutIs (S : CS) (c : Bool) (S1 : CS) : Prop :=
  (S.ah = 0 ∧ c = false ∧ S1 = S) ∨ (1 < S.ah ∧ c = false ∧ S1 = { S with ah := S.ah - 1 }) ∨ (S.ah = 1 ∧ c = true ∧ S1 = { S with ah := 0, up := false })
/-- The state behind a deed's counting. -/
def CS.counted (S : CS) : CS := if S.ah = 0 then S else if S.ah = 1 then { S with ah := 0, up := false } else { S with ah := S.ah - 1 }
theorem CS.counted_is (S : CS) (h : 0 ≤ S.ah) : S.cutIs (decide (S.ah = 1)) S.counted := by
  unfold CS.cutIs CS.counted
  by_cases h0 : S.ah = 0
  · exact .inl ⟨h0, by rw [decide_eq_false_iff_not]; omega, by rw [if_pos h0]⟩
  · by_cases h1 : S.ah = 1
    · exact .inr (.inr ⟨h1, by rw [decide_eq_true_iff]; exact h1, by rw [if_neg h0, if_pos h1]⟩)
    · exact .inr (.inl ⟨by omega, by rw [decide_eq_false_iff_not]; exact h1, by rw [if_neg h0, if_neg h1]⟩)

def CS.mark (S : CS) (x : Int) : CS := { S with bd := fun b => if b = x then true else S.bd b }
def CS.weaken (S : CS) (x : Int) : CS := { S with wk := fun b => if b = x then true else S.wk b }
def CS.next0 (S : CS) (x : Int) : CS := { S with nx := fun b => if b = x then 0 else S.nx b }
def CS.right (S : CS) (x y : Int) : CS := { S with wr := fun b p => if b = x ∧ p = y then fun _ => false else S.wr b p }

section
variable {G : Geo} {B : CB} {F : Nat → Prop} {N : Nat} {S : CS}

theorem Does.of (w : World) {w' : World} {S' : CS} {N' : Nat} (h : ChipAt G B F N' S' w') (ht : Turned F w w') (hN : N' ≤ N) : Does G B F N w S' w' := ⟨F, h.mono hN, ht, fun _ hx => .inl hx⟩
theorem Does.after {w w1 w' : World} {S' : CS} {F1 : Nat → Prop} (ht : Turned F w w1) (hf : ∀ x, F1 x → F x ∨ w.heap.size ≤ x) (h : Does G B F1 N w1 S' w') : Does G B F N w S' w' := by
  obtain ⟨F', h1, h2, h3⟩ := h
  exact ⟨F', h1, ht.andThen h2 hf, fun x hx => (h3 x hx).elim (hf x) (fun h => .inr (Nat.le_trans ht.size h))⟩

theorem chipCut_any (w : World) (h : ChipAt G B F N S w) {c : Bool} {S1 : CS} (hc : S.cutIs c S1) :
    Calls Tryz.prog 93 #[.pointer (some ⟨B.c, 0, none⟩)] w fun e w' => e = .returned (.bool c) ∧ ChipAt G B F N S1 w' ∧ Turned F w w' := by
  rcases hc with ⟨h0, rfl, rfl⟩ | ⟨h0, rfl, rfl⟩ | ⟨h0, rfl, rfl⟩
  · exact (chipCut_no w h h0).mono fun e w' ⟨e1, e2⟩ => ⟨e1, e2 ▸ h, e2 ▸ Turned.refl _ _⟩
  · exact chipCut_on w h h0
  · exact chipCut_yes w h h0
theorem CS.cutIs.same {c : Bool} {S1 : CS} (h : S.cutIs c S1) : S1.pg = S.pg ∧ S1.nx = S.nx ∧ S1.bd = S.bd ∧ S1.wk = S.wk ∧ S1.wr = S.wr ∧ S1.fu = S.fu ∧ S1.ke = S.ke := by
  rcases h with ⟨_, _, rfl⟩ | ⟨_, _, rfl⟩ | ⟨_, _, rfl⟩ <;> exact ⟨rfl, rfl, rfl, rfl, rfl, rfl, rfl⟩

/-- 'c.marked.add(x)'. -/
theorem chipAddMark (x : Int) (hx : I64 x) (w : World) (h : ChipAt G B F N S w) (hN : N < 1000000) :
    Calls Tryz.prog 34 #[.map (some B.mm), .int .i64 x] w fun e w' => (∃ r, e = .returned r) ∧ ChipAt G B F (N + 1) (S.mark x) w' ∧ Turned F w w' := by
  obtain ⟨m, hm, hs⟩ := h.marked
  refine (chipAdd_any _ _ m x w hm hN hx).mono ?_
  rintro e w' ⟨hr, h1, h2⟩
  exact ⟨hr, h.mark hs x h1 h2, (Turned.refl F w).grown h2 (fun k e => by cases e; exact .inl (h.inF _ (by simp [CB.all])))⟩
theorem chipAddWeak (x : Int) (hx : I64 x) (w : World) (h : ChipAt G B F N S w) (hN : N < 1000000) :
    Calls Tryz.prog 34 #[.map (some B.mw), .int .i64 x] w fun e w' => (∃ r, e = .returned r) ∧ ChipAt G B F (N + 1) (S.weaken x) w' ∧ Turned F w w' := by
  obtain ⟨m, hm, hs⟩ := h.weak
  refine (chipAdd_any _ _ m x w hm hN hx).mono ?_
  rintro e w' ⟨hr, h1, h2⟩
  exact ⟨hr, h.weaken hs x h1 h2, (Turned.refl F w).grown h2 (fun k e => by cases e; exact .inl (h.inF _ (by simp [CB.all])))⟩

/-! ### Mark -/
theorem chipMark_nil (x : Int) (w : World) : Calls Tryz.prog 80 #[.pointer none, .int .i64 x] w fun e w' => e = .returned (.int .i64 3) ∧ w = w' := by
  go_enter Tryz.func80, Tryz.ntmps80
  go_wp2_with fail
  refine (chipReadyFor_nil _ _).mono ?_
  rintro e w1 ⟨rfl, rfl⟩
  go_wp2_with fail
  go_ret
  exact ⟨rfl, rfl⟩
/-- What Mark answers and leaves. -/
def CS.doMark (G : Geo) (S : CS) (x : Int) : Int × CS :=
  if S.up = false then (70, S) else if inB0 x G.b = false then (1, S) else if S.ah = 1 then (70, if 0 < S.ke then S.counted.mark x else S.counted) else (0, S.counted.mark x)
theorem chipMark_any (x : Int) (hx : I64 x) (w : World) (h : ChipAt G B F N S w) (hN : N < 1000000) :
    Calls Tryz.prog 80 #[.pointer (some ⟨B.c, 0, none⟩), .int .i64 x] w fun e w' => e = .returned (.int .i64 (S.doMark G x).1) ∧ Does G B F (N + 2) w (S.doMark G x).2 w' := by
  cases hu : S.up
  · have HR : Hid (S.doMark G x = (70, S)) := by show _ = _; unfold CS.doMark; rw [if_pos hu]
    rw [HR.out]
    clear HR
    go_enter Tryz.func80, Tryz.ntmps80
    go_wp2_with fail
    refine (chipReadyFor_down _ _ h.cell hu).mono ?_
    rintro e w1 ⟨rfl, rfl⟩
    go_wp2_with fail
    go_ret
    exact ⟨rfl, Does.of w h (Turned.refl _ _) (by omega)⟩
  cases hb : inB0 x G.b
  · have HR : Hid (S.doMark G x = (1, S)) := by show _ = _; unfold CS.doMark; rw [if_neg (by rw [hu]; simp), if_pos hb]
    rw [HR.out]
    clear HR
    go_enter Tryz.func80, Tryz.ntmps80
    go_wp2_with fail
    refine (chipReadyFor_no _ _ h.cell hu hb).mono ?_
    rintro e w1 ⟨rfl, rfl⟩
    go_wp2_with fail
    go_ret
    exact ⟨rfl, Does.of w h (Turned.refl _ _) (by omega)⟩
  have hci := S.counted_is h.ah.1
  have hke := hci.same.2.2.2.2.2.2
  by_cases hc : S.ah = 1
  · rw [decide_eq_true hc] at hci
    by_cases hk : 0 < S.ke
    · have HR : Hid (S.doMark G x = (70, S.counted.mark x)) := by show _ = _; unfold CS.doMark; rw [if_neg (by rw [hu]; simp), if_neg (by rw [hb]; simp), if_pos hc, if_pos hk]
      rw [HR.out]
      clear HR
      generalize S.counted = S1 at *
      go_enter Tryz.func80, Tryz.ntmps80
      go_wp2_with fail
      refine (chipReadyFor_yes _ _ h.cell hu hb).mono ?_
      rintro e w1 ⟨rfl, rfl⟩
      go_wp2_with fail
      refine (chipCut_any _ h hci).mono ?_
      rintro e w2 ⟨rfl, h2, t2⟩
      have c13 := h2.cell.cells.c13
      have c7 := h2.cell.cells.c7
      rw [hke] at c13
      generalize S.ke = ke at *
      go_wp2_with fail
      refine (chipAddMark x hx _ h2 hN).mono ?_
      rintro e w3 ⟨⟨r, rfl⟩, h3, t3⟩
      clear c13 c7
      go_wp2_with fail
      go_ret
      exact ⟨rfl, Does.of w h3 (t2.trans t3) (by omega)⟩
    · have HR : Hid (S.doMark G x = (70, S.counted)) := by show _ = _; unfold CS.doMark; rw [if_neg (by rw [hu]; simp), if_neg (by rw [hb]; simp), if_pos hc, if_neg hk]
      rw [HR.out]
      clear HR
      generalize S.counted = S1 at *
      go_enter Tryz.func80, Tryz.ntmps80
      go_wp2_with fail
      refine (chipReadyFor_yes _ _ h.cell hu hb).mono ?_
      rintro e w1 ⟨rfl, rfl⟩
      go_wp2_with fail
      refine (chipCut_any _ h hci).mono ?_
      rintro e w2 ⟨rfl, h2, t2⟩
      have c13 := h2.cell.cells.c13
      rw [hke] at c13
      generalize S.ke = ke at *
      have hk' : ke ≤ 0 := by omega
      go_wp2_with fail
      go_ret
      exact ⟨rfl, Does.of w h2 t2 (by omega)⟩
  · rw [decide_eq_false hc] at hci
    have HR : Hid (S.doMark G x = (0, S.counted.mark x)) := by show _ = _; unfold CS.doMark; rw [if_neg (by rw [hu]; simp), if_neg (by rw [hb]; simp), if_neg hc]
    rw [HR.out]
    clear HR
    generalize S.counted = S1 at *
    go_enter Tryz.func80, Tryz.ntmps80
    go_wp2_with fail
    refine (chipReadyFor_yes _ _ h.cell hu hb).mono ?_
    rintro e w1 ⟨rfl, rfl⟩
    go_wp2_with fail
    refine (chipCut_any _ h hci).mono ?_
    rintro e w2 ⟨rfl, h2, t2⟩
    have c7 := h2.cell.cells.c7
    go_wp2_with fail
    refine (chipAddMark x hx _ h2 hN).mono ?_
    rintro e w3 ⟨⟨r, rfl⟩, h3, t3⟩
    clear c7
    go_wp2_with fail
    go_ret
    exact ⟨rfl, Does.of w h3 (t2.trans t3) (by omega)⟩

/-! ### Burn -/
end
end Go.Proofs.YtggpgdaacbmmdaaGreat
