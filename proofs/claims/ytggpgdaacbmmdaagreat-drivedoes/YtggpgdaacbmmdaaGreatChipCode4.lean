/-
  The code of layer 7 (chip), as it landed: wipe; On, Off, Up, Arm, Fuse, Bad, Geometry, Weak, Mark, Burn.
-/
import Derived.Test.YtggpgdaacbmmdaaGreatChipCode3
namespace Go.Proofs.YtggpgdaacbmmdaaGreat
open Go.RowKit Go.Maps
set_option linter.unusedVariables false
set_option maxRecDepth 8192

/-- The first pages of a block are ff, and read rightly. -/
def CS.wipe (S : CS) (L : Nat) (x : Int) (k : Nat) : CS :=
  { S with pg := fun b p => if b = x ∧ 0 ≤ p ∧ p < (k : Int) then List.replicate L 255 else S.pg b p, wr := fun b p => if b = x ∧ 0 ≤ p ∧ p < (k : Int) then fun _ => false else S.wr b p }
theorem CS.wipe_zero (S : CS) (L : Nat) (x : Int) : S.wipe L x 0 = S := by
  unfold CS.wipe
  have h : ∀ b p : Int, ¬ (b = x ∧ 0 ≤ p ∧ p < ((0 : Nat) : Int)) := fun b p => by omega
  cases S
  simp only [h, if_false]
theorem CS.wipe_step (S : CS) (L : Nat) (x : Int) (k : Nat) :
    ({ ({ S.wipe L x k with pg := fun b p => if b = x ∧ p = (k : Int) then List.replicate L 255 else (S.wipe L x k).pg b p } : CS) with wr := fun b p => if b = x ∧ p = (k : Int) then fun _ => false else (S.wipe L x k).wr b p } : CS) = S.wipe L x (k + 1) := by
  unfold CS.wipe
  simp only [CS.mk.injEq, and_true, true_and]
  refine ⟨?_, ?_⟩
  all_goals
    funext b p
    by_cases h1 : b = x ∧ p = (k : Int)
    · rw [if_pos h1, if_pos (by omega)]
    · rw [if_neg h1]
      by_cases h2 : b = x ∧ 0 ≤ p ∧ p < (k : Int)
      · rw [if_pos h2, if_pos (by omega)]
      · rw [if_neg h2, if_neg (by omega)]

section
variable {G : Geo} {B : CB} {F : Nat → Prop} {N : Nat} {S : CS}

set_option maxHeartbeats 800000 in
theorem chipWipe_any (x : Int) (k : Nat) (hx : I64 x) (hk : k ≤ 1000) (w : World) (h : ChipAt G B F N S w) :
    Calls Tryz.prog 94 #[.pointer (some ⟨B.c, 0, none⟩), .int .i64 x, .int .i64 (k : Int)] w fun e w' => (∃ r, e = .returned r) ∧ ChipAt G B F N (S.wipe G.L x k) w' ∧ Turned F w w' := by
  have H0 : Hid (ChipAt G B F N (S.wipe G.L x 0) w) := by show ChipAt _ _ _ _ _ _; rw [CS.wipe_zero]; exact h
  clear h
  go_enter Tryz.func94, Tryz.ntmps94
  go_wp2_with fail
  go_loopw [8] (fun i wr => ∃ n : Nat, n ≤ k ∧ i = .int .i64 (n : Int) ∧ Hid (ChipAt G B F N (S.wipe G.L x n) wr) ∧ Hid (Turned F w wr)) (fun i _ => k - (RowKit.intOf i).toNat)
  case atStart => exact ⟨0, Nat.zero_le _, rfl, H0, Turned.refl _ _⟩
  case round =>
    obtain ⟨n, hn, rfl, hc, ht⟩ := hrel
    by_cases hlt : n < k
    · have hlt' : (n : Int) < (k : Int) := by omega
      obtain ⟨kl, hkey⟩ := spot_key (b := x) (p := (n : Int)) hx (by unfold I64; omega)
      have h0 := hc.out
      obtain ⟨m, hm, hp⟩ := h0.pages
      obtain ⟨w1, hd1, hm1, hg1⟩ := hm.drop spotKeyed Tryz.underlying64 hkey 0
      have h1 := h0.del_page hp x (n : Int) hm1 hg1
      obtain ⟨m2, hm2, hp2⟩ := h1.wrong
      obtain ⟨w2, hd2, hm3, hg2⟩ := hm2.drop spotKeyed Tryz.underlying68 hkey 0
      have h2 := h1.del_wrong hp2 x (n : Int) hm3 hg2
      have HC2 : Hid (ChipAt G B F N (S.wipe G.L x (n + 1)) w2) := by show ChipAt _ _ _ _ _ _; rw [← CS.wipe_step]; exact h2
      have HT2 : Hid (Turned F w w2) := (ht.out.grown hg1 (fun j e => by cases e; exact .inl (h0.inF _ (by simp [CB.all])))).grown hg2 (fun j e => by cases e; exact .inl (h0.inF _ (by simp [CB.all])))
      have c5 := h0.cell.cells.c5
      have c9 := h1.cell.cells.c9
      clear h2 hm3 hg2 hp2 hm2 h1 hm1 hg1 hp hm h0 hc ht
      go_wp2_with fail
      go_roundw
      case rel => exact ⟨n + 1, by omega, by go_num, HC2, HT2⟩
      case measure => simp [RowKit.intOf]; omega
    · have e : n = k := by omega
      subst e
      go_wp2_with fail
      go_end0
      exact ⟨⟨_, rfl⟩, hc.out, ht.out⟩

theorem chipOn_any (w : World) (h : ChipAt G B F N S w) :
    Calls Tryz.prog 30 #[.pointer (some ⟨B.c, 0, none⟩)] w fun e w' => (∃ r, e = .returned r) ∧ ChipAt G B F N { S with up := true } w' ∧ Turned F w w' := by
  have c11 := h.cell.cells.c11
  have f11 := h.cell.cells.fr 11
  have HS : Hid (ChipAt G B F N { S with up := true } (w.setCell ⟨B.c, 11, none⟩ (.bool true))) := h.set_up true
  have HT : Hid (Turned F w (w.setCell ⟨B.c, 11, none⟩ (.bool true))) := (Turned.refl F w).setCell (p := ⟨B.c, 11, none⟩) (.inl (h.inF _ (by simp [CB.all]))) _
  clear h
  go_enter Tryz.func30, Tryz.ntmps30
  go_wp2
  go_end0
  exact ⟨⟨_, rfl⟩, HS.out, HT.out⟩
theorem chipOn_nil (w : World) : Calls Tryz.prog 30 #[.pointer none] w fun e w' => (∃ r, e = .returned r) ∧ w = w' := by
  go_enter Tryz.func30, Tryz.ntmps30
  go_wp2
  go_end0
  exact ⟨⟨_, rfl⟩, rfl⟩
theorem chipOff_any (w : World) (h : ChipAt G B F N S w) :
    Calls Tryz.prog 40 #[.pointer (some ⟨B.c, 0, none⟩)] w fun e w' => (∃ r, e = .returned r) ∧ ChipAt G B F N { S with up := false } w' ∧ Turned F w w' := by
  have c11 := h.cell.cells.c11
  have f11 := h.cell.cells.fr 11
  have HS : Hid (ChipAt G B F N { S with up := false } (w.setCell ⟨B.c, 11, none⟩ (.bool false))) := h.set_up false
  have HT : Hid (Turned F w (w.setCell ⟨B.c, 11, none⟩ (.bool false))) := (Turned.refl F w).setCell (p := ⟨B.c, 11, none⟩) (.inl (h.inF _ (by simp [CB.all]))) _
  clear h
  go_enter Tryz.func40, Tryz.ntmps40
  go_wp2
  go_end0
  exact ⟨⟨_, rfl⟩, HS.out, HT.out⟩
theorem chipOff_nil (w : World) : Calls Tryz.prog 40 #[.pointer none] w fun e w' => (∃ r, e = .returned r) ∧ w = w' := by
  go_enter Tryz.func40, Tryz.ntmps40
  go_wp2
  go_end0
  exact ⟨⟨_, rfl⟩, rfl⟩
theorem chipUp_any (w : World) (h : CellOk G B S w) : Calls Tryz.prog 88 #[.pointer (some ⟨B.c, 0, none⟩)] w fun e w' => e = .returned (.bool S.up) ∧ w = w' := by
  have c11 := h.cells.c11
  clear h
  go_enter Tryz.func88, Tryz.ntmps88
  go_wp2
  go_ret
  exact ⟨rfl, rfl⟩
theorem chipUp_nil (w : World) : Calls Tryz.prog 88 #[.pointer none] w fun e w' => e = .returned (.bool false) ∧ w = w' := by
  go_enter Tryz.func88, Tryz.ntmps88
  go_wp2
  go_ret
  exact ⟨rfl, rfl⟩
theorem chipArm_any (x y : Int) (hx : I64 x) (hy : I64 y) (w : World) (h : ChipAt G B F N S w) :
    Calls Tryz.prog 29 #[.pointer (some ⟨B.c, 0, none⟩), .int .i64 x, .int .i64 y] w fun e w' => (∃ r, e = .returned r) ∧ ChipAt G B F N { S with ah := max x 0, ke := y } w' ∧ Turned F w w' := by
  have c12 := h.cell.cells.c12
  have f12 := h.cell.cells.fr 12
  have c13 := h.cell.cells.c13
  have f13 := h.cell.cells.fr 13
  obtain ⟨hx1, hx2⟩ := hx
  have HS : Hid (∀ v, v = max x 0 → ChipAt G B F N { S with ah := max x 0, ke := y } ((w.setCell ⟨B.c, 12, none⟩ (.int .i64 v)).setCell ⟨B.c, 13, none⟩ (.int .i64 y))) := fun v hv => by
    subst hv
    exact (h.set_ah (max x 0) (by omega)).set_ke y hy
  have hF := h.inF B.c (by simp [CB.all])
  have HT : Hid (∀ v, Turned F w ((w.setCell ⟨B.c, 12, none⟩ (.int .i64 v)).setCell ⟨B.c, 13, none⟩ (.int .i64 y))) := fun v => ((Turned.refl F w).setCell (p := ⟨B.c, 12, none⟩) (.inl hF) _).setCell (p := ⟨B.c, 13, none⟩) (.inl hF) _
  clear h hF
  by_cases h0 : 0 ≤ x
  · go_enter Tryz.func29, Tryz.ntmps29
    go_wp2
    all_goals (go_end0; first | exact ⟨⟨_, rfl⟩, HS.out _ (by omega), HT.out _⟩ | (exfalso; omega))
  · go_enter Tryz.func29, Tryz.ntmps29
    go_wp2
    all_goals (go_end0; first | exact ⟨⟨_, rfl⟩, HS.out _ (by omega), HT.out _⟩ | (exfalso; omega))
theorem chipArm_nil (x y : Int) (w : World) : Calls Tryz.prog 29 #[.pointer none, .int .i64 x, .int .i64 y] w fun e w' => (∃ r, e = .returned r) ∧ w = w' := by
  go_enter Tryz.func29, Tryz.ntmps29
  go_wp2
  go_end0
  exact ⟨⟨_, rfl⟩, rfl⟩
theorem chipBad_any (x : Int) (hx : I64 x) (w : World) (h : ChipAt G B F N S w) : Calls Tryz.prog 62 #[.pointer (some ⟨B.c, 0, none⟩), .int .i64 x] w fun e w' => e = .returned (.bool (S.up && S.bd x)) ∧ Below w.heap.size w w' := by
  have c7 := h.cell.cells.c7
  cases hu : S.up
  · go_enter Tryz.func62, Tryz.ntmps62
    go_wp2_with fail
    refine (chipUp_any _ h.cell).mono ?_
    rw [hu]
    rintro e w1 ⟨rfl, rfl⟩
    clear h hu
    go_wp2_with fail
    go_ret
    exact ⟨rfl, Below.refl _ _⟩
  · go_enter Tryz.func62, Tryz.ntmps62
    go_wp2_with fail
    refine (chipUp_any _ h.cell).mono ?_
    rw [hu]
    rintro e w1 ⟨rfl, rfl⟩
    go_wp2_with fail
    refine (chipHas_any _ _ _ x _ h.marked hx).mono ?_
    rintro e w2 ⟨rfl, q2⟩
    clear h hu
    go_wp2_with fail
    go_ret
    exact ⟨rfl, q2⟩
theorem chipBad_nil (x : Int) (w : World) : Calls Tryz.prog 62 #[.pointer none, .int .i64 x] w fun e w' => e = .returned (.bool false) ∧ w = w' := by
  go_enter Tryz.func62, Tryz.ntmps62
  go_wp2_with fail
  refine (chipUp_nil _).mono ?_
  rintro e w1 ⟨rfl, rfl⟩
  go_wp2_with fail
  go_ret
  exact ⟨rfl, rfl⟩
end
end Go.Proofs.YtggpgdaacbmmdaaGreat
