/-
  The code of layer 7 (chip), as it landed: has, add, below, hasBlock, hasPage, size, fits, ready, readyFor, cut, kept, and the library's Repeat.
-/
import Derived.Test.YtggpgdaacbmmdaaGreatChipAt
namespace Go.Proofs.YtggpgdaacbmmdaaGreat
open Go.RowKit Go.Maps
set_option linter.unusedVariables false
set_option maxRecDepth 8192

/-- Is n one of 0 to m - 1? -/
def inB0 (n m : Int) : Bool := decide (0 ≤ n ∧ n < m)
theorem inB0_yes {n m : Int} (h : inB0 n m = true) : 0 ≤ n ∧ n < m := by unfold inB0 at h; exact of_decide_eq_true h
theorem inB0_no {n m : Int} (h : inB0 n m = false) : ¬ (0 ≤ n ∧ n < m) := by unfold inB0 at h; exact of_decide_eq_false h

theorem chipHas_any (mb N : Nat) (bd : Int → Bool) (x : Int) (w : World) (h : SetOk mb N bd w) (hx : I64 x) :
    Calls Tryz.prog 89 #[.map (some mb), .int .i64 x] w fun e w' => e = .returned (.bool (bd x)) ∧ Below w.heap.size w w' := by
  obtain ⟨m, hm, hs⟩ := h
  have hlk := hm.look_ok intKeyed Tryz.underlying67 (Tryz.zeroValue104 w) (int_key hx)
  rw [(hs x).1, (hs x).2] at hlk
  clear hm hs
  go_enter Tryz.func89, Tryz.ntmps89
  go_wp2
  go_ret
  exact ⟨rfl, below_one _ _⟩

theorem chipAdd_any (mb N : Nat) (m : Value → Option Value) (x : Int) (w : World) (hm : MapIs Tryz.prog 3 w mb N m) (hN : N < 1000000) (hx : I64 x) :
    Calls Tryz.prog 34 #[.map (some mb), .int .i64 x] w fun e w' => (∃ r, e = .returned r) ∧ MapIs Tryz.prog 3 w' mb (N + 1) (mput m (.int .i64 x) (.agg #[])) ∧ w.grownBy w' (some mb) := by
  obtain ⟨w1, hrun, h1, h2⟩ := hm.store intKeyed Tryz.underlying67 (by unfold maxLen; omega) (int_key hx) (.agg #[])
  go_enter Tryz.func34, Tryz.ntmps34
  go_wp2
  go_end0
  exact ⟨⟨_, rfl⟩, h1, h2⟩

theorem chipBelow_any (n m : Int) (w : World) : Calls Tryz.prog 58 #[.int .i64 n, .int .i64 m] w fun e w' => e = .returned (.bool (inB0 n m)) ∧ w = w' := by
  have HB : Hid (inB0 n m = decide (0 ≤ n ∧ n < m)) := rfl
  go_enter Tryz.func58, Tryz.ntmps58
  go_wp2
  all_goals (go_ret; refine ⟨ret_bool ?_, rfl⟩; rw [HB.out]; symm; first | (rw [decide_eq_true_iff]; omega) | (rw [decide_eq_false_iff_not]; omega) | (rw [decide_eq_decide]; omega))

section
variable {G : Geo} {B : CB} {F : Nat → Prop} {N : Nat} {S : CS}

theorem chipHasBlock_any (x : Int) (w : World) (h : CellOk G B S w) :
    Calls Tryz.prog 33 #[.pointer (some ⟨B.c, 0, none⟩), .int .i64 x] w fun e w' => e = .returned (.bool (inB0 x G.b)) ∧ w = w' := by
  obtain ⟨c0, _⟩ := h.cells
  clear h
  go_enter Tryz.func33, Tryz.ntmps33
  go_wp2_with fail
  refine (chipBelow_any x G.b _).mono ?_
  rintro e w1 ⟨rfl, rfl⟩
  go_wp2_with fail
  go_ret
  exact ⟨rfl, rfl⟩

/-- Is there such a page? -/
def hasP (G : Geo) (x y : Int) : Bool := inB0 x G.b && inB0 y G.p
theorem hasP_yes {x y : Int} (h : hasP G x y = true) : (0 ≤ x ∧ x < G.b) ∧ 0 ≤ y ∧ y < G.p := by
  unfold hasP at h
  rw [Bool.and_eq_true] at h
  exact ⟨inB0_yes h.1, inB0_yes h.2⟩

theorem chipHasPage_any (x y : Int) (w : World) (h : CellOk G B S w) :
    Calls Tryz.prog 56 #[.pointer (some ⟨B.c, 0, none⟩), .int .i64 x, .int .i64 y] w fun e w' => e = .returned (.bool (hasP G x y)) ∧ w = w' := by
  have h' := h
  obtain ⟨_, c1, _⟩ := h.cells
  have HP : Hid (hasP G x y = (inB0 x G.b && inB0 y G.p)) := rfl
  cases hb : inB0 x G.b
  · go_enter Tryz.func56, Tryz.ntmps56
    go_wp2_with fail
    refine (chipHasBlock_any x _ h').mono ?_
    rintro e w1 ⟨rfl, rfl⟩
    rw [hb]
    clear h h'
    go_wp2_with fail
    go_ret
    exact ⟨ret_bool (by rw [HP.out, hb]; rfl), rfl⟩
  · go_enter Tryz.func56, Tryz.ntmps56
    go_wp2_with fail
    refine (chipHasBlock_any x _ h').mono ?_
    rintro e w1 ⟨rfl, rfl⟩
    rw [hb]
    clear h h'
    go_wp2_with fail
    refine (chipBelow_any y G.p _).mono ?_
    rintro e w1 ⟨rfl, rfl⟩
    go_wp2_with fail
    go_ret
    exact ⟨ret_bool (by rw [HP.out, hb]; rfl), rfl⟩

theorem chipSize_any (w : World) (h : CellOk G B S w) :
    Calls Tryz.prog 57 #[.pointer (some ⟨B.c, 0, none⟩)] w fun e w' => e = .returned (.int .i64 (G.L : Int)) ∧ Below w.heap.size w w' := by
  obtain ⟨c0, c1, c2, c3, c4, _⟩ := h.cells
  clear h
  go_enter Tryz.func57, Tryz.ntmps57
  go_wp2_with fail
  refine (eccRaw_yes bitsC G.ok _).mono ?_
  rintro e w1 ⟨rfl, q1⟩
  go_wp2_with fail
  go_ret
  exact ⟨rfl, q1⟩

/-- May raw bytes of that length be laid there? -/
def fitsP (G : Geo) (x y : Int) (len : Nat) : Bool := hasP G x y && decide (len = G.L)
theorem chipFits_any (x y : Int) (a : Option Addr) (len cap : Nat) (w : World) (h : CellOk G B S w) (hlen : len ≤ maxLen) (hBc : B.c < w.heap.size) :
    Calls Tryz.prog 71 #[.pointer (some ⟨B.c, 0, none⟩), .int .i64 x, .int .i64 y, .slice a len cap] w fun e w' => e = .returned (.bool (fitsP G x y len)) ∧ Below w.heap.size w w' := by
  have HP : Hid (fitsP G x y len = (hasP G x y && decide (len = G.L))) := rfl
  have hL := G.ok.L2
  have hlen' : (len : Int) ≤ 9223372036854775807 := by unfold maxLen at hlen; omega
  cases hb : hasP G x y
  · go_enter Tryz.func71, Tryz.ntmps71
    go_wp2_with fail
    refine (chipHasPage_any x y _ h).mono ?_
    rintro e w1 ⟨rfl, rfl⟩
    rw [hb]
    go_wp2_with fail
    go_ret
    exact ⟨ret_bool (by rw [HP.out, hb]; rfl), Below.refl _ _⟩
  · go_enter Tryz.func71, Tryz.ntmps71
    go_wp2_with fail
    refine (chipHasPage_any x y _ h).mono ?_
    rintro e w1 ⟨rfl, rfl⟩
    rw [hb]
    go_wp2_with fail
    refine (chipSize_any _ h).mono ?_
    rintro e w1 ⟨rfl, q1⟩
    go_wp2_with fail
    go_ret
    exact ⟨ret_bool (by rw [HP.out, hb, Bool.true_and, Bool.eq_iff_iff]; simp; omega), q1⟩

theorem chipReady_nil (w : World) : Calls Tryz.prog 83 #[.pointer none] w fun e w' => e = .returned (.int .i64 3) ∧ w = w' := by
  go_enter Tryz.func83, Tryz.ntmps83
  go_wp2
  go_ret
  exact ⟨rfl, rfl⟩
theorem chipReady_any (w : World) (h : CellOk G B S w) : Calls Tryz.prog 83 #[.pointer (some ⟨B.c, 0, none⟩)] w fun e w' => e = .returned (.int .i64 (if S.up = true then 0 else 70)) ∧ w = w' := by
  have c11 := h.cells.c11
  clear h
  have HU : Hid (∀ x : Bool, S.up = x → (if S.up = true then (0 : Int) else 70) = if x = true then 0 else 70) := fun x hx => by rw [hx]
  generalize (if S.up = true then (0 : Int) else 70) = r at *
  cases hu : S.up
  · rw [hu] at c11
    have HR : Hid (r = 70) := HU.out false hu
    clear HU hu
    go_enter Tryz.func83, Tryz.ntmps83
    go_wp2
    go_ret
    exact ⟨ret_int HR.out.symm, rfl⟩
  · rw [hu] at c11
    have HR : Hid (r = 0) := HU.out true hu
    clear HU hu
    go_enter Tryz.func83, Tryz.ntmps83
    go_wp2
    go_ret
    exact ⟨ret_int HR.out.symm, rfl⟩

theorem chipReadyFor_nil (x : Int) (w : World) : Calls Tryz.prog 92 #[.pointer none, .int .i64 x] w fun e w' => e = .returned (.int .i64 3) ∧ w = w' := by
  go_enter Tryz.func92, Tryz.ntmps92
  go_wp2_with fail
  refine (chipReady_nil _).mono ?_
  rintro e w1 ⟨rfl, rfl⟩
  go_wp2_with fail
  go_ret
  exact ⟨rfl, rfl⟩
theorem chipReadyFor_down (x : Int) (w : World) (h : CellOk G B S w) (hu : S.up = false) : Calls Tryz.prog 92 #[.pointer (some ⟨B.c, 0, none⟩), .int .i64 x] w fun e w' => e = .returned (.int .i64 70) ∧ w = w' := by
  go_enter Tryz.func92, Tryz.ntmps92
  go_wp2_with fail
  refine (chipReady_any _ h).mono ?_
  rw [hu]
  rintro e w1 ⟨rfl, rfl⟩
  go_wp2_with fail
  go_ret
  exact ⟨rfl, rfl⟩
theorem chipReadyFor_no (x : Int) (w : World) (h : CellOk G B S w) (hu : S.up = true) (hx : inB0 x G.b = false) : Calls Tryz.prog 92 #[.pointer (some ⟨B.c, 0, none⟩), .int .i64 x] w fun e w' => e = .returned (.int .i64 1) ∧ w = w' := by
  go_enter Tryz.func92, Tryz.ntmps92
  go_wp2_with fail
  refine (chipReady_any _ h).mono ?_
  rw [hu]
  rintro e w1 ⟨rfl, rfl⟩
  go_wp2_with fail
  refine (chipHasBlock_any x _ h).mono ?_
  rintro e w1 ⟨rfl, rfl⟩
  rw [hx]
  go_wp2_with fail
  go_ret
  exact ⟨rfl, rfl⟩
theorem chipReadyFor_yes (x : Int) (w : World) (h : CellOk G B S w) (hu : S.up = true) (hx : inB0 x G.b = true) : Calls Tryz.prog 92 #[.pointer (some ⟨B.c, 0, none⟩), .int .i64 x] w fun e w' => e = .returned (.int .i64 0) ∧ w = w' := by
  go_enter Tryz.func92, Tryz.ntmps92
  go_wp2_with fail
  refine (chipReady_any _ h).mono ?_
  rw [hu]
  rintro e w1 ⟨rfl, rfl⟩
  go_wp2_with fail
  refine (chipHasBlock_any x _ h).mono ?_
  rintro e w1 ⟨rfl, rfl⟩
  rw [hx]
  go_wp2_with fail
  go_ret
  exact ⟨rfl, rfl⟩

/-- A deed more is counted. -/
theorem chipCut_no (w : World) (h : ChipAt G B F N S w) (ha : S.ah = 0) : Calls Tryz.prog 93 #[.pointer (some ⟨B.c, 0, none⟩)] w fun e w' => e = .returned (.bool false) ∧ w = w' := by
  have c12 := h.cell.cells.c12
  rw [ha] at c12
  clear h
  go_enter Tryz.func93, Tryz.ntmps93
  go_wp2
  go_ret
  exact ⟨rfl, rfl⟩
theorem chipCut_on (w : World) (h : ChipAt G B F N S w) (ha : 1 < S.ah) : Calls Tryz.prog 93 #[.pointer (some ⟨B.c, 0, none⟩)] w fun e w' => e = .returned (.bool false) ∧ ChipAt G B F N { S with ah := S.ah - 1 } w' ∧ Turned F w w' := by
  have c12 := h.cell.cells.c12
  have f12 := h.cell.cells.fr 12
  have ha2 := h.ah
  have HS : Hid (ChipAt G B F N { S with ah := S.ah - 1 } (w.setCell ⟨B.c, 12, none⟩ (.int .i64 (S.ah - 1)))) := h.set_ah (S.ah - 1) (by omega)
  have HT : Hid (Turned F w (w.setCell ⟨B.c, 12, none⟩ (.int .i64 (S.ah - 1)))) := (Turned.refl F w).setCell (p := ⟨B.c, 12, none⟩) (.inl (h.inF _ (by simp [CB.all]))) _
  clear h
  have n0 : ¬ S.ah = 0 := by omega
  have n1 : 0 < S.ah - 1 := by omega
  generalize S.ah = x at *
  go_enter Tryz.func93, Tryz.ntmps93
  go_wp2
  go_ret
  exact ⟨rfl, HS.out, HT.out⟩
theorem chipCut_yes (w : World) (h : ChipAt G B F N S w) (ha : S.ah = 1) : Calls Tryz.prog 93 #[.pointer (some ⟨B.c, 0, none⟩)] w fun e w' => e = .returned (.bool true) ∧ ChipAt G B F N { S with ah := 0, up := false } w' ∧ Turned F w w' := by
  have c12 := h.cell.cells.c12
  have f12 := h.cell.cells.fr 12
  have f11 := h.cell.cells.fr 11
  have c11 := h.cell.cells.c11
  have HS : Hid (ChipAt G B F N { S with ah := 0, up := false } ((w.setCell ⟨B.c, 12, none⟩ (.int .i64 0)).setCell ⟨B.c, 11, none⟩ (.bool false))) := (h.set_ah 0 (by omega)).set_up false
  have hF := h.inF B.c (by simp [CB.all])
  have HT : Hid (Turned F w ((w.setCell ⟨B.c, 12, none⟩ (.int .i64 0)).setCell ⟨B.c, 11, none⟩ (.bool false))) := ((Turned.refl F w).setCell (p := ⟨B.c, 12, none⟩) (.inl hF) _).setCell (p := ⟨B.c, 11, none⟩) (.inl hF) _
  clear h hF
  rw [ha] at c12
  go_enter Tryz.func93, Tryz.ntmps93
  go_wp2
  go_ret
  exact ⟨rfl, HS.out, HT.out⟩

/-- How many of so many are done in a deed that is cut. -/
def keptN (ke : Int) (all : Nat) : Nat := min ke.toNat all
theorem chipKept_any (all : Nat) (w : World) (h : CellOk G B S w) (hall : all ≤ 1000000) : Calls Tryz.prog 95 #[.pointer (some ⟨B.c, 0, none⟩), .int .i64 (all : Int)] w fun e w' => e = .returned (.int .i64 (keptN S.ke all : Int)) ∧ w = w' := by
  have c13 := h.cells.c13
  clear h
  have HK : Hid (∀ r : Int, (0 ≤ S.ke ∧ S.ke ≤ all ∧ r = S.ke) ∨ (0 ≤ S.ke ∧ all < S.ke ∧ r = all) ∨ (S.ke < 0 ∧ r = 0) → r = (keptN S.ke all : Int)) := fun r hr => by
    unfold keptN
    rcases Nat.le_total S.ke.toNat all with hh | hh
    · rw [Nat.min_eq_left hh]; omega
    · rw [Nat.min_eq_right hh]; omega
  generalize (keptN S.ke all : Int) = r at *
  generalize S.ke = x at *
  rcases (show (0 ≤ x ∧ x ≤ all) ∨ (0 ≤ x ∧ all < x) ∨ x < 0 by omega) with hx | hx | hx
  · have HR : Hid (x = r) := HK.out _ (.inl ⟨hx.1, hx.2, rfl⟩)
    have h1 := hx.1
    have h2 := hx.2
    go_enter Tryz.func95, Tryz.ntmps95
    go_wp2
    all_goals (go_ret; refine ⟨ret_int ?_, rfl⟩; have := HR.out; omega)
  · have HR : Hid ((all : Int) = r) := HK.out _ (.inr (.inl ⟨hx.1, hx.2, rfl⟩))
    have h1 := hx.1
    have h2 := hx.2
    go_enter Tryz.func95, Tryz.ntmps95
    go_wp2
    all_goals (go_ret; refine ⟨ret_int ?_, rfl⟩; have := HR.out; omega)
  · have HR : Hid ((0 : Int) = r) := HK.out _ (.inr (.inr ⟨hx, rfl⟩))
    go_enter Tryz.func95, Tryz.ntmps95
    go_wp2
    all_goals (go_ret; refine ⟨ret_int ?_, rfl⟩; have := HR.out; omega)
end
end Go.Proofs.YtggpgdaacbmmdaaGreat
