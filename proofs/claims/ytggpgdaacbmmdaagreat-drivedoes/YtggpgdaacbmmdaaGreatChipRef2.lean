/-
  The document's answer of layer 7 (casemateref07): Arm, Mark, Burn, Read. (Written by tools/gen/chip_ref2.py.)
-/
import Derived.Test.YtggpgdaacbmmdaaGreatChipRef
namespace Go.Proofs.YtggpgdaacbmmdaaGreat
open Go.RowKit Go.Maps
set_option linter.unusedVariables false
set_option maxRecDepth 8192

section
variable {G : Geo} {R : RB} {F : Nat → Prop} {S : CS}

theorem ref7Arm_any (x y : Int) (hx : I64 x) (hy : I64 y) (w : World) (h : RefAt G R F S w) :
    Calls Tryz.prog 41 #[.pointer (some ⟨R.c, 0, none⟩), .int .i64 x, .int .i64 y] w fun e w' => (∃ r, e = .returned r) ∧ RefAt G R F { S with ah := max x 0, ke := y } w' ∧ Turned F w w' := by
  have c8 := h.cell.cells.c8
  have f8 := h.cell.cells.fr 8
  have c9 := h.cell.cells.c9
  have f9 := h.cell.cells.fr 9
  obtain ⟨hx1, hx2⟩ := hx
  have HS : Hid (∀ v, v = max x 0 → RefAt G R F { S with ah := max x 0, ke := y } ((w.setCell ⟨R.c, 8, none⟩ (.int .i64 v)).setCell ⟨R.c, 9, none⟩ (.int .i64 y))) := fun v hv => by
    subst hv
    exact (h.set_ah (max x 0) (by omega)).set_ke y hy
  have hF := h.inF R.c (.inl rfl)
  have HT : Hid (∀ v, Turned F w ((w.setCell ⟨R.c, 8, none⟩ (.int .i64 v)).setCell ⟨R.c, 9, none⟩ (.int .i64 y))) := fun v => ((Turned.refl F w).setCell (p := ⟨R.c, 8, none⟩) (.inl hF) _).setCell (p := ⟨R.c, 9, none⟩) (.inl hF) _
  clear h hF
  by_cases h0 : 0 ≤ x
  · go_enter Tryz.func41, Tryz.ntmps41
    go_wp2
    all_goals (go_end0; first | exact ⟨⟨_, rfl⟩, HS.out _ (by omega), HT.out _⟩ | (exfalso; omega))
  · go_enter Tryz.func41, Tryz.ntmps41
    go_wp2
    all_goals (go_end0; first | exact ⟨⟨_, rfl⟩, HS.out _ (by omega), HT.out _⟩ | (exfalso; omega))

/-- A block's number. -/
theorem inB0_nat {x : Int} (h : inB0 x G.b = true) : ∃ k : Nat, x = (k : Int) ∧ k < G.b.toNat := ⟨x.toNat, by have := inB0_yes h; omega, by have := inB0_yes h; omega⟩
theorem hasP_nat {x y : Int} (h : hasP G x y = true) : ∃ i j : Nat, x = (i : Int) ∧ y = (j : Int) ∧ i < G.b.toNat ∧ j < G.p.toNat := ⟨x.toNat, y.toNat, by have := hasP_yes h; omega, by have := hasP_yes h; omega, by have := hasP_yes h; omega, by have := hasP_yes h; omega⟩

theorem ref7Mark_any (x : Int) (w : World) (h : RefAt G R F S w) :
    Calls Tryz.prog 97 #[.pointer (some ⟨R.c, 0, none⟩), .int .i64 x] w fun e w' => e = .returned (.int .i64 (S.doMark G x).1) ∧ RDoes G R F w (S.doMark G x).2 w' := by
  cases hu : S.up
  · have HR : Hid (S.doMark G x = (70, S)) := by show _ = _; unfold CS.doMark; rw [if_pos hu]
    rw [HR.out]
    clear HR
    have c7 := h.cell.cells.c7
    rw [hu] at c7
    go_enter Tryz.func97, Tryz.ntmps97
    go_wp2_with fail
    go_ret
    exact ⟨rfl, RDoes.of w h (Turned.refl _ _)⟩
  cases hb : inB0 x G.b
  · have HR : Hid (S.doMark G x = (1, S)) := by show _ = _; unfold CS.doMark; rw [if_neg (by rw [hu]; simp), if_pos hb]
    rw [HR.out]
    clear HR
    have c7 := h.cell.cells.c7
    rw [hu] at c7
    go_enter Tryz.func97, Tryz.ntmps97
    go_wp2_with fail
    refine (ref7Has_any x _ h.cell).mono ?_
    rw [hb]
    rintro e w1 ⟨rfl, rfl⟩
    go_wp2_with fail
    go_ret
    exact ⟨rfl, RDoes.of w h (Turned.refl _ _)⟩
  have hci := S.counted_is h.ah.1
  have hke := hci.same.2.2.2.2.2.2
  obtain ⟨k, rfl, hk⟩ := inB0_nat hb
  by_cases hc : S.ah = 1
  · rw [decide_eq_true hc] at hci
    by_cases hkk : 0 < S.ke
    · have HR : Hid (S.doMark G (k : Int) = (70, S.counted.mark (k : Int))) := by show _ = _; unfold CS.doMark; rw [if_neg (by rw [hu]; simp), if_neg (by rw [hb]; simp), if_pos hc, if_pos hkk]
      rw [HR.out]
      clear HR
      have c7 := h.cell.cells.c7
      rw [hu] at c7
      generalize S.counted = S1 at *
      go_enter Tryz.func97, Tryz.ntmps97
      go_wp2_with fail
      refine (ref7Has_any (k : Int) _ h.cell).mono ?_
      rw [hb]
      rintro e w1 ⟨rfl, rfl⟩
      go_wp2_with fail
      refine (ref7Deed_any _ h hci).mono ?_
      rintro e w2 ⟨rfl, h2, t2⟩
      have c9 := h2.cell.cells.c9
      rw [hke] at c9
      have c5 := h2.cell.cells.c5
      have d2 := (h2.blocks k hk).c2
      have f2 := h2.bfr (k * 4 + 2)
      have H3 : Hid (RefAt G R F (S1.mark (k : Int)) (w2.setCell ⟨R.bb, k * 4 + 2, none⟩ (.bool true))) := h2.set_bd rfl hk
      have T3 : Hid (Turned F w (w2.setCell ⟨R.bb, k * 4 + 2, none⟩ (.bool true))) := t2.setCell (p := ⟨R.bb, k * 4 + 2, none⟩) (.inl (h2.inF _ (.inr (.inl rfl)))) _
      have hkI : (k : Int) < ((G.b.toNat : Nat) : Int) := by omega
      clear h2 t2 h hci
      generalize G.b.toNat = Bn at *
      generalize S1.bd (k : Int) = old at *
      generalize S.ke = ke at *
      go_wp2_with fail
      go_ret
      exact ⟨rfl, RDoes.of w H3.out T3.out⟩
    · have HR : Hid (S.doMark G (k : Int) = (70, S.counted)) := by show _ = _; unfold CS.doMark; rw [if_neg (by rw [hu]; simp), if_neg (by rw [hb]; simp), if_pos hc, if_neg hkk]
      rw [HR.out]
      clear HR
      have c7 := h.cell.cells.c7
      rw [hu] at c7
      generalize S.counted = S1 at *
      go_enter Tryz.func97, Tryz.ntmps97
      go_wp2_with fail
      refine (ref7Has_any (k : Int) _ h.cell).mono ?_
      rw [hb]
      rintro e w1 ⟨rfl, rfl⟩
      go_wp2_with fail
      refine (ref7Deed_any _ h hci).mono ?_
      rintro e w2 ⟨rfl, h2, t2⟩
      have c9 := h2.cell.cells.c9
      rw [hke] at c9
      have H3 : Hid (RefAt G R F S1 w2) := h2
      clear h2 h hci
      generalize S.ke = ke at *
      have hk' : ke ≤ 0 := by omega
      go_wp2_with fail
      go_ret
      exact ⟨rfl, RDoes.of w H3.out t2⟩
  · rw [decide_eq_false hc] at hci
    have HR : Hid (S.doMark G (k : Int) = (0, S.counted.mark (k : Int))) := by show _ = _; unfold CS.doMark; rw [if_neg (by rw [hu]; simp), if_neg (by rw [hb]; simp), if_neg hc]
    rw [HR.out]
    clear HR
    have c7 := h.cell.cells.c7
    rw [hu] at c7
    generalize S.counted = S1 at *
    go_enter Tryz.func97, Tryz.ntmps97
    go_wp2_with fail
    refine (ref7Has_any (k : Int) _ h.cell).mono ?_
    rw [hb]
    rintro e w1 ⟨rfl, rfl⟩
    go_wp2_with fail
    refine (ref7Deed_any _ h hci).mono ?_
    rintro e w2 ⟨rfl, h2, t2⟩
    have c5 := h2.cell.cells.c5
    have d2 := (h2.blocks k hk).c2
    have f2 := h2.bfr (k * 4 + 2)
    have H3 : Hid (RefAt G R F (S1.mark (k : Int)) (w2.setCell ⟨R.bb, k * 4 + 2, none⟩ (.bool true))) := h2.set_bd rfl hk
    have T3 : Hid (Turned F w (w2.setCell ⟨R.bb, k * 4 + 2, none⟩ (.bool true))) := t2.setCell (p := ⟨R.bb, k * 4 + 2, none⟩) (.inl (h2.inF _ (.inr (.inl rfl)))) _
    have hkI : (k : Int) < ((G.b.toNat : Nat) : Int) := by omega
    clear h2 t2 h hci
    generalize G.b.toNat = Bn at *
    generalize S1.bd (k : Int) = old at *
    go_wp2_with fail
    go_ret
    exact ⟨rfl, RDoes.of w H3.out T3.out⟩
theorem ref7Read_down (x y : Int) (w : World) (h : RefAt G R F S w) (hu : S.up = false) : Calls Tryz.prog 45 #[.pointer (some ⟨R.c, 0, none⟩), .int .i64 x, .int .i64 y] w fun e w' => e = .returned (.tuple #[.slice none 0 0, .int .i64 70]) ∧ w = w' := by
  have c7 := h.cell.cells.c7
  rw [hu] at c7
  clear h
  go_enter Tryz.func45, Tryz.ntmps45
  go_wp2_with fail
  go_ret2
  exact ⟨rfl, rfl⟩
theorem ref7Read_no (x y : Int) (w : World) (h : RefAt G R F S w) (hu : S.up = true) (hp : hasP G x y = false) : Calls Tryz.prog 45 #[.pointer (some ⟨R.c, 0, none⟩), .int .i64 x, .int .i64 y] w fun e w' => e = .returned (.tuple #[.slice none 0 0, .int .i64 1]) ∧ w = w' := by
  have c7 := h.cell.cells.c7
  rw [hu] at c7
  go_enter Tryz.func45, Tryz.ntmps45
  go_wp2_with fail
  refine (ref7Page_any x y _ h.cell).mono ?_
  rw [hp]
  rintro e w1 ⟨rfl, rfl⟩
  clear h
  go_wp2_with fail
  go_ret2
  exact ⟨rfl, rfl⟩
set_option maxHeartbeats 800000 in
theorem ref7Read_yes (x y : Int) (w : World) (h : RefAt G R F S w) (hu : S.up = true) (hp : hasP G x y = true) : Calls Tryz.prog 45 #[.pointer (some ⟨R.c, 0, none⟩), .int .i64 x, .int .i64 y] w fun e w' =>
    ∃ a cap, e = .returned (.tuple #[.slice a G.L cap, .int .i64 0]) ∧ Row .u8 w' a G.L cap (readZ G.L (S.pg x y) (S.wr x y)) ∧ Below w.heap.size w w' := by
  have hL := G.ok.L2
  have hp0 := hp
  obtain ⟨i, j, rfl, rfl, hi, hj⟩ := hasP_nat hp
  obtain ⟨g, cap, a, len, c, l, e0, e1, _, rz, zb, rl, _, nd, ia, me⟩ := h.pages i hi j hj
  have HZ : Hid (turnI (S.pg (i : Int) (j : Int)) l = readZ G.L (S.pg (i : Int) (j : Int)) (S.wr (i : Int) (j : Int))) := readZ_of zb rz.hlen (fun x hx => ia x ((me x).2 hx)) nd me
  have ht := refTurn_any (some ⟨g, 0, none⟩) a G.L cap len c (S.pg (i : Int) (j : Int)) l
  have hb := h.blocks i hi
  have d0 := hb.c0
  have hcap := hb.cap
  have c5 := h.cell.cells.c5
  have c7 := h.cell.cells.c7
  rw [hu] at c7
  have q1 := below_one w (.cells #[.slice (some ⟨g, 0, none⟩) G.L cap, .slice a len c] 81)
  have ht' := ht _ (rz.below q1 (Nat.le_refl _)) zb (rl.below q1 (Nat.le_refl _)) ia (by omega)
  have hiI : (i : Int) < ((G.b.toNat : Nat) : Int) := by omega
  have hjI : (j : Int) < ((G.p.toNat : Nat) : Int) := by omega
  have HQ1 : Hid (Below w.heap.size w (w.alloc (.cells #[.slice (some ⟨g, 0, none⟩) G.L cap, .slice a len c] 81))) := q1
  have hcell := h.cell
  clear h hb rz rl zb nd ia me ht q1 hcap
  go_enter Tryz.func45, Tryz.ntmps45
  go_wp2_with fail
  refine (ref7Page_any (i : Int) (j : Int) _ hcell).mono ?_
  rw [hp0]
  rintro e w1 ⟨rfl, rfl⟩
  clear hcell hp0 hp
  generalize G.b.toNat = Bn at *
  generalize G.p.toNat = Pn at *
  go_wp2_with fail
  refine ht'.mono ?_
  rintro e w2 ⟨v, rfl, hown, q2⟩
  obtain ⟨a2, cap2, rfl, hr2⟩ := row_of_owns hown
  clear ht'
  go_wp2_with fail
  go_ret2
  refine ⟨a2, cap2, rfl, ?_, btrans HQ1.out q2⟩
  rw [← HZ.out]; exact hr2
end
end Go.Proofs.YtggpgdaacbmmdaaGreat
