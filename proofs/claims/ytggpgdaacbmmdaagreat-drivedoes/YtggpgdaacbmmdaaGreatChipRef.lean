/-
  The document's answer of layer 7 (casemateref07): has, page, deed, clamp, blank, Arm, Mark, Burn, Read.
-/
import Derived.Test.YtggpgdaacbmmdaaGreatRefAt
namespace Go.Proofs.YtggpgdaacbmmdaaGreat
open Go.RowKit Go.Maps
set_option linter.unusedVariables false
set_option maxRecDepth 8192

section
variable {G : Geo} {R : RB} {F : Nat → Prop} {S : CS}

theorem RDoes.of (w : World) {w' : World} {S' : CS} (h : RefAt G R F S' w') (ht : Turned F w w') : RDoes G R F w S' w' := ⟨F, h, ht, fun _ hx => .inl hx⟩
theorem RDoes.after {w w1 w' : World} {S' : CS} {F1 : Nat → Prop} (ht : Turned F w w1) (hf : ∀ x, F1 x → F x ∨ w.heap.size ≤ x) (h : RDoes G R F1 w1 S' w') : RDoes G R F w S' w' := by
  obtain ⟨F', h1, h2, h3⟩ := h
  exact ⟨F', h1, ht.andThen h2 hf, fun x hx => (h3 x hx).elim (hf x) (fun h => .inr (Nat.le_trans ht.size h))⟩

theorem ref7Has_any (x : Int) (w : World) (h : RCell G R S w) : Calls Tryz.prog 36 #[.pointer (some ⟨R.c, 0, none⟩), .int .i64 x] w fun e w' => e = .returned (.bool (inB0 x G.b)) ∧ w = w' := by
  have HB : Hid (inB0 x G.b = decide (0 ≤ x ∧ x < G.b)) := rfl
  have c0 := h.cells.c0
  clear h
  go_enter Tryz.func36, Tryz.ntmps36
  go_wp2
  all_goals (go_ret; refine ⟨ret_bool ?_, rfl⟩; rw [HB.out]; symm; first | (rw [decide_eq_true_iff]; omega) | (rw [decide_eq_false_iff_not]; omega) | (rw [decide_eq_decide]; omega))
theorem ref7Page_any (x y : Int) (w : World) (h : RCell G R S w) : Calls Tryz.prog 73 #[.pointer (some ⟨R.c, 0, none⟩), .int .i64 x, .int .i64 y] w fun e w' => e = .returned (.bool (hasP G x y)) ∧ w = w' := by
  have c1 := h.cells.c1
  have HP : Hid (hasP G x y = (inB0 x G.b && decide (0 ≤ y ∧ y < G.p))) := rfl
  cases hb : inB0 x G.b
  · go_enter Tryz.func73, Tryz.ntmps73
    go_wp2_with fail
    refine (ref7Has_any x _ h).mono ?_
    rintro e w1 ⟨rfl, rfl⟩
    rw [hb]
    clear h
    go_wp2_with fail
    go_ret
    exact ⟨ret_bool (by rw [HP.out, hb]; rfl), rfl⟩
  · go_enter Tryz.func73, Tryz.ntmps73
    go_wp2_with fail
    refine (ref7Has_any x _ h).mono ?_
    rintro e w1 ⟨rfl, rfl⟩
    rw [hb]
    clear h
    go_wp2_with fail
    all_goals (go_ret; refine ⟨ret_bool ?_, rfl⟩; rw [HP.out, hb, Bool.true_and]; symm; first | (rw [decide_eq_true_iff]; omega) | (rw [decide_eq_false_iff_not]; omega) | (rw [decide_eq_decide]; omega))

theorem ref7Deed_no (w : World) (h : RefAt G R F S w) (ha : S.ah = 0) : Calls Tryz.prog 98 #[.pointer (some ⟨R.c, 0, none⟩)] w fun e w' => e = .returned (.bool false) ∧ w = w' := by
  have c8 := h.cell.cells.c8
  rw [ha] at c8
  clear h
  go_enter Tryz.func98, Tryz.ntmps98
  go_wp2
  go_ret
  exact ⟨rfl, rfl⟩
theorem ref7Deed_on (w : World) (h : RefAt G R F S w) (ha : 1 < S.ah) : Calls Tryz.prog 98 #[.pointer (some ⟨R.c, 0, none⟩)] w fun e w' => e = .returned (.bool false) ∧ RefAt G R F { S with ah := S.ah - 1 } w' ∧ Turned F w w' := by
  have c8 := h.cell.cells.c8
  have f8 := h.cell.cells.fr 8
  have ha2 := h.ah
  have HS : Hid (RefAt G R F { S with ah := S.ah - 1 } (w.setCell ⟨R.c, 8, none⟩ (.int .i64 (S.ah - 1)))) := h.set_ah (S.ah - 1) (by omega)
  have HT : Hid (Turned F w (w.setCell ⟨R.c, 8, none⟩ (.int .i64 (S.ah - 1)))) := (Turned.refl F w).setCell (p := ⟨R.c, 8, none⟩) (.inl (h.inF _ (.inl rfl))) _
  clear h
  have n0 : ¬ S.ah = 0 := by omega
  have n1 : 0 < S.ah - 1 := by omega
  generalize S.ah = x at *
  go_enter Tryz.func98, Tryz.ntmps98
  go_wp2
  go_ret
  exact ⟨rfl, HS.out, HT.out⟩
theorem ref7Deed_yes (w : World) (h : RefAt G R F S w) (ha : S.ah = 1) : Calls Tryz.prog 98 #[.pointer (some ⟨R.c, 0, none⟩)] w fun e w' => e = .returned (.bool true) ∧ RefAt G R F { S with ah := 0, up := false } w' ∧ Turned F w w' := by
  have c8 := h.cell.cells.c8
  have f8 := h.cell.cells.fr 8
  have f7 := h.cell.cells.fr 7
  have c7 := h.cell.cells.c7
  have HS : Hid (RefAt G R F { S with ah := 0, up := false } ((w.setCell ⟨R.c, 8, none⟩ (.int .i64 0)).setCell ⟨R.c, 7, none⟩ (.bool false))) := (h.set_ah 0 (by omega)).set_up false
  have hF := h.inF R.c (.inl rfl)
  have HT : Hid (Turned F w ((w.setCell ⟨R.c, 8, none⟩ (.int .i64 0)).setCell ⟨R.c, 7, none⟩ (.bool false))) := ((Turned.refl F w).setCell (p := ⟨R.c, 8, none⟩) (.inl hF) _).setCell (p := ⟨R.c, 7, none⟩) (.inl hF) _
  clear h hF
  rw [ha] at c8
  go_enter Tryz.func98, Tryz.ntmps98
  go_wp2
  go_ret
  exact ⟨rfl, HS.out, HT.out⟩
theorem ref7Deed_any (w : World) (h : RefAt G R F S w) {c : Bool} {S1 : CS} (hc : S.cutIs c S1) :
    Calls Tryz.prog 98 #[.pointer (some ⟨R.c, 0, none⟩)] w fun e w' => e = .returned (.bool c) ∧ RefAt G R F S1 w' ∧ Turned F w w' := by
  rcases hc with ⟨h0, rfl, rfl⟩ | ⟨h0, rfl, rfl⟩ | ⟨h0, rfl, rfl⟩
  · exact (ref7Deed_no w h h0).mono fun e w' ⟨e1, e2⟩ => ⟨e1, e2 ▸ h, e2 ▸ Turned.refl _ _⟩
  · exact ref7Deed_on w h h0
  · exact ref7Deed_yes w h h0
theorem ref7Clamp_any (ke : Int) (all : Nat) (w : World) (hall : all ≤ 1000000) : Calls Tryz.prog 99 #[.int .i64 ke, .int .i64 (all : Int)] w fun e w' => e = .returned (.int .i64 (keptN ke all : Int)) ∧ w = w' := by
  have HK : Hid (∀ r : Int, (0 ≤ ke ∧ ke ≤ all ∧ r = ke) ∨ (0 ≤ ke ∧ all < ke ∧ r = all) ∨ (ke < 0 ∧ r = 0) → r = (keptN ke all : Int)) := fun r hr => by
    unfold keptN
    rcases Nat.le_total ke.toNat all with hh | hh
    · rw [Nat.min_eq_left hh]; omega
    · rw [Nat.min_eq_right hh]; omega
  generalize (keptN ke all : Int) = r at *
  rcases (show (0 ≤ ke ∧ ke ≤ all) ∨ (0 ≤ ke ∧ all < ke) ∨ ke < 0 by omega) with hx | hx | hx
  · have HR : Hid (ke = r) := HK.out _ (.inl ⟨hx.1, hx.2, rfl⟩)
    have h1 := hx.1
    have h2 := hx.2
    go_enter Tryz.func99, Tryz.ntmps99
    go_wp2
    all_goals (go_ret; refine ⟨ret_int ?_, rfl⟩; have := HR.out; omega)
  · have HR : Hid ((all : Int) = r) := HK.out _ (.inr (.inl ⟨hx.1, hx.2, rfl⟩))
    have h1 := hx.1
    have h2 := hx.2
    go_enter Tryz.func99, Tryz.ntmps99
    go_wp2
    all_goals (go_ret; refine ⟨ret_int ?_, rfl⟩; have := HR.out; omega)
  · have HR : Hid ((0 : Int) = r) := HK.out _ (.inr (.inr ⟨hx, rfl⟩))
    go_enter Tryz.func99, Tryz.ntmps99
    go_wp2
    all_goals (go_ret; refine ⟨ret_int ?_, rfl⟩; have := HR.out; omega)

set_option maxHeartbeats 800000 in
/-- A page of ff, by value. -/
theorem ref7Blank_any (L : Nat) (hL : L ≤ 1000) (w : World) : Calls Tryz.prog 35 #[.int .i64 (L : Int)] w fun e w' => ∃ q, w.heap.size ≤ q ∧ e = .returned (.agg #[.slice (some ⟨q, 0, none⟩) L L, .slice none 0 0]) ∧ Blk w' q (List.replicate L 255) ∧ Below w.heap.size w w' := by
  have q0 := below_one w (.cells #[.slice none 0 0, .slice none 0 0] 81)
  have hbx : (w.alloc (.cells #[.slice none 0 0, .slice none 0 0] 81)).heap[w.heap.size]? = some (.cells #[.slice none 0 0, .slice none 0 0] 81 (0, 0)) := (MapKept.heap_alloc w _).1
  obtain ⟨w5, hmk, hg5, q5⟩ := makeB L hL (w.alloc (.cells #[.slice none 0 0, .slice none 0 0] 81))
  have z5 : Blk w5 (w.alloc (.cells #[.slice none 0 0, .slice none 0 0] 81)).heap.size (fillZ 255 0 L) := by unfold Blk; rw [fillZ_zero]; exact hg5
  have hsz : (w.alloc (.cells #[.slice none 0 0, .slice none 0 0] 81)).heap.size = w.heap.size + 1 := by simp
  have b5 : w5.heap[w.heap.size]? = some (.cells #[.slice none 0 0, .slice none 0 0] 81 (0, 0)) := (q5.block _ (by omega)).trans hbx
  have HB5 : Hid (Below w.heap.size w w5) := btrans q0 q5
  rw [hsz] at hmk z5
  clear q5 q0 hg5 hbx hsz
  go_enter Tryz.func35, Tryz.ntmps35
  go_wp2_with fail
  clear hmk
  have HG : Hid (w.heap.size = w.heap.size) := rfl
  generalize hg0 : w.heap.size = g at z5 b5 HG ⊢
  have HG0 : Hid (w.heap.size = g) := hg0
  clear hg0 HG
  go_loopw [4] (fun i wr => ∃ n : Nat, n ≤ L ∧ i = .int .i64 (n : Int) ∧ Hid (Blk wr (g + 1) (fillZ 255 n L)) ∧ Hid (Turned (fun k => k = g + 1) w5 wr)) (fun i _ => L - (RowKit.intOf i).toNat)
  case atStart => exact ⟨0, Nat.zero_le _, rfl, z5, Turned.refl _ _⟩
  case round =>
    obtain ⟨n, hn, rfl, hz, ht⟩ := hrel
    by_cases hlt : n < L
    · have hlt' : (n : Int) < (L : Int) := by omega
      have cn := hz.out.cell (i := n) (by rw [fillZ_len 255 hn]; exact hlt)
      have fn := hz.out.frozen n
      have HZ2 : Hid (Blk (wr.setCell ⟨g + 1, n, none⟩ (.int .u8 255)) (g + 1) (fillZ 255 (n + 1) L)) := by
        show Blk _ _ _
        rw [← fillZ_set 255 hlt]; exact hz.out.set n 255
      have HT2 : Hid (Turned (fun k => k = g + 1) w5 (wr.setCell ⟨g + 1, n, none⟩ (.int .u8 255))) := ht.out.setCell (p := ⟨g + 1, n, none⟩) (.inl rfl) _
      clear hz ht
      generalize (fillZ 255 n L)[n]?.getD 0 = old at *
      go_wp2_with fail
      go_roundw
      case rel => exact ⟨n + 1, by omega, by go_num, HZ2, HT2⟩
      case measure => simp [RowKit.intOf]; omega
    · have e : n = L := by omega
      subst e
      have hz2 := hz.out
      rw [fillZ_all] at hz2
      have hlt5 : g < w5.heap.size := (Array.getElem?_eq_some_iff.1 b5).1
      have b6 : wr.heap[g]? = some (.cells #[.slice none 0 0, .slice none 0 0] 81 (0, 0)) := (ht.out.block g hlt5 (by omega)).trans b5
      have d0 : wr.cell? ⟨g, 0, none⟩ = some (.slice none 0 0) := by simp [World.cell?, b6]
      have d1 : wr.cell? ⟨g, 1, none⟩ = some (.slice none 0 0) := by simp [World.cell?, b6]
      have e0 : wr.frozen? ⟨g, 0, none⟩ = false := by simp [World.frozen?, b6]
      have e1 : wr.frozen? ⟨g, 1, none⟩ = false := by simp [World.frozen?, b6]
      have hbelow : Below w.heap.size w wr := HB5.out.trans (ht.out.below HB5.out.size (fun k e => by have := HG0.out; omega))
      have HZ : Hid (∀ v0 v1, Blk ((wr.setCell ⟨g, 0, none⟩ v0).setCell ⟨g, 1, none⟩ v1) (g + 1) (List.replicate n 255)) := fun v0 v1 => hz2.same ((Below.heap_setCell _ _ _ _ (by show g + 1 ≠ g; omega)).trans (Below.heap_setCell _ _ _ _ (by show g + 1 ≠ g; omega)))
      have HBL : Hid (∀ v0 v1, Below w.heap.size w ((wr.setCell ⟨g, 0, none⟩ v0).setCell ⟨g, 1, none⟩ v1)) := fun v0 v1 => (hbelow.setCell (p := ⟨g, 0, none⟩) (by have := HG0.out; show w.heap.size ≤ g; omega) v0).setCell (p := ⟨g, 1, none⟩) (by have := HG0.out; show w.heap.size ≤ g; omega) v1
      clear hz ht hz2 b6 hbelow
      go_wp2_with fail
      refine bodyPost_ret (v := .agg #[.slice (some ⟨g + 1, 0, none⟩) n n, .slice none 0 0]) ?_ rfl ?_
      · simp [results, Tryz.results35, go_sem, d0, d1]
      · exact ⟨g + 1, by have := HG0.out; omega, rfl, HZ.out _ _, HBL.out _ _⟩
end
end Go.Proofs.YtggpgdaacbmmdaaGreat
