/-
  The document's answer of layer 8 (casemateref08), over the document's chip: Ahead, after, Write, Erase, Good, Whole.
-/
import Derived.Test.YtggpgdaacbmmdaaGreatDriveCode3
import Derived.Test.YtggpgdaacbmmdaaGreatChipBoth
import Derived.Test.YtggpgdaacbmmdaaGreatEccRef2
import Derived.Test.YtggpgdaacbmmdaaGreatEccRef3
namespace Go.Proofs.YtggpgdaacbmmdaaGreat
open Go.RowKit Go.Maps
set_option linter.unusedVariables false
set_option maxRecDepth 8192

section
variable {G : Geo} {R : RB} {F : Nat → Prop} {S : CS}

theorem use_down {x : Int} {o : Bool} (hu : S.up = false) : S.use G x o = 70 := by
  have : S.rdy G x o = 70 := by unfold CS.rdy; rw [if_pos hu]
  unfold CS.use; rw [this, if_pos (by simp)]
theorem use_arg {x : Int} {o : Bool} (hu : S.up = true) (h : (inB0 x G.b && o) = false) : S.use G x o = 1 := by
  have : S.rdy G x o = 1 := by unfold CS.rdy; rw [if_neg (by rw [hu]; simp), if_pos h]
  unfold CS.use; rw [this, if_pos (by simp)]

set_option maxHeartbeats 1600000 in
theorem ref8Ahead_any (x y : Int) (o : Bool) (w : World) (h : RefAt G R F S w) :
    Calls Tryz.prog 44 #[.pointer (some ⟨R.c, 0, none⟩), .int .i64 x, .int .i64 y, .bool o] w fun e w' => e = .returned (.int .i64 (S.use G x (inB0 y G.p && o))) ∧ w = w' := by
  have c7 := h.cell.cells.c7
  cases hu : S.up
  · have HR : Hid (S.use G x (inB0 y G.p && o) = 70) := use_down hu
    rw [HR.out]
    rw [hu] at c7
    clear HR h hu
    go_enter Tryz.func44, Tryz.ntmps44
    go_wp2_with fail
    go_ret
    exact ⟨rfl, rfl⟩
  rw [hu] at c7
  have c0 := h.cell.cells.c0
  have c1 := h.cell.cells.c1
  by_cases hin : (inB0 x G.b && (inB0 y G.p && o)) = true
  case neg =>
    have hin' : (inB0 x G.b && (inB0 y G.p && o)) = false := by simpa using hin
    have HR : Hid (S.use G x (inB0 y G.p && o) = 1) := use_arg hu hin'
    rw [HR.out]
    clear HR hin
    by_cases hx : 0 ≤ x ∧ x < G.b
    · have hx0 : ¬ x < 0 := by omega
      have hx1 : ¬ G.b ≤ x := by omega
      by_cases hy : 0 ≤ y ∧ y < G.p
      · have hy0 : ¬ y < 0 := by omega
        have hy1 : ¬ G.p ≤ y := by omega
        obtain rfl : o = false := by
          cases o
          · rfl
          · unfold inB0 at hin'; rw [decide_eq_true hx, decide_eq_true hy] at hin'; cases hin'
        clear h hin' hu
        go_enter Tryz.func44, Tryz.ntmps44
        go_wp2_with fail
        go_ret
        exact ⟨rfl, rfl⟩
      · clear h hin' hu
        by_cases hy0 : y < 0
        · go_enter Tryz.func44, Tryz.ntmps44
          go_wp2_with fail
          go_ret
          exact ⟨rfl, rfl⟩
        · have hy1 : G.p ≤ y := by omega
          go_enter Tryz.func44, Tryz.ntmps44
          go_wp2_with fail
          go_ret
          exact ⟨rfl, rfl⟩
    · clear h hin' hu
      by_cases hx0 : x < 0
      · go_enter Tryz.func44, Tryz.ntmps44
        go_wp2_with fail
        go_ret
        exact ⟨rfl, rfl⟩
      · have hx1 : G.b ≤ x := by omega
        go_enter Tryz.func44, Tryz.ntmps44
        go_wp2_with fail
        go_ret
        exact ⟨rfl, rfl⟩
  rw [Bool.and_eq_true, Bool.and_eq_true] at hin
  obtain ⟨hix, hiy, rfl⟩ := hin
  obtain ⟨k, rfl, hk⟩ := inB0_nat hix
  have hy := inB0_yes hiy
  have hx := inB0_yes hix
  have hx0 : ¬ (k : Int) < 0 := by omega
  have hx1 : ¬ G.b ≤ (k : Int) := by omega
  have hy0 : ¬ y < 0 := by omega
  have hy1 : ¬ G.p ≤ y := by omega
  have c5 := h.cell.cells.c5
  have d2 := (h.blocks k hk).c2
  have hkI : (k : Int) < ((G.b.toNat : Nat) : Int) := by omega
  have HR : Hid (∀ b, S.bd (k : Int) = b → S.use G (k : Int) (inB0 y G.p && true) = if b = true then 73 else 0) := fun b hb => by
    rw [hiy]
    cases b
    · exact use_of hu hix rfl hb
    · exact use_bad hu hix rfl hb
  generalize S.use G (k : Int) (inB0 y G.p && true) = r at *
  have HR' : Hid (r = if S.bd (k : Int) = true then 73 else 0) := HR.out _ rfl
  clear HR h hu hy hx hix hiy
  generalize S.bd (k : Int) = b at *
  generalize G.b.toNat = Bn at *
  cases b
  · have HR2 : Hid (r = 0) := HR'.out
    clear HR'
    go_enter Tryz.func44, Tryz.ntmps44
    go_wp2_with fail
    go_ret
    exact ⟨ret_int HR2.out.symm, rfl⟩
  · have HR2 : Hid (r = 73) := HR'.out
    clear HR'
    go_enter Tryz.func44, Tryz.ntmps44
    go_wp2_with fail
    go_ret
    exact ⟨ret_int HR2.out.symm, rfl⟩

theorem ref8After_any (x : Int) (r1 : Int) (w : World) (h : RefAt G R F S w) :
    Calls Tryz.prog 66 #[.pointer (some ⟨R.c, 0, none⟩), .int .i64 x, .int .i64 r1] w fun e w' => e = .returned (.int .i64 (CS.after G (r1, S) x).1) ∧ RDoes G R F w (CS.after G (r1, S) x).2 w' := by
  by_cases h72 : r1 = 72
  · subst h72
    have hmk := ref7Mark_any x w h
    by_cases hm : (S.doMark G x).1 = 0
    · have HA : Hid (CS.after G (72, S) x = (72, (S.doMark G x).2)) := by show _ = _; unfold CS.after; rw [if_neg (by simp), if_neg (by simp [hm])]
      rw [HA.out]
      clear HA
      rw [hm] at hmk
      clear hm h
      generalize (S.doMark G x).2 = T2 at *
      go_enter Tryz.func66, Tryz.ntmps66
      go_wp2_with fail
      refine hmk.mono ?_
      rintro e w1 ⟨rfl, d1⟩
      clear hmk
      go_wp2_with fail
      go_ret
      exact ⟨rfl, d1⟩
    · have HA : Hid (CS.after G (72, S) x = S.doMark G x) := by show _ = _; unfold CS.after; rw [if_neg (by simp), if_pos hm]
      rw [HA.out]
      clear HA
      have hq : ((S.doMark G x).1 != 0) = true := by simp [hm]
      clear hm h
      generalize S.doMark G x = T at *
      obtain ⟨m1, T2⟩ := T
      go_enter Tryz.func66, Tryz.ntmps66
      go_wp2_with fail
      refine hmk.mono ?_
      rintro e w1 ⟨rfl, d1⟩
      clear hmk
      go_wp2_with fail
      go_ret
      exact ⟨rfl, d1⟩
  · have HA : Hid (CS.after G (r1, S) x = (r1, S)) := by show _ = _; unfold CS.after; rw [if_pos h72]
    rw [HA.out]
    clear HA
    have hq : (r1 != 72) = true := by simp [h72]
    have HD : Hid (RDoes G R F w S w) := RDoes.of w h (Turned.refl _ _)
    clear h72 h
    go_enter Tryz.func66, Tryz.ntmps66
    go_wp2_with fail
    go_ret
    exact ⟨rfl, HD.out⟩

/-- A geometry in the document's chip. -/
theorem RefAt.geo {w : World} (h : RefAt G R F S w) : w.cell? ⟨R.c, 0, none⟩ = some (.int .i64 G.b) ∧ w.cell? ⟨R.c, 1, none⟩ = some (.int .i64 G.p) ∧ w.cell? ⟨R.c, 2, none⟩ = some (.int .i64 G.s) ∧ w.cell? ⟨R.c, 3, none⟩ = some (.int .i64 G.n) ∧ w.cell? ⟨R.c, 4, none⟩ = some (.int .i64 G.f) :=
  ⟨h.cell.cells.c0, h.cell.cells.c1, h.cell.cells.c2, h.cell.cells.c3, h.cell.cells.c4⟩

set_option maxHeartbeats 1600000 in
theorem ref8Write_no (x y : Int) (a : Option Addr) (len cap : Nat) (hlen : len ≤ maxLen) (w : World) (h : RefAt G R F S w) (u : Int) (hu : u ≠ 0) (HU : Hid (S.use G x (inB0 y G.p && decide (len = G.R)) = u)) :
    Calls Tryz.prog 37 #[.pointer (some ⟨R.c, 0, none⟩), .int .i64 x, .int .i64 y, .slice a len cap] w fun e w' => e = .returned (.int .i64 u) ∧ Below w.heap.size w w' := by
  have hroom := refRoom_any G.b G.p G.f G.s G.n G.R G.ok.hR G.ok.hs.2 (by have := G.ok.hn; omega)
  have HD : Hid ((((len : Nat) : Int) == (G.R : Int)) = decide (len = G.R)) := by show _ = _; rw [Bool.eq_iff_iff]; simp; omega
  have hq : (u != 0) = true := by simp [hu]
  obtain ⟨c0, c1, c2, c3, c4⟩ := h.geo
  go_enter Tryz.func37, Tryz.ntmps37
  go_wp2_with fail
  clear c0 c1 c2 c3 c4
  refine (hroom _).mono ?_
  rintro e w1 ⟨rfl, q1⟩
  have hah := ref8Ahead_any x y (decide (len = G.R)) w1 (h.below q1)
  rw [HU.out, ← HD.out] at hah
  clear hroom HU HD
  generalize hD : (((len : Nat) : Int) == (G.R : Int)) = D at *
  clear h
  go_wp2_with fail
  refine hah.mono ?_
  rintro e w2 ⟨rfl, rfl⟩
  clear hah hD
  go_wp2_with fail
  go_ret
  exact ⟨rfl, q1⟩

set_option maxHeartbeats 1600000 in
theorem ref8Write_yes (x y : Int) (a : Option Addr) (cap : Nat) (data : List Int) (w : World) (h : RefAt G R F S w) (hr : Row .u8 w a G.R cap data) (hb : IsB data) (hp : inB0 y G.p = true) (hu : S.use G x true = 0) :
    Calls Tryz.prog 37 #[.pointer (some ⟨R.c, 0, none⟩), .int .i64 x, .int .i64 y, .slice a G.R cap] w fun e w' => ∃ z, IsPack G.s G.n G.f G.m G.W data z ∧ e = .returned (.int .i64 (CS.after G (S.doProgram G x y z) x).1) ∧ RDoes G R F w (CS.after G (S.doProgram G x y z) x).2 w' := by
  have hroom := refRoom_any G.b G.p G.f G.s G.n G.R G.ok.hR G.ok.hs.2 (by have := G.ok.hn; omega)
  obtain ⟨c0, c1, c2, c3, c4⟩ := h.geo
  go_enter Tryz.func37, Tryz.ntmps37
  go_wp2_with fail
  clear c0 c1 c2 c3 c4
  refine (hroom _).mono ?_
  rintro e w1 ⟨rfl, q1⟩
  have hah := ref8Ahead_any x y true w1 (h.below q1)
  rw [hp, show (true && true) = true from rfl, hu] at hah
  clear hroom hp hu
  go_wp2_with fail
  refine hah.mono ?_
  rintro e w2 ⟨rfl, rfl⟩
  clear hah
  have h1 := h.below q1
  obtain ⟨c0, c1, c2, c3, c4⟩ := h1.geo
  have hpk := refPack6_own G.ok a cap data w1 (hr.below q1 (Nat.le_refl _)) hb
  go_wp2_with fail
  clear c0 c1 c2 c3 c4
  refine hpk.mono ?_
  rintro e w3 ⟨z, ao, co, hz, rfl, rz, hnew, q3⟩
  clear hpk
  have HZ : Hid (IsPack G.s G.n G.f G.m G.W data z) := hz
  have h3 := h1.below q3
  have hoff : 0 < G.L → ∀ q : Addr, ao = some q → ¬ F q.block := fun _ q e hq => by
    have := h1.fresh _ hq
    have := hnew q e
    omega
  have hpr := ref7Program_any x y ao G.L co z w3 h3 rz hoff hz.isB
  have q4 : Below w.heap.size w w3 := btrans q1 q3
  clear hz hnew rz hoff h3 h1 q1 q3 h hr
  go_wp2_with fail
  refine hpr.mono ?_
  rintro e w4 ⟨rfl, F4, h4, t4, f4⟩
  clear hpr
  have haf := ref8After_any x (S.doProgram G x y z).1 w4 h4
  rw [show ((S.doProgram G x y z).1, (S.doProgram G x y z).2) = S.doProgram G x y z from rfl] at haf
  go_wp2_with fail
  refine haf.mono ?_
  rintro e w5 ⟨rfl, d5⟩
  clear haf h4
  go_wp2_with fail
  go_ret
  exact ⟨z, HZ.out, rfl, RDoes.after (Turned.of_below F q4) (fun _ hx => .inl hx) (RDoes.after t4 f4 d5)⟩

set_option maxHeartbeats 800000 in
theorem ref8Erase_any (x : Int) (w : World) (h : RefAt G R F S w) :
    Calls Tryz.prog 38 #[.pointer (some ⟨R.c, 0, none⟩), .int .i64 x] w fun e w' => e = .returned (.int .i64 (S.eraseD G x).1) ∧ RDoes G R F w (S.eraseD G x).2 w' := by
  have hah := ref8Ahead_any x 0 true w h
  have h0 : inB0 0 G.p = true := by unfold inB0; exact decide_eq_true (by have := G.ok.hp; omega)
  rw [h0, show (true && true) = true from rfl] at hah
  clear h0
  by_cases hu : S.use G x true = 0
  · have HE : Hid (S.eraseD G x = CS.after G (S.doErase G x) x) := by show _ = _; unfold CS.eraseD; rw [if_neg (by rw [hu]; simp)]
    rw [HE.out]
    clear HE
    rw [hu] at hah
    clear hu
    have her := ref7Erase_any x w h
    go_enter Tryz.func38, Tryz.ntmps38
    go_wp2_with fail
    refine hah.mono ?_
    rintro e w1 ⟨rfl, rfl⟩
    clear hah
    go_wp2_with fail
    refine her.mono ?_
    rintro e w2 ⟨rfl, F2, h2, t2, f2⟩
    clear her h
    have haf := ref8After_any x (S.doErase G x).1 w2 h2
    rw [show ((S.doErase G x).1, (S.doErase G x).2) = S.doErase G x from rfl] at haf
    go_wp2_with fail
    refine haf.mono ?_
    rintro e w3 ⟨rfl, d3⟩
    clear haf h2
    go_wp2_with fail
    go_ret
    exact ⟨rfl, RDoes.after t2 f2 d3⟩
  · have HE : Hid (S.eraseD G x = (S.use G x true, S)) := by show _ = _; unfold CS.eraseD; rw [if_pos hu]
    rw [HE.out]
    clear HE
    have hq : (S.use G x true != 0) = true := by simp [hu]
    have HD : Hid (RDoes G R F w S w) := RDoes.of w h (Turned.refl _ _)
    generalize S.use G x true = u at *
    clear hu h
    go_enter Tryz.func38, Tryz.ntmps38
    go_wp2_with fail
    refine hah.mono ?_
    rintro e w1 ⟨rfl, rfl⟩
    clear hah
    go_wp2_with fail
    go_ret
    exact ⟨rfl, HD.out⟩
end
end Go.Proofs.YtggpgdaacbmmdaaGreat
