/-
  The code of layer 8 (drive), as it landed: a drive in memory (DBox); within, Geometry, hasPage, fills, ready, usable, New, and done over whatever deed.
-/
import Derived.Test.YtggpgdaacbmmdaaGreatChipMore
import Derived.Test.YtggpgdaacbmmdaaGreatEccCode6
namespace Go.Proofs.YtggpgdaacbmmdaaGreat
open Go.RowKit Go.Maps
set_option linter.unusedVariables false
set_option maxRecDepth 8192

/-- A drive lies in the block d, its chip in c. -/
structure DBox (w : World) (d c : Nat) : Prop where
  lt : d < w.heap.size
  c0 : w.cell? ⟨d, 0, none⟩ = some (.pointer (some ⟨c, 0, none⟩))
theorem DBox.below {w w' : World} {d c : Nat} (h : DBox w d c) {B : Nat} (q : Below B w w') (hB : w.heap.size ≤ B) : DBox w' d c :=
  ⟨by have := q.size; have := h.lt; omega, by rw [q.cell (by show d < B; have := h.lt; omega)]; exact h.c0⟩
theorem DBox.turned {F : Nat → Prop} {w w' : World} {d c : Nat} (h : DBox w d c) (t : Turned F w w') (hF : ¬ F d) : DBox w' d c :=
  ⟨by have := t.size; have := h.lt; omega, by rw [t.cell (p := ⟨d, 0, none⟩) h.lt hF]; exact h.c0⟩
theorem dbox_new (w : World) (c : Nat) : DBox (w.alloc (.cells #[.pointer (some ⟨c, 0, none⟩)] 73)) w.heap.size c :=
  ⟨by simp, by rw [World.cell?_alloc_at _ _ _ _ rfl]; rfl⟩

theorem geoField0 (b p s n f : Int) (w : World) : Sem.run Tryz.prog (Instr.field 23 (.agg #[.int .i64 b, .int .i64 p, .int .i64 s, .int .i64 n, .int .i64 f]) 0) w = .ok (.int .i64 b) w := by rfl
theorem geoField1 (b p s n f : Int) (w : World) : Sem.run Tryz.prog (Instr.field 23 (.agg #[.int .i64 b, .int .i64 p, .int .i64 s, .int .i64 n, .int .i64 f]) 1) w = .ok (.int .i64 p) w := by rfl
/-- Is n one of 0 to m? -/
def within0 (n m : Int) : Bool := decide (0 ≤ n ∧ n ≤ m)
theorem within0_pred (n m : Int) : within0 n (m - 1) = inB0 n m := by unfold within0 inB0; rw [decide_eq_decide]; omega
theorem drvWithin_any (n m : Int) (w : World) : Calls Tryz.prog 61 #[.int .i64 n, .int .i64 m] w fun e w' => e = .returned (.bool (within0 n m)) ∧ w = w' := by
  by_cases h : 0 ≤ n
  · go_enter Tryz.func61, Tryz.ntmps61
    go_wp2
    go_ret
    exact ⟨ret_bool (by unfold within0; simp [h]), rfl⟩
  · go_enter Tryz.func61, Tryz.ntmps61
    go_wp2
    go_ret
    exact ⟨ret_bool (by unfold within0; symm; rw [decide_eq_false_iff_not]; omega), rfl⟩

theorem drvGeometry_nil (w : World) : Calls Tryz.prog 18 #[.pointer none] w fun e w' => e = .returned (.agg #[.int .i64 0, .int .i64 0, .int .i64 0, .int .i64 0, .int .i64 0]) ∧ Below w.heap.size w w' := by
  go_enter Tryz.func18, Tryz.ntmps18
  go_wp2
  refine bodyPost_ret (v := .agg #[.int .i64 0, .int .i64 0, .int .i64 0, .int .i64 0, .int .i64 0]) (by simp [results, Tryz.results18, go_sem]) rfl ?_
  refine ⟨rfl, ?_⟩
  first | exact below_one _ _ | (repeat (refine Below.setCell ?_ (Nat.le_refl _) _)); exact below_one _ _

section
variable {G : Geo} {B : CB} {F : Nat → Prop} {N : Nat} {S : CS} {d : Nat}

set_option maxHeartbeats 800000 in
theorem drvGeometry_any (w : World) (db : DBox w d B.c) (h : CellOk G B S w) (hlt : B.c < w.heap.size) : Calls Tryz.prog 18 #[.pointer (some ⟨d, 0, none⟩)] w fun e w' => e = .returned (.agg #[.int .i64 G.b, .int .i64 G.p, .int .i64 G.s, .int .i64 G.n, .int .i64 G.f]) ∧ Below w.heap.size w w' := by
  have q0 := below_one w (.cells #[.int .i64 0, .int .i64 0, .int .i64 0, .int .i64 0, .int .i64 0] 23)
  have hb0 := block_new w #[.int .i64 0, .int .i64 0, .int .i64 0, .int .i64 0, .int .i64 0] 23
  have c0 := (db.below q0 (Nat.le_refl _)).c0
  have h0 : CellOk G B S (w.alloc (.cells #[.int .i64 0, .int .i64 0, .int .i64 0, .int .i64 0, .int .i64 0] 23)) := (q0.block _ hlt).trans h
  have hl0 : B.c < (w.alloc (.cells #[.int .i64 0, .int .i64 0, .int .i64 0, .int .i64 0, .int .i64 0] 23)).heap.size := Nat.lt_of_lt_of_le hlt q0.size
  have hg0 : w.heap.size < (w.alloc (.cells #[.int .i64 0, .int .i64 0, .int .i64 0, .int .i64 0, .int .i64 0] 23)).heap.size := by simp
  go_enter Tryz.func18, Tryz.ntmps18
  go_wp2_with fail
  clear c0 h
  generalize w.alloc (.cells #[.int .i64 0, .int .i64 0, .int .i64 0, .int .i64 0, .int .i64 0] 23) = w0 at *
  refine (chipGeometry_any _ h0 hl0).mono ?_
  rintro e w1 ⟨rfl, q1⟩
  have hb1 := (q1.block _ hg0).trans hb0
  have qa : Below w.heap.size w w1 := btrans q0 q1
  have HQA : Hid (Below w.heap.size w w1) := qa
  clear h0 hl0 hg0 q0 q1 hb0 qa hlt
  generalize hgg : w.heap.size = g at *
  have k0 : w1.cell? ⟨g, 0, none⟩ = some (.int .i64 0) := by simp [World.cell?, hb1]
  have k1 : w1.cell? ⟨g, 1, none⟩ = some (.int .i64 0) := by simp [World.cell?, hb1]
  have k2 : w1.cell? ⟨g, 2, none⟩ = some (.int .i64 0) := by simp [World.cell?, hb1]
  have k3 : w1.cell? ⟨g, 3, none⟩ = some (.int .i64 0) := by simp [World.cell?, hb1]
  have k4 : w1.cell? ⟨g, 4, none⟩ = some (.int .i64 0) := by simp [World.cell?, hb1]
  have kf : ∀ i, w1.frozen? ⟨g, i, none⟩ = false := fun i => by simp [World.frozen?, hb1]
  have HGG : Hid (w.heap.size = g) := hgg
  clear hb1 hgg db
  go_wp2_with fail
  refine bodyPost_ret (v := .agg #[.int .i64 G.b, .int .i64 G.p, .int .i64 G.s, .int .i64 G.n, .int .i64 G.f]) (by simp [results, Tryz.results18, go_sem, k0, k1, k2, k3, k4]) rfl ?_
  refine ⟨rfl, ?_⟩
  rw [HGG.out]
  exact ((((HQA.out.setCell (Nat.le_refl _) _).setCell (Nat.le_refl _) _).setCell (Nat.le_refl _) _).setCell (Nat.le_refl _) _).setCell (Nat.le_refl _) _

theorem drvHasPage_any (y : Int) (w : World) (db : DBox w d B.c) (h : CellOk G B S w) (hlt : B.c < w.heap.size) : Calls Tryz.prog 50 #[.pointer (some ⟨d, 0, none⟩), .int .i64 y] w fun e w' => e = .returned (.bool (inB0 y G.p)) ∧ Below w.heap.size w w' := by
  have hp1 := G.ok.hp.1
  have hp2 := G.ok.hp.2
  have hgm := drvGeometry_any w db h hlt
  have HE : Hid (within0 y (G.p - 1) = inB0 y G.p) := within0_pred y G.p
  have hfl := geoField1 G.b G.p G.s G.n G.f
  generalize inB0 y G.p = r at *
  clear h db
  go_enter Tryz.func50, Tryz.ntmps50
  go_wp2_with fail
  refine hgm.mono ?_
  rintro e w1 ⟨rfl, q1⟩
  clear hgm
  go_wp2_with fail
  refine (drvWithin_any y (G.p - 1) _).mono ?_
  rw [HE.out]
  rintro e w2 ⟨rfl, rfl⟩
  go_wp2_with fail
  go_ret
  exact ⟨rfl, q1⟩

theorem drvFills_any (a : Option Addr) (len cap : Nat) (hlen : len ≤ maxLen) (w : World) (db : DBox w d B.c) (h : CellOk G B S w) (hlt : B.c < w.heap.size) : Calls Tryz.prog 51 #[.pointer (some ⟨d, 0, none⟩), .slice a len cap] w fun e w' => e = .returned (.bool (decide (len = G.R))) ∧ Below w.heap.size w w' := by
  have hgm := drvGeometry_any w db h hlt
  have hrm := fun w1 => eccRoom_yes G.ok w1
  have HD : Hid (decide (len = G.R) = (((len : Nat) : Int) == (G.R : Int))) := by show _ = _; rw [Bool.eq_iff_iff]; simp; omega
  generalize decide (len = G.R) = r at *
  clear h db
  go_enter Tryz.func51, Tryz.ntmps51
  go_wp2_with fail
  refine hgm.mono ?_
  rintro e w1 ⟨rfl, q1⟩
  clear hgm
  go_wp2_with fail
  refine (hrm _).mono ?_
  rintro e w2 ⟨rfl, q2⟩
  clear hrm
  go_wp2_with fail
  go_ret
  exact ⟨ret_bool HD.out.symm, btrans q1 q2⟩

/-- What keeps a call from a block that may be marked. -/
def CS.rdy (G : Geo) (S : CS) (x : Int) (o : Bool) : Int := if S.up = false then 70 else if (inB0 x G.b && o) = false then 1 else 0
/-- What keeps a call from a block that may not be marked. -/
def CS.use (G : Geo) (S : CS) (x : Int) (o : Bool) : Int := if S.rdy G x o ≠ 0 then S.rdy G x o else if S.bd x = true then 73 else 0
theorem rdy_zero {x : Int} {o : Bool} (h : S.rdy G x o = 0) : S.up = true ∧ inB0 x G.b = true ∧ o = true := by
  unfold CS.rdy at h
  cases hu : S.up
  · rw [if_pos hu] at h; omega
  · rw [if_neg (by rw [hu]; simp)] at h
    cases hb : (inB0 x G.b && o)
    · rw [if_pos hb] at h; omega
    · rw [Bool.and_eq_true] at hb; exact ⟨rfl, hb.1, hb.2⟩
theorem rdy_of {x : Int} {o : Bool} (hu : S.up = true) (hb : inB0 x G.b = true) (ho : o = true) : S.rdy G x o = 0 := by
  unfold CS.rdy; rw [if_neg (by rw [hu]; simp), hb, ho]; rfl
theorem use_zero {x : Int} {o : Bool} (h : S.use G x o = 0) : (S.up = true ∧ inB0 x G.b = true ∧ o = true) ∧ S.bd x = false := by
  unfold CS.use at h
  by_cases hr : S.rdy G x o = 0
  · rw [if_neg (by rw [hr]; simp)] at h
    refine ⟨rdy_zero hr, ?_⟩
    cases hb : S.bd x
    · rfl
    · rw [if_pos hb] at h; omega
  · rw [if_pos hr] at h; exact absurd h hr
theorem use_of {x : Int} {o : Bool} (hu : S.up = true) (hb : inB0 x G.b = true) (ho : o = true) (hm : S.bd x = false) : S.use G x o = 0 := by
  unfold CS.use; rw [rdy_of hu hb ho, if_neg (by simp), if_neg (by rw [hm]; simp)]
theorem use_bad {x : Int} {o : Bool} (hu : S.up = true) (hb : inB0 x G.b = true) (ho : o = true) (hm : S.bd x = true) : S.use G x o = 73 := by
  unfold CS.use; rw [rdy_of hu hb ho, if_neg (by simp), if_pos hm]

theorem drvReady_nil (x : Int) (o : Bool) (w : World) : Calls Tryz.prog 60 #[.pointer none, .int .i64 x, .bool o] w fun e w' => e = .returned (.int .i64 3) ∧ w = w' := by
  go_enter Tryz.func60, Tryz.ntmps60
  go_wp2
  go_ret
  exact ⟨rfl, rfl⟩
set_option maxHeartbeats 800000 in
theorem drvReady_any (x : Int) (o : Bool) (w : World) (db : DBox w d B.c) (h : CellOk G B S w) (hlt : B.c < w.heap.size) : Calls Tryz.prog 60 #[.pointer (some ⟨d, 0, none⟩), .int .i64 x, .bool o] w fun e w' => e = .returned (.int .i64 (S.rdy G x o)) ∧ Below w.heap.size w w' := by
  have hp1 := G.ok.hb.1
  have hp2 := G.ok.hb.2
  have hgm := drvGeometry_any w db h hlt
  have hup := chipUp_any w h
  have c0 := db.c0
  have HE : Hid (within0 x (G.b - 1) = inB0 x G.b) := within0_pred x G.b
  have hfl := geoField0 G.b G.p G.s G.n G.f
  have HR : Hid (∀ u i, S.up = u → inB0 x G.b = i → S.rdy G x o = if u = false then 70 else if (i && o) = false then 1 else 0) := fun u i hu hi => by unfold CS.rdy; rw [hu, hi]
  generalize S.rdy G x o = r at *
  clear h db
  cases hu : S.up
  · have HR' : Hid (r = 70) := HR.out false _ hu rfl
    clear HR
    rw [hu] at hup
    go_enter Tryz.func60, Tryz.ntmps60
    go_wp2_with fail
    refine hup.mono ?_
    rintro e w1 ⟨rfl, rfl⟩
    clear hup hgm
    go_wp2_with fail
    go_ret
    exact ⟨ret_int HR'.out.symm, Below.refl _ _⟩
  · have HR1 : Hid (∀ i, inB0 x G.b = i → r = if (i && o) = false then 1 else 0) := fun i hi => HR.out true i hu hi
    clear HR
    rw [hu] at hup
    generalize inB0 x G.b = i at *
    have HR2 : Hid (r = if (i && o) = false then 1 else 0) := HR1.out i rfl
    clear HR1
    cases i <;> cases o
    all_goals
      first
        | (have HR3 : Hid (r = 1) := HR2.out)
        | (have HR3 : Hid (r = 0) := HR2.out)
      clear HR2
      go_enter Tryz.func60, Tryz.ntmps60
      go_wp2_with fail
      refine hup.mono ?_
      rintro e w1 ⟨rfl, rfl⟩
      clear hup c0
      go_wp2_with fail
      refine hgm.mono ?_
      rintro e w1 ⟨rfl, q1⟩
      clear hgm
      go_wp2_with fail
      refine (drvWithin_any x (G.b - 1) _).mono ?_
      rw [HE.out]
      rintro e w2 ⟨rfl, rfl⟩
      go_wp2_with fail
      go_ret
      exact ⟨ret_int HR3.out.symm, q1⟩

theorem drvUsable_nil (x : Int) (o : Bool) (w : World) : Calls Tryz.prog 47 #[.pointer none, .int .i64 x, .bool o] w fun e w' => e = .returned (.int .i64 3) ∧ w = w' := by
  go_enter Tryz.func47, Tryz.ntmps47
  go_wp2_with fail
  refine (drvReady_nil x o _).mono ?_
  rintro e w1 ⟨rfl, rfl⟩
  go_wp2_with fail
  go_ret
  exact ⟨rfl, rfl⟩
set_option maxHeartbeats 800000 in
theorem drvUsable_any (x : Int) (hx : I64 x) (o : Bool) (w : World) (db : DBox w d B.c) (h : ChipAt G B F N S w) : Calls Tryz.prog 47 #[.pointer (some ⟨d, 0, none⟩), .int .i64 x, .bool o] w fun e w' => e = .returned (.int .i64 (S.use G x o)) ∧ Below w.heap.size w w' := by
  have hrd := drvReady_any x o w db h.cell h.lt
  by_cases hr : S.rdy G x o = 0
  · obtain ⟨hu, hb, rfl⟩ := rdy_zero hr
    have HU : Hid (∀ b, S.bd x = b → S.use G x true = if b = true then 73 else 0) := fun b hb => by unfold CS.use; rw [hr, if_neg (by simp), hb]
    rw [hr] at hrd
    clear hr hb
    generalize S.use G x true = r at *
    cases hm : S.bd x
    · have HU' : Hid (r = 0) := HU.out false hm
      clear HU
      go_enter Tryz.func47, Tryz.ntmps47
      go_wp2_with fail
      refine hrd.mono ?_
      rintro e w1 ⟨rfl, q1⟩
      clear hrd
      have c0 := (db.below q1 (Nat.le_refl _)).c0
      have hbd := chipBad_any x hx w1 (h.below q1)
      rw [hu, hm] at hbd
      go_wp2_with fail
      refine hbd.mono ?_
      rintro e w2 ⟨rfl, q2⟩
      clear hbd c0
      go_wp2_with fail
      go_ret
      exact ⟨ret_int HU'.out.symm, btrans q1 q2⟩
    · have HU' : Hid (r = 73) := HU.out true hm
      clear HU
      go_enter Tryz.func47, Tryz.ntmps47
      go_wp2_with fail
      refine hrd.mono ?_
      rintro e w1 ⟨rfl, q1⟩
      clear hrd
      have c0 := (db.below q1 (Nat.le_refl _)).c0
      have hbd := chipBad_any x hx w1 (h.below q1)
      rw [hu, hm] at hbd
      go_wp2_with fail
      refine hbd.mono ?_
      rintro e w2 ⟨rfl, q2⟩
      clear hbd c0
      go_wp2_with fail
      go_ret
      exact ⟨ret_int HU'.out.symm, btrans q1 q2⟩
  · have HU : Hid (S.use G x o = S.rdy G x o) := by show _ = _; unfold CS.use; rw [if_pos hr]
    rw [HU.out]
    clear HU
    have hq : (S.rdy G x o != 0) = true := by simp [hr]
    generalize S.rdy G x o = r at *
    clear hr
    go_enter Tryz.func47, Tryz.ntmps47
    go_wp2_with fail
    refine hrd.mono ?_
    rintro e w1 ⟨rfl, q1⟩
    clear hrd
    go_wp2_with fail
    go_ret
    exact ⟨rfl, q1⟩

theorem drvNew_nil (w : World) : Calls Tryz.prog 12 #[.pointer none] w fun e w' => e = .returned (.tuple #[.pointer none, .int .i64 3]) ∧ w = w' := by
  go_enter Tryz.func12, Tryz.ntmps12
  go_wp2
  go_ret2
  exact ⟨rfl, rfl⟩
theorem drvNew_any (c : Nat) (w : World) : Calls Tryz.prog 12 #[.pointer (some ⟨c, 0, none⟩)] w fun e w' => ∃ d, w.heap.size ≤ d ∧ e = .returned (.tuple #[.pointer (some ⟨d, 0, none⟩), .int .i64 0]) ∧ DBox w' d c ∧ Below w.heap.size w w' := by
  have hd := dbox_new w c
  go_enter Tryz.func12, Tryz.ntmps12
  go_wp2
  go_ret2
  exact ⟨_, Nat.le_refl _, rfl, hd, below_one _ _⟩

theorem Does.mono {w w' : World} {S' : CS} {N' : Nat} (h : Does G B F N w S' w') (hN : N ≤ N') : Does G B F N' w S' w' := by
  obtain ⟨F', h1, h2, h3⟩ := h; exact ⟨F', h1.mono hN, h2, h3⟩
/-- What is done behind a deed that answered r.1. -/
def CS.after (G : Geo) (r : Int × CS) (x : Int) : Int × CS := if r.1 ≠ 72 then r else if (r.2.doMark G x).1 ≠ 0 then r.2.doMark G x else (72, (r.2.doMark G x).2)
set_option maxHeartbeats 800000 in
theorem drvDone_any (f : Nat) (v : Value) (x : Int) (hx : I64 x) (r : Int × CS) (w : World) (db : DBox w d B.c) (hd : ¬ F d) (hN : N < 1000000)
    (hbody : ∀ args w, Sem.run Tryz.prog (callFunc f args) w = .ok (.enter f args) w)
    (hcall : Calls Tryz.prog f #[v, .int .i64 x] w fun e w' => e = .returned (.int .i64 r.1) ∧ Does G B F N w r.2 w') :
    Calls Tryz.prog 53 #[.pointer (some ⟨d, 0, none⟩), .int .i64 x, .func (.func f) #[v] #[]] w fun e w' => e = .returned (.int .i64 (CS.after G r x).1) ∧ Does G B F (N + 2) w (CS.after G r x).2 w' := by
  obtain ⟨r1, T⟩ := r
  by_cases h72 : r1 = 72
  · subst h72
    have hmk : ∀ F1 w1, ChipAt G B F1 N T w1 → _ := fun F1 w1 h1 => chipMark_any (G := G) (B := B) (F := F1) (N := N) (S := T) x hx w1 h1 hN
    by_cases hm : (T.doMark G x).1 = 0
    · have HA : Hid (CS.after G (72, T) x = (72, (T.doMark G x).2)) := by show _ = _; unfold CS.after; rw [if_neg (by simp), if_neg (by simp [hm])]
      rw [HA.out]
      clear HA
      rw [hm] at hmk
      clear hm
      generalize (T.doMark G x).2 = T2 at *
      go_enter Tryz.func53, Tryz.ntmps53
      go_wp2_with fail
      refine hcall.mono ?_
      rintro e w1 ⟨rfl, F1, h1, t1, f1⟩
      clear hcall hbody
      have c0 := (db.turned t1 hd).c0
      go_wp2_with fail
      refine (hmk F1 _ h1).mono ?_
      rintro e w2 ⟨rfl, d2⟩
      clear c0
      go_wp2_with fail
      go_ret
      exact ⟨rfl, Does.after t1 f1 d2⟩
    · have HA : Hid (CS.after G (72, T) x = T.doMark G x) := by show _ = _; unfold CS.after; rw [if_neg (by simp), if_pos hm]
      rw [HA.out]
      clear HA
      have hq : ((T.doMark G x).1 != 0) = true := by simp [hm]
      generalize T.doMark G x = R at *
      obtain ⟨m1, T2⟩ := R
      go_enter Tryz.func53, Tryz.ntmps53
      go_wp2_with fail
      refine hcall.mono ?_
      rintro e w1 ⟨rfl, F1, h1, t1, f1⟩
      clear hcall hbody
      have c0 := (db.turned t1 hd).c0
      go_wp2_with fail
      refine (hmk F1 _ h1).mono ?_
      rintro e w2 ⟨rfl, d2⟩
      clear c0
      go_wp2_with fail
      go_ret
      exact ⟨rfl, Does.after t1 f1 d2⟩
  · have HA : Hid (CS.after G (r1, T) x = (r1, T)) := by show _ = _; unfold CS.after; rw [if_pos h72]
    rw [HA.out]
    clear HA
    have hq : (r1 != 72) = true := by simp [h72]
    go_enter Tryz.func53, Tryz.ntmps53
    go_wp2_with fail
    refine hcall.mono ?_
    rintro e w1 ⟨rfl, d1⟩
    clear hcall hbody
    go_wp2_with fail
    go_ret
    exact ⟨rfl, d1.mono (by omega)⟩
end
end Go.Proofs.YtggpgdaacbmmdaaGreat
