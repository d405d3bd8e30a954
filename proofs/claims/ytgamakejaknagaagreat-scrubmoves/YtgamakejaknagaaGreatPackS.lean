/-
  The code of layer 8 (drive), as it landed: a drive in memory (DBox); within, Geometry, hasPage, fills, ready, usable, New, and done over whatever deed.
-/
import Derived.Test.YtgamakejaknagaaGreatPackN
import Derived.Test.YtgamakejaknagaaGreatPackR
namespace Go.Proofs.YtgamakejaknagaaGreat
open Go.RowKit Go.Maps
set_option linter.unusedVariables false
set_option maxRecDepth 8192

/-- A drive lies in the block d, its chip in c. -/
structure DBox (w : World) (d c : Nat) : Prop where
  lt : d < w.heap.size
  c0 : w.cell? ⟨d, 0, none⟩ = some (.pointer (some ⟨c, 0, none⟩))
theorem DBox.below {w w' : World} {d c : Nat} (h : DBox w d c) {B : Nat} (q : Below B w w') (hB : w.heap.size ≤ B) : DBox w' d c :=
  ⟨by have := q.size; have := h.lt; omega, by rw [q.cell (by show d < B; have := h.lt; omega)]; exact h.c0⟩
theorem DBox.turned {F : Nat → Prop} {w w' : World} {d c : Nat} (h : DBox w d c) (t : Turned F w w') (hF : ¬ F d) : DBox w' d c :=
  ⟨by have := t.size; have := h.lt; omega, by rw [t.cell (p := ⟨d, 0, none⟩) h.lt hF]; exact h.c0⟩
theorem dbox_new (w : World) (c : Nat) : DBox (w.alloc (.cells #[.pointer (some ⟨c, 0, none⟩)] 114)) w.heap.size c :=
  ⟨by simp, by rw [World.cell?_alloc_at _ _ _ _ rfl]; rfl⟩

theorem geoField0 (b p s n f : Int) (w : World) : Sem.run Tryz.prog (Instr.field 23 (.agg #[.int .i64 b, .int .i64 p, .int .i64 s, .int .i64 n, .int .i64 f]) 0) w = .ok (.int .i64 b) w := by rfl
theorem geoField1 (b p s n f : Int) (w : World) : Sem.run Tryz.prog (Instr.field 23 (.agg #[.int .i64 b, .int .i64 p, .int .i64 s, .int .i64 n, .int .i64 f]) 1) w = .ok (.int .i64 p) w := by rfl
/-- Is n one of 0 to m? -/
def within0 (n m : Int) : Bool := decide (0 ≤ n ∧ n ≤ m)
theorem within0_pred (n m : Int) : within0 n (m - 1) = inB0 n m := by unfold within0 inB0; rw [decide_eq_decide]; omega
theorem drvWithin_any (n m : Int) (w : World) : Calls Tryz.prog 87 #[.int .i64 n, .int .i64 m] w fun e w' => e = .returned (.bool (within0 n m)) ∧ w = w' := by
  by_cases h : 0 ≤ n
  · go_enter Tryz.func87, Tryz.ntmps87
    go_wp2
    go_ret
    exact ⟨ret_bool (by unfold within0; simp [h]), rfl⟩
  · go_enter Tryz.func87, Tryz.ntmps87
    go_wp2
    go_ret
    exact ⟨ret_bool (by unfold within0; symm; rw [decide_eq_false_iff_not]; omega), rfl⟩

section
variable {G : Geo} {B : CB} {F : Nat → Prop} {N : Nat} {S : CS} {d : Nat}

set_option maxHeartbeats 800000 in
theorem drvGeometry_any (w : World) (db : DBox w d B.c) (h : CellOk G B S w) (hlt : B.c < w.heap.size) : Calls Tryz.prog 48 #[.pointer (some ⟨d, 0, none⟩)] w fun e w' => e = .returned (.agg #[.int .i64 G.b, .int .i64 G.p, .int .i64 G.s, .int .i64 G.n, .int .i64 G.f]) ∧ Below w.heap.size w w' := by
  have q0 := below_one w (.cells #[.int .i64 0, .int .i64 0, .int .i64 0, .int .i64 0, .int .i64 0] 23)
  have hb0 := block_new w #[.int .i64 0, .int .i64 0, .int .i64 0, .int .i64 0, .int .i64 0] 23
  have c0 := (db.below q0 (Nat.le_refl _)).c0
  have h0 : CellOk G B S (w.alloc (.cells #[.int .i64 0, .int .i64 0, .int .i64 0, .int .i64 0, .int .i64 0] 23)) := (q0.block _ hlt).trans h
  have hl0 : B.c < (w.alloc (.cells #[.int .i64 0, .int .i64 0, .int .i64 0, .int .i64 0, .int .i64 0] 23)).heap.size := Nat.lt_of_lt_of_le hlt q0.size
  have hg0 : w.heap.size < (w.alloc (.cells #[.int .i64 0, .int .i64 0, .int .i64 0, .int .i64 0, .int .i64 0] 23)).heap.size := by simp
  go_enter Tryz.func48, Tryz.ntmps48
  go_wp2_with fail
  clear c0 h
  generalize w.alloc (.cells #[.int .i64 0, .int .i64 0, .int .i64 0, .int .i64 0, .int .i64 0] 23) = w0 at *
  refine (chipGeometry_any _ h0 hl0).mono ?_
  rintro e w1 ⟨rfl, q1⟩
  have hb1 := (q1.block _ hg0).trans hb0
  have qa : Below w.heap.size w w1 := btrans q0 q1
  have HQA : Hid (Below w.heap.size w w1) := qa
  clear h0 hl0 hg0 q0 q1 hb0 qa hlt
  generalize hgg : w.heap.size = g at *
  have k0 : w1.cell? ⟨g, 0, none⟩ = some (.int .i64 0) := by simp [World.cell?, hb1]
  have k1 : w1.cell? ⟨g, 1, none⟩ = some (.int .i64 0) := by simp [World.cell?, hb1]
  have k2 : w1.cell? ⟨g, 2, none⟩ = some (.int .i64 0) := by simp [World.cell?, hb1]
  have k3 : w1.cell? ⟨g, 3, none⟩ = some (.int .i64 0) := by simp [World.cell?, hb1]
  have k4 : w1.cell? ⟨g, 4, none⟩ = some (.int .i64 0) := by simp [World.cell?, hb1]
  have kf : ∀ i, w1.frozen? ⟨g, i, none⟩ = false := fun i => by simp [World.frozen?, hb1]
  have HGG : Hid (w.heap.size = g) := hgg
  clear hb1 hgg db
  go_wp2_with fail
  refine bodyPost_ret (v := .agg #[.int .i64 G.b, .int .i64 G.p, .int .i64 G.s, .int .i64 G.n, .int .i64 G.f]) (by simp [results, Tryz.results48, go_sem, k0, k1, k2, k3, k4]) rfl ?_
  refine ⟨rfl, ?_⟩
  rw [HGG.out]
  exact ((((HQA.out.setCell (Nat.le_refl _) _).setCell (Nat.le_refl _) _).setCell (Nat.le_refl _) _).setCell (Nat.le_refl _) _).setCell (Nat.le_refl _) _

theorem drvHasPage_any (y : Int) (w : World) (db : DBox w d B.c) (h : CellOk G B S w) (hlt : B.c < w.heap.size) : Calls Tryz.prog 75 #[.pointer (some ⟨d, 0, none⟩), .int .i64 y] w fun e w' => e = .returned (.bool (inB0 y G.p)) ∧ Below w.heap.size w w' := by
  have hp1 := G.ok.hp.1
  have hp2 := G.ok.hp.2
  have hgm := drvGeometry_any w db h hlt
  have HE : Hid (within0 y (G.p - 1) = inB0 y G.p) := within0_pred y G.p
  have hfl := geoField1 G.b G.p G.s G.n G.f
  generalize inB0 y G.p = r at *
  clear h db
  go_enter Tryz.func75, Tryz.ntmps75
  go_wp2_with fail
  refine hgm.mono ?_
  rintro e w1 ⟨rfl, q1⟩
  clear hgm
  go_wp2_with fail
  refine (drvWithin_any y (G.p - 1) _).mono ?_
  rw [HE.out]
  rintro e w2 ⟨rfl, rfl⟩
  go_wp2_with fail
  go_ret
  exact ⟨rfl, q1⟩

theorem drvFills_any (a : Option Addr) (len cap : Nat) (hlen : len ≤ maxLen) (w : World) (db : DBox w d B.c) (h : CellOk G B S w) (hlt : B.c < w.heap.size) : Calls Tryz.prog 103 #[.pointer (some ⟨d, 0, none⟩), .slice a len cap] w fun e w' => e = .returned (.bool (decide (len = G.R))) ∧ Below w.heap.size w w' := by
  have hgm := drvGeometry_any w db h hlt
  have hrm := fun w1 => eccRoom_yes G.ok w1
  have HD : Hid (decide (len = G.R) = (((len : Nat) : Int) == (G.R : Int))) := by show _ = _; rw [Bool.eq_iff_iff]; simp; omega
  generalize decide (len = G.R) = r at *
  clear h db
  go_enter Tryz.func103, Tryz.ntmps103
  go_wp2_with fail
  refine hgm.mono ?_
  rintro e w1 ⟨rfl, q1⟩
  clear hgm
  go_wp2_with fail
  refine (hrm _).mono ?_
  rintro e w2 ⟨rfl, q2⟩
  clear hrm
  go_wp2_with fail
  go_ret
  exact ⟨ret_bool HD.out.symm, btrans q1 q2⟩

/-- What keeps a call from a block that may be marked. -/
def CS.rdy (G : Geo) (S : CS) (x : Int) (o : Bool) : Int := if S.up = false then 70 else if (inB0 x G.b && o) = false then 1 else 0
/-- What keeps a call from a block that may not be marked. -/
def CS.use (G : Geo) (S : CS) (x : Int) (o : Bool) : Int := if S.rdy G x o ≠ 0 then S.rdy G x o else if S.bd x = true then 73 else 0
theorem rdy_zero {x : Int} {o : Bool} (h : S.rdy G x o = 0) : S.up = true ∧ inB0 x G.b = true ∧ o = true := by
  unfold CS.rdy at h
  cases hu : S.up
  · rw [if_pos hu] at h; omega
  · rw [if_neg (by rw [hu]; simp)] at h
    cases hb : (inB0 x G.b && o)
    · rw [if_pos hb] at h; omega
    · rw [Bool.and_eq_true] at hb; exact ⟨rfl, hb.1, hb.2⟩
theorem rdy_of {x : Int} {o : Bool} (hu : S.up = true) (hb : inB0 x G.b = true) (ho : o = true) : S.rdy G x o = 0 := by
  unfold CS.rdy; rw [if_neg (by rw [hu]; simp), hb, ho]; rfl
theorem use_zero {x : Int} {o : Bool} (h : S.use G x o = 0) : (S.up = true ∧ inB0 x G.b = true ∧ o = true) ∧ S.bd x = false := by
  unfold CS.use at h
  by_cases hr : S.rdy G x o = 0
  · rw [if_neg (by rw [hr]; simp)] at h
    refine ⟨rdy_zero hr, ?_⟩
    cases hb : S.bd x
    · rfl
    · rw [if_pos hb] at h; omega
  · rw [if_pos hr] at h; exact absurd h hr
theorem use_of {x : Int} {o : Bool} (hu : S.up = true) (hb : inB0 x G.b = true) (ho : o = true) (hm : S.bd x = false) : S.use G x o = 0 := by
  unfold CS.use; rw [rdy_of hu hb ho, if_neg (by simp), if_neg (by rw [hm]; simp)]
theorem use_bad {x : Int} {o : Bool} (hu : S.up = true) (hb : inB0 x G.b = true) (ho : o = true) (hm : S.bd x = true) : S.use G x o = 73 := by
  unfold CS.use; rw [rdy_of hu hb ho, if_neg (by simp), if_pos hm]

set_option maxHeartbeats 800000 in
theorem drvReady_any (x : Int) (o : Bool) (w : World) (db : DBox w d B.c) (h : CellOk G B S w) (hlt : B.c < w.heap.size) : Calls Tryz.prog 86 #[.pointer (some ⟨d, 0, none⟩), .int .i64 x, .bool o] w fun e w' => e = .returned (.int .i64 (S.rdy G x o)) ∧ Below w.heap.size w w' := by
  have hp1 := G.ok.hb.1
  have hp2 := G.ok.hb.2
  have hgm := drvGeometry_any w db h hlt
  have hup := chipUp_any w h
  have c0 := db.c0
  have HE : Hid (within0 x (G.b - 1) = inB0 x G.b) := within0_pred x G.b
  have hfl := geoField0 G.b G.p G.s G.n G.f
  have HR : Hid (∀ u i, S.up = u → inB0 x G.b = i → S.rdy G x o = if u = false then 70 else if (i && o) = false then 1 else 0) := fun u i hu hi => by unfold CS.rdy; rw [hu, hi]
  generalize S.rdy G x o = r at *
  clear h db
  cases hu : S.up
  · have HR' : Hid (r = 70) := HR.out false _ hu rfl
    clear HR
    rw [hu] at hup
    go_enter Tryz.func86, Tryz.ntmps86
    go_wp2_with fail
    refine hup.mono ?_
    rintro e w1 ⟨rfl, rfl⟩
    clear hup hgm
    go_wp2_with fail
    go_ret
    exact ⟨ret_int HR'.out.symm, Below.refl _ _⟩
  · have HR1 : Hid (∀ i, inB0 x G.b = i → r = if (i && o) = false then 1 else 0) := fun i hi => HR.out true i hu hi
    clear HR
    rw [hu] at hup
    generalize inB0 x G.b = i at *
    have HR2 : Hid (r = if (i && o) = false then 1 else 0) := HR1.out i rfl
    clear HR1
    cases i <;> cases o
    all_goals
      first
        | (have HR3 : Hid (r = 1) := HR2.out)
        | (have HR3 : Hid (r = 0) := HR2.out)
      clear HR2
      go_enter Tryz.func86, Tryz.ntmps86
      go_wp2_with fail
      refine hup.mono ?_
      rintro e w1 ⟨rfl, rfl⟩
      clear hup c0
      go_wp2_with fail
      refine hgm.mono ?_
      rintro e w1 ⟨rfl, q1⟩
      clear hgm
      go_wp2_with fail
      refine (drvWithin_any x (G.b - 1) _).mono ?_
      rw [HE.out]
      rintro e w2 ⟨rfl, rfl⟩
      go_wp2_with fail
      go_ret
      exact ⟨ret_int HR3.out.symm, q1⟩

set_option maxHeartbeats 800000 in
theorem drvUsable_any (x : Int) (hx : I64 x) (o : Bool) (w : World) (db : DBox w d B.c) (h : ChipAt G B F N S w) : Calls Tryz.prog 61 #[.pointer (some ⟨d, 0, none⟩), .int .i64 x, .bool o] w fun e w' => e = .returned (.int .i64 (S.use G x o)) ∧ Below w.heap.size w w' := by
  have hrd := drvReady_any x o w db h.cell h.lt
  by_cases hr : S.rdy G x o = 0
  · obtain ⟨hu, hb, rfl⟩ := rdy_zero hr
    have HU : Hid (∀ b, S.bd x = b → S.use G x true = if b = true then 73 else 0) := fun b hb => by unfold CS.use; rw [hr, if_neg (by simp), hb]
    rw [hr] at hrd
    clear hr hb
    generalize S.use G x true = r at *
    cases hm : S.bd x
    · have HU' : Hid (r = 0) := HU.out false hm
      clear HU
      go_enter Tryz.func61, Tryz.ntmps61
      go_wp2_with fail
      refine hrd.mono ?_
      rintro e w1 ⟨rfl, q1⟩
      clear hrd
      have c0 := (db.below q1 (Nat.le_refl _)).c0
      have hbd := chipBad_any x hx w1 (h.below q1)
      rw [hu, hm] at hbd
      go_wp2_with fail
      refine hbd.mono ?_
      rintro e w2 ⟨rfl, q2⟩
      clear hbd c0
      go_wp2_with fail
      go_ret
      exact ⟨ret_int HU'.out.symm, btrans q1 q2⟩
    · have HU' : Hid (r = 73) := HU.out true hm
      clear HU
      go_enter Tryz.func61, Tryz.ntmps61
      go_wp2_with fail
      refine hrd.mono ?_
      rintro e w1 ⟨rfl, q1⟩
      clear hrd
      have c0 := (db.below q1 (Nat.le_refl _)).c0
      have hbd := chipBad_any x hx w1 (h.below q1)
      rw [hu, hm] at hbd
      go_wp2_with fail
      refine hbd.mono ?_
      rintro e w2 ⟨rfl, q2⟩
      clear hbd c0
      go_wp2_with fail
      go_ret
      exact ⟨ret_int HU'.out.symm, btrans q1 q2⟩
  · have HU : Hid (S.use G x o = S.rdy G x o) := by show _ = _; unfold CS.use; rw [if_pos hr]
    rw [HU.out]
    clear HU
    have hq : (S.rdy G x o != 0) = true := by simp [hr]
    generalize S.rdy G x o = r at *
    clear hr
    go_enter Tryz.func61, Tryz.ntmps61
    go_wp2_with fail
    refine hrd.mono ?_
    rintro e w1 ⟨rfl, q1⟩
    clear hrd
    go_wp2_with fail
    go_ret
    exact ⟨rfl, q1⟩

theorem drvNew_any (c : Nat) (w : World) : Calls Tryz.prog 41 #[.pointer (some ⟨c, 0, none⟩)] w fun e w' => ∃ d, w.heap.size ≤ d ∧ e = .returned (.tuple #[.pointer (some ⟨d, 0, none⟩), .int .i64 0]) ∧ DBox w' d c ∧ Below w.heap.size w w' := by
  have hd := dbox_new w c
  go_enter Tryz.func41, Tryz.ntmps41
  go_wp2
  go_ret2
  exact ⟨_, Nat.le_refl _, rfl, hd, below_one _ _⟩

theorem Does.mono {w w' : World} {S' : CS} {N' : Nat} (h : Does G B F N w S' w') (hN : N ≤ N') : Does G B F N' w S' w' := by
  obtain ⟨F', h1, h2, h3⟩ := h; exact ⟨F', h1.mono hN, h2, h3⟩
/-- What is done behind a deed that answered r.1. -/
def CS.after (G : Geo) (r : Int × CS) (x : Int) : Int × CS := if r.1 ≠ 72 then r else if (r.2.doMark G x).1 ≠ 0 then r.2.doMark G x else (72, (r.2.doMark G x).2)
set_option maxHeartbeats 800000 in
theorem drvDone_any (f : Nat) (v : Value) (x : Int) (hx : I64 x) (r : Int × CS) (w : World) (db : DBox w d B.c) (hd : ¬ F d) (hN : N < 100000000)
    (hbody : ∀ args w, Sem.run Tryz.prog (callFunc f args) w = .ok (.enter f args) w)
    (hcall : Calls Tryz.prog f #[v, .int .i64 x] w fun e w' => e = .returned (.int .i64 r.1) ∧ Does G B F N w r.2 w') :
    Calls Tryz.prog 62 #[.pointer (some ⟨d, 0, none⟩), .int .i64 x, .func (.func f) #[v] #[]] w fun e w' => e = .returned (.int .i64 (CS.after G r x).1) ∧ Does G B F (N + 2) w (CS.after G r x).2 w' := by
  obtain ⟨r1, T⟩ := r
  by_cases h72 : r1 = 72
  · subst h72
    have hmk : ∀ F1 w1, ChipAt G B F1 N T w1 → _ := fun F1 w1 h1 => chipMark_any (G := G) (B := B) (F := F1) (N := N) (S := T) x hx w1 h1 hN
    by_cases hm : (T.doMark G x).1 = 0
    · have HA : Hid (CS.after G (72, T) x = (72, (T.doMark G x).2)) := by show _ = _; unfold CS.after; rw [if_neg (by simp), if_neg (by simp [hm])]
      rw [HA.out]
      clear HA
      rw [hm] at hmk
      clear hm
      generalize (T.doMark G x).2 = T2 at *
      go_enter Tryz.func62, Tryz.ntmps62
      go_wp2_with fail
      refine hcall.mono ?_
      rintro e w1 ⟨rfl, F1, h1, t1, f1⟩
      clear hcall hbody
      have c0 := (db.turned t1 hd).c0
      go_wp2_with fail
      refine (hmk F1 _ h1).mono ?_
      rintro e w2 ⟨rfl, d2⟩
      clear c0
      go_wp2_with fail
      go_ret
      exact ⟨rfl, Does.after t1 f1 d2⟩
    · have HA : Hid (CS.after G (72, T) x = T.doMark G x) := by show _ = _; unfold CS.after; rw [if_neg (by simp), if_pos hm]
      rw [HA.out]
      clear HA
      have hq : ((T.doMark G x).1 != 0) = true := by simp [hm]
      generalize T.doMark G x = R at *
      obtain ⟨m1, T2⟩ := R
      go_enter Tryz.func62, Tryz.ntmps62
      go_wp2_with fail
      refine hcall.mono ?_
      rintro e w1 ⟨rfl, F1, h1, t1, f1⟩
      clear hcall hbody
      have c0 := (db.turned t1 hd).c0
      go_wp2_with fail
      refine (hmk F1 _ h1).mono ?_
      rintro e w2 ⟨rfl, d2⟩
      clear c0
      go_wp2_with fail
      go_ret
      exact ⟨rfl, Does.after t1 f1 d2⟩
  · have HA : Hid (CS.after G (r1, T) x = (r1, T)) := by show _ = _; unfold CS.after; rw [if_pos h72]
    rw [HA.out]
    clear HA
    have hq : (r1 != 72) = true := by simp [h72]
    go_enter Tryz.func62, Tryz.ntmps62
    go_wp2_with fail
    refine hcall.mono ?_
    rintro e w1 ⟨rfl, d1⟩
    clear hcall hbody
    go_wp2_with fail
    go_ret
    exact ⟨rfl, d1.mono (by omega)⟩
end
end Go.Proofs.YtgamakejaknagaaGreat

/-
  The code of layer 8 (drive), as it landed: Write, Erase (method values handed to done), Read, and what layer 6 reads of raw bytes (IsRead: one answer).
-/
namespace Go.Proofs.YtgamakejaknagaaGreat
open Go.RowKit Go.Maps
set_option linter.unusedVariables false
set_option maxRecDepth 8192

/-! ### What layer 6 reads of raw bytes -/
/-- Layer 6's Read tells x, k, er of the raw bytes z. -/
def IsRead (G : Geo) (z x : List Int) (k : Nat) (er : Int) : Prop :=
  (z[G.L - 1]?.getD 0 ≠ 0 ∧ x = [] ∧ k = 0 ∧ er = if z[G.L - 1]?.getD 0 = 255 ∧ blankTo G.f z G.W G.s = true then 61 else 60) ∨
  (z[G.L - 1]?.getD 0 = 0 ∧ ∃ S : Nat → Sec, (∀ j, j < G.s → IsSec G.f (part z (j * G.W) G.n) (part z (j * G.W + G.n) G.m) (S j)) ∧
    (((∃ j, j < G.s ∧ (S j).e ≠ 0) ∧ x = [] ∧ k = 0 ∧ er = 50) ∨ ((∀ j, j < G.s → (S j).e = 0) ∧ x = dataTo S G.s ∧ k = mostTo S G.s ∧ er = 0)))
theorem row_no (k : IntKind) (w : World) : Row k w none 0 0 [] := ⟨rfl, Nat.le_refl _, by unfold maxLen; omega, fun _ => rfl, fun h => by omega⟩

theorem eccRead_is (G : Geo) (a : Option Addr) (cap : Nat) (z : List Int) (w : World) (rz : Row .u8 w a G.L cap z) (bz : IsB z) :
    Calls Tryz.prog 77 #[.agg #[.int .i64 G.b, .int .i64 G.p, .int .i64 G.s, .int .i64 G.n, .int .i64 G.f], .slice a G.L cap] w fun e w' =>
      ∃ x k er ao co, (IsRead G z x k er ∧ IsB x ∧ (0 < x.length → ∀ q : Addr, ao = some q → w.heap.size ≤ q.block)) ∧ e = .returned (.tuple #[.slice ao x.length co, .int .i64 (k : Nat), .int .i64 er]) ∧ Row .u8 w' ao x.length co x ∧ Below w.heap.size w w' := by
  by_cases hmk : z[G.L - 1]?.getD 0 = 0
  · refine (eccRead_own bitsC G.ok a cap z w rz bz decC hmk).mono ?_
    rintro e w' ⟨S, hS, h⟩
    rcases h with ⟨hbad, rfl, q⟩ | ⟨hok, ao, co, rfl, r, hnew, q⟩
    · exact ⟨[], 0, 50, none, 0, ⟨.inr ⟨hmk, S, hS, .inl ⟨hbad, rfl, rfl, rfl⟩⟩, (fun v hv => by cases hv), fun h0 => absurd h0 (by simp)⟩, rfl, row_no _ _, q⟩
    · have hl := r.hlen
      refine ⟨dataTo S G.s, mostTo S G.s, 0, ao, co, ⟨.inr ⟨hmk, S, hS, .inr ⟨hok, rfl, rfl, rfl⟩⟩, ?_, by rw [hl]; exact hnew⟩, by rw [hl], by rw [hl]; exact r, q⟩
      refine isB_dataTo fun j hj => ?_
      obtain ⟨k, hk⟩ := (hS j hj).of_ok (hok j hj)
      exact hk.bd
  · obtain ⟨er, her⟩ : ∃ er : Int, er = if z[G.L - 1]?.getD 0 = 255 ∧ blankTo G.f z G.W G.s = true then 61 else 60 := ⟨_, rfl⟩
    refine (eccRead_err G.b G.p G.s G.n G.f a G.L cap w er ?_ (fun w1 q1 => eccUnpack_mark bitsC G.ok a cap z w1 (rz.below q1 (Nat.le_refl _)) bz hmk er her)).mono ?_
    · rw [her]; split <;> omega
    · rintro e w' ⟨rfl, q⟩
      exact ⟨[], 0, er, none, 0, ⟨.inl ⟨hmk, rfl, rfl, her⟩, (fun v hv => by cases hv), fun h0 => absurd h0 (by simp)⟩, rfl, row_no _ _, q⟩

theorem eccUnpack_is (G : Geo) (a : Option Addr) (cap : Nat) (z : List Int) (w : World) (rz : Row .u8 w a G.L cap z) (bz : IsB z) :
    Calls Tryz.prog 89 #[.agg #[.int .i64 G.b, .int .i64 G.p, .int .i64 G.s, .int .i64 G.n, .int .i64 G.f], .slice a G.L cap] w fun e w' =>
      ∃ v er, (er = 0 ↔ z[G.L - 1]?.getD 0 = 0) ∧ e = .returned (.tuple #[v, .int .i64 er]) ∧ Below w.heap.size w w' := by
  by_cases hmk : z[G.L - 1]?.getD 0 = 0
  · refine (eccUnpack_yes bitsC G.ok a cap z w rz bz decC hmk).mono ?_
    rintro e w' ⟨S, gs, hS, hg, rfl, _, q⟩
    exact ⟨_, 0, by simp [hmk], rfl, q⟩
  · obtain ⟨er, her⟩ : ∃ er : Int, er = if z[G.L - 1]?.getD 0 = 255 ∧ blankTo G.f z G.W G.s = true then 61 else 60 := ⟨_, rfl⟩
    refine (eccUnpack_mark bitsC G.ok a cap z w rz bz hmk er her).mono ?_
    rintro e w' ⟨rfl, q⟩
    refine ⟨_, er, ⟨fun h => ?_, fun h => absurd h hmk⟩, rfl, q⟩
    rw [her] at h
    split at h <;> omega

section
variable {G : Geo} {B : CB} {F : Nat → Prop} {N : Nat} {S : CS} {d : Nat}

/-! ### Erase -/
theorem Tryz.makeF8 (fn : Fn) (first cap : Array Value) (w : World) : (Instr.makeFunc fn first cap).run Tryz.prog w = .ok (.func fn first cap) w := rfl
def CS.eraseD (G : Geo) (S : CS) (x : Int) : Int × CS := if S.use G x true ≠ 0 then (S.use G x true, S) else CS.after G (S.doErase G x) x
set_option maxHeartbeats 800000 in
theorem drvErase_any (x : Int) (hx : I64 x) (w : World) (db : DBox w d B.c) (hd : ¬ F d) (h : ChipAt G B F N S w) (hN : N < 100000000) :
    Calls Tryz.prog 37 #[.pointer (some ⟨d, 0, none⟩), .int .i64 x] w fun e w' => e = .returned (.int .i64 (S.eraseD G x).1) ∧ Does G B F (N + 2) w (S.eraseD G x).2 w' := by
  have hus := drvUsable_any x hx true w db h
  have hmf := Tryz.makeF8
  by_cases hu : S.use G x true = 0
  · have HE : Hid (S.eraseD G x = CS.after G (S.doErase G x) x) := by show _ = _; unfold CS.eraseD; rw [if_neg (by rw [hu]; simp)]
    rw [HE.out]
    clear HE
    rw [hu] at hus
    clear hu
    go_enter Tryz.func37, Tryz.ntmps37
    go_wp2_with fail
    refine hus.mono ?_
    rintro e w1 ⟨rfl, q1⟩
    clear hus
    have db1 := db.below q1 (Nat.le_refl _)
    have c0 := db1.c0
    have hdn := drvDone_any (G := G) (B := B) (F := F) (N := N) (d := d) 63 (.pointer (some ⟨B.c, 0, none⟩)) x hx (S.doErase G x) w1 db1 hd hN (fun _ _ => rfl) (chipErase_any x hx w1 (h.below q1))
    go_wp2_with fail
    refine hdn.mono ?_
    rintro e w2 ⟨rfl, d2⟩
    clear c0 hdn hmf
    go_wp2_with fail
    go_ret
    exact ⟨rfl, Does.after (Turned.of_below F q1) (fun _ hx => .inl hx) d2⟩
  · have HE : Hid (S.eraseD G x = (S.use G x true, S)) := by show _ = _; unfold CS.eraseD; rw [if_pos hu]
    rw [HE.out]
    clear HE
    have hq : (S.use G x true != 0) = true := by simp [hu]
    generalize S.use G x true = u at *
    clear hu hmf
    go_enter Tryz.func37, Tryz.ntmps37
    go_wp2_with fail
    refine hus.mono ?_
    rintro e w1 ⟨rfl, q1⟩
    clear hus
    have h1 := h.below q1
    clear h
    go_wp2_with fail
    go_ret
    exact ⟨rfl, Does.of w h1 (Turned.of_below F q1) (by omega)⟩

/-! ### Write -/
theorem sheet_any (x y : Int) (hx : I64 x) (hy : I64 y) (a : Option Addr) (len cap : Nat) (z : List Int) (w : World) (h : ChipAt G B F N S w) (hr : Row .u8 w a len cap z) (hdis : 0 < len → ∀ x, a = some x → ¬ F x.block) (hz : IsB z) (hN : N < 100000000) :
    Calls Tryz.prog 105 #[.agg #[.pointer (some ⟨B.c, 0, none⟩), .int .i64 y, .slice a len cap], .int .i64 x] w fun e w' => e = .returned (.int .i64 (S.doProgram G x y z).1) ∧ Does G B F (N + 2) w (S.doProgram G x y z).2 w' := by
  have q0 := below_one w (.cells #[.pointer (some ⟨B.c, 0, none⟩), .int .i64 y, .slice a len cap] 147)
  have hpr := chipProgram_any x y hx hy a len cap z _ (h.below q0) (hr.below q0 (Nat.le_refl _)) hdis hz hN
  generalize S.doProgram G x y z = r at *
  go_enter Tryz.func105, Tryz.ntmps105
  go_wp2_with fail
  refine hpr.mono ?_
  rintro e w1 ⟨rfl, d1⟩
  clear hpr
  go_wp2_with fail
  go_ret
  exact ⟨rfl, Does.after (Turned.of_below F q0) (fun _ hx => .inl hx) d1⟩

set_option maxHeartbeats 1600000 in
/-- A Write that goes on to its block. -/
theorem drvWrite_yes (x y : Int) (hx : I64 x) (hy : I64 y) (a : Option Addr) (cap : Nat) (data : List Int) (w : World) (db : DBox w d B.c) (hd : ¬ F d) (h : ChipAt G B F N S w) (hr : Row .u8 w a G.R cap data) (hb : IsB data) (hN : N + 2 < 100000000) (hp : inB0 y G.p = true) (hu : S.use G x true = 0) :
    Calls Tryz.prog 70 #[.pointer (some ⟨d, 0, none⟩), .int .i64 x, .int .i64 y, .slice a G.R cap] w fun e w' => ∃ z, IsPack G.s G.n G.f G.m G.W data z ∧ e = .returned (.int .i64 (CS.after G (S.doProgram G x y z) x).1) ∧ Does G B F (N + 4) w (CS.after G (S.doProgram G x y z) x).2 w' := by
  have hh := drvHasPage_any y w db h.cell h.lt
  have hmf := Tryz.makeF8
  have hlen : G.R ≤ maxLen := Nat.le_trans hr.hcap hr.hmax
  have hf := fun w1 (q1 : Below w.heap.size w w1) => drvFills_any a G.R cap hlen w1 (db.below q1 (Nat.le_refl _)) (h.below q1).cell (h.below q1).lt
  rw [decide_eq_true rfl] at hf
  rw [hp] at hh
  clear hp hlen
  go_enter Tryz.func70, Tryz.ntmps70
  go_wp2_with fail
  refine hh.mono ?_
  rintro e w1 ⟨rfl, q1⟩
  clear hh
  go_wp2_with fail
  refine (hf w1 q1).mono ?_
  rintro e w2 ⟨rfl, q2⟩
  clear hf
  replace q1 := btrans q1 q2
  clear q2
  have hus := drvUsable_any x hx true w2 (db.below q1 (Nat.le_refl _)) (h.below q1)
  rw [hu] at hus
  go_wp2_with fail
  refine hus.mono ?_
  rintro e w3 ⟨rfl, q2⟩
  clear hus hu
  replace q1 := btrans q1 q2
  clear q2
  have hgm := drvGeometry_any w3 (db.below q1 (Nat.le_refl _)) (h.below q1).cell (h.below q1).lt
  go_wp2_with fail
  refine hgm.mono ?_
  rintro e w4 ⟨rfl, q2⟩
  clear hgm
  replace q1 := btrans q1 q2
  clear q2
  have hpk := eccPack_yes bitsC encC G.ok a cap data w4 (hr.below q1 (Nat.le_refl _)) hb
  go_wp2_with fail
  refine hpk.mono ?_
  rintro e w5 ⟨z, gr, hz, hgr, rfl, own, q2⟩
  clear hpk
  have hzl : z.length = G.L := by rw [hz.len, G.ok.hL]
  have hzb := hz.isB
  have hz4 : w.heap.size ≤ gr := by have := q1.size; omega
  replace q1 := btrans q1 q2
  have r5 : Row .u8 w5 (some ⟨gr, 0, none⟩) G.L G.L z := isB_rowA own
  clear own q2 hgr
  have db5 := db.below q1 (Nat.le_refl _)
  have h5 := h.below q1
  have hoff : 0 < G.L → ∀ q : Addr, some (⟨gr, 0, none⟩ : Addr) = some q → ¬ F q.block := fun _ q e hq => by
    cases e
    have := h.fresh gr hq
    omega
  have hdn := drvDone_any (G := G) (B := B) (F := F) (N := N + 2) (d := d) 105 (.agg #[.pointer (some ⟨B.c, 0, none⟩), .int .i64 y, .slice (some ⟨gr, 0, none⟩) G.L G.L]) x hx (S.doProgram G x y z) w5 db5 hd hN (fun _ _ => rfl) (sheet_any x y hx hy _ _ _ z w5 h5 r5 hoff hzb (by omega))
  have c0 := db5.c0
  have HZ : Hid (IsPack G.s G.n G.f G.m G.W data z) := hz
  have HQ : Hid (Below w.heap.size w w5) := q1
  clear hz hzl hzb hz4 r5 db5 h5 hoff q1 hr h
  go_wp2_with fail
  refine hdn.mono ?_
  rintro e w6 ⟨rfl, d2⟩
  clear c0 hdn hmf
  go_wp2_with fail
  go_ret
  exact ⟨z, HZ.out, rfl, Does.after (Turned.of_below F HQ.out) (fun _ hx => .inl hx) d2⟩

/-! ### Read -/
theorem drvRead_no (x y : Int) (hx : I64 x) (w : World) (db : DBox w d B.c) (h : ChipAt G B F N S w) (u : Int) (hu : u ≠ 0) (HU : Hid (S.use G x (inB0 y G.p) = u)) :
    Calls Tryz.prog 46 #[.pointer (some ⟨d, 0, none⟩), .int .i64 x, .int .i64 y] w fun e w' => e = .returned (.tuple #[.slice none 0 0, .int .i64 0, .int .i64 u]) ∧ Below w.heap.size w w' := by
  have hh := drvHasPage_any y w db h.cell h.lt
  have hq : (u != 0) = true := by simp [hu]
  generalize inB0 y G.p = o at *
  clear hu
  go_enter Tryz.func46, Tryz.ntmps46
  go_wp2_with fail
  refine hh.mono ?_
  rintro e w1 ⟨rfl, q1⟩
  clear hh
  have hus := drvUsable_any x hx o w1 (db.below q1 (Nat.le_refl _)) (h.below q1)
  rw [HU.out] at hus
  go_wp2_with fail
  refine hus.mono ?_
  rintro e w2 ⟨rfl, q2⟩
  clear hus
  go_wp2_with fail
  go_ret3
  exact ⟨rfl, btrans q1 q2⟩
theorem ChipAt.pg_ok {x y : Int} {w : World} (h : ChipAt G B F N S w) : IsB (S.pg x y) ∧ (S.pg x y).length = G.L := by
  obtain ⟨m, _, hpp⟩ := h.pages
  obtain ⟨hzb, hzl, _⟩ := hpp x y
  exact ⟨hzb, hzl⟩
set_option maxHeartbeats 1600000 in
theorem drvRead_yes (x y : Int) (hx : I64 x) (hy : I64 y) (w : World) (db : DBox w d B.c) (h : ChipAt G B F N S w) (hp : inB0 y G.p = true) (hu : S.use G x true = 0) :
    Calls Tryz.prog 46 #[.pointer (some ⟨d, 0, none⟩), .int .i64 x, .int .i64 y] w fun e w' => ∃ X k er ao co, (IsRead G (readZ G.L (S.pg x y) (S.wr x y)) X k er ∧ IsB X ∧ (0 < X.length → ∀ q : Addr, ao = some q → w.heap.size ≤ q.block)) ∧ e = .returned (.tuple #[.slice ao X.length co, .int .i64 (k : Nat), .int .i64 er]) ∧ Row .u8 w' ao X.length co X ∧ Below w.heap.size w w' := by
  have hh := drvHasPage_any y w db h.cell h.lt
  obtain ⟨⟨hup, hib, _⟩, _⟩ := use_zero hu
  have hhp : hasP G x y = true := by unfold hasP; rw [hib, hp]; rfl
  rw [hp] at hh
  clear hp hib
  have hrd : ∀ w2, Below w.heap.size w w2 → _ := fun w2 q2 => chipRead_yes x y hx hy w2 (h.below q2) hup hhp
  have hzb := isB_readZ (L := G.L) (h.pg_ok (x := x) (y := y)).1 (S.wr x y)
  generalize readZ G.L (S.pg x y) (S.wr x y) = z at *
  go_enter Tryz.func46, Tryz.ntmps46
  go_wp2_with fail
  refine hh.mono ?_
  rintro e w1 ⟨rfl, q1⟩
  clear hh
  have hus := drvUsable_any x hx true w1 (db.below q1 (Nat.le_refl _)) (h.below q1)
  rw [hu] at hus
  go_wp2_with fail
  refine hus.mono ?_
  rintro e w2 ⟨rfl, q2⟩
  clear hus hu
  replace q1 := btrans q1 q2
  clear q2
  have c0 := (db.below q1 (Nat.le_refl _)).c0
  go_wp2_with fail
  refine (hrd _ q1).mono ?_
  rintro e w3 ⟨q, hq, rfl, rr, q2⟩
  clear hrd c0 hq hup hhp
  replace q1 := btrans q1 q2
  clear q2
  have hgm := drvGeometry_any w3 (db.below q1 (Nat.le_refl _)) (h.below q1).cell (h.below q1).lt
  go_wp2_with fail
  refine hgm.mono ?_
  rintro e w4 ⟨rfl, q2⟩
  clear hgm
  replace q1 := btrans q1 q2
  have hec := eccRead_is G _ _ z w4 (rr.below q2 (Nat.le_refl _)) hzb
  clear q2 rr
  go_wp2_with fail
  refine hec.mono ?_
  rintro e w5 ⟨X, k, er, ao, co, hX, rfl, rX, q2⟩
  clear hec
  have HX : Hid (IsRead G z X k er ∧ IsB X ∧ (0 < X.length → ∀ q : Addr, ao = some q → w.heap.size ≤ q.block)) := ⟨hX.1, hX.2.1, fun h0 q hq => Nat.le_trans q1.size (hX.2.2 h0 q hq)⟩
  clear hX
  generalize hln : X.length = ln at *
  have HLN : Hid (X.length = ln) := hln
  clear hln
  go_wp2_with fail
  go_ret3
  exact ⟨X, k, er, ao, co, by rw [HLN.out]; exact HX.out, by rw [HLN.out]; rfl, by rw [HLN.out]; exact rX, btrans q1 q2⟩
end
end Go.Proofs.YtgamakejaknagaaGreat

/-
  The code of layer 8 (drive), as it landed: Whole, Good.
-/
namespace Go.Proofs.YtgamakejaknagaaGreat
open Go.RowKit Go.Maps
set_option linter.unusedVariables false
set_option maxRecDepth 8192

/-- The raw bytes of a page, as they are read. -/
def CS.raw (G : Geo) (S : CS) (x y : Int) : List Int := readZ G.L (S.pg x y) (S.wr x y)
/-- Do the first k pages of a block bear their marks? -/
def CS.markTo (G : Geo) (S : CS) (x : Int) : Nat → Bool
  | 0 => true
  | k + 1 => S.markTo G x k && decide ((S.raw G x (k : Int))[G.L - 1]?.getD 0 = 0)
theorem markTo_no {G : Geo} {S : CS} {x : Int} {k : Nat} : ∀ {n : Nat}, k < n → (S.raw G x (k : Int))[G.L - 1]?.getD 0 ≠ 0 → S.markTo G x n = false := by
  intro n
  induction n with
  | zero => intro h; omega
  | succ n ih =>
    intro h hn
    show (S.markTo G x n && decide ((S.raw G x (n : Int))[G.L - 1]?.getD 0 = 0)) = false
    by_cases hk : k = n
    · subst hk; rw [decide_eq_false hn, Bool.and_false]
    · rw [ih (by omega) hn, Bool.false_and]
/-- What Whole answers. -/
def CS.wholeD (G : Geo) (S : CS) (x y : Int) : Bool × Int := if S.rdy G x (within0 y G.p) ≠ 0 then (false, S.rdy G x (within0 y G.p)) else (!S.bd x && S.markTo G x y.toNat, 0)

section
variable {G : Geo} {B : CB} {F : Nat → Prop} {N : Nat} {S : CS} {d : Nat}

set_option maxHeartbeats 1600000 in
theorem drvWhole_any (x y : Int) (hx : I64 x) (w : World) (db : DBox w d B.c) (h : ChipAt G B F N S w) :
    Calls Tryz.prog 54 #[.pointer (some ⟨d, 0, none⟩), .int .i64 x, .int .i64 y] w fun e w' => e = .returned (.tuple #[.bool (S.wholeD G x y).1, .int .i64 (S.wholeD G x y).2]) ∧ Below w.heap.size w w' := by
  have hfl := geoField1 G.b G.p G.s G.n G.f
  have hgm := drvGeometry_any w db h.cell h.lt
  have hrd : ∀ o w1, Below w.heap.size w w1 → _ := fun o w1 q1 => drvReady_any x o w1 (db.below q1 (Nat.le_refl _)) (h.below q1).cell (h.below q1).lt
  by_cases hr : S.rdy G x (within0 y G.p) = 0
  case neg =>
    have HW : Hid (S.wholeD G x y = (false, S.rdy G x (within0 y G.p))) := by show _ = _; unfold CS.wholeD; rw [if_pos hr]
    rw [HW.out]
    clear HW
    have hq : (S.rdy G x (within0 y G.p) != 0) = true := by simp [hr]
    replace hrd := hrd (within0 y G.p)
    have hwi := drvWithin_any y G.p
    generalize within0 y G.p = o at *
    generalize S.rdy G x o = u at *
    clear hr
    go_enter Tryz.func54, Tryz.ntmps54
    go_wp2_with fail
    refine hgm.mono ?_
    rintro e w1 ⟨rfl, q1⟩
    clear hgm
    go_wp2_with fail
    refine (hwi _).mono ?_
    rintro e w2 ⟨rfl, rfl⟩
    clear hwi hfl
    go_wp2_with fail
    refine (hrd _ q1).mono ?_
    rintro e w3 ⟨rfl, q3⟩
    clear hrd
    go_wp2_with fail
    go_ret2
    exact ⟨rfl, btrans q1 q3⟩
  obtain ⟨hup, hib, hwi0⟩ := rdy_zero hr
  have hwy : 0 ≤ y ∧ y ≤ G.p := by unfold within0 at hwi0; exact of_decide_eq_true hwi0
  have HW : Hid (S.wholeD G x y = (!S.bd x && S.markTo G x y.toNat, 0)) := by show _ = _; unfold CS.wholeD; rw [if_neg (by rw [hr]; simp)]
  rw [HW.out]
  clear HW
  rw [hwi0] at hr
  replace hrd := hrd true
  rw [hr] at hrd
  have hwi := drvWithin_any y G.p
  rw [hwi0] at hwi
  clear hwi0 hr
  have hbd : ∀ w1, Below w.heap.size w w1 → _ := fun w1 q1 => chipBad_any x hx w1 (h.below q1)
  rw [hup] at hbd
  cases hm : S.bd x
  case true =>
    rw [hm] at hbd
    go_enter Tryz.func54, Tryz.ntmps54
    go_wp2_with fail
    refine hgm.mono ?_
    rintro e w1 ⟨rfl, q1⟩
    clear hgm
    go_wp2_with fail
    refine (hwi _).mono ?_
    rintro e w2 ⟨rfl, rfl⟩
    clear hwi hfl
    go_wp2_with fail
    refine (hrd _ q1).mono ?_
    rintro e w3 ⟨rfl, q3⟩
    clear hrd
    replace q1 := btrans q1 q3
    clear q3
    have c0 := (db.below q1 (Nat.le_refl _)).c0
    go_wp2_with fail
    refine (hbd _ q1).mono ?_
    rintro e w4 ⟨rfl, q3⟩
    clear hbd c0
    go_wp2_with fail
    go_ret2
    exact ⟨rfl, btrans q1 q3⟩
  rw [hm] at hbd
  obtain ⟨Y, rfl⟩ := Int.eq_ofNat_of_zero_le hwy.1
  have hp2 := G.ok.hp.2
  have hY : Y ≤ 64 := by omega
  have HP : Hid (∀ k : Nat, k < Y → hasP G x (k : Int) = true) := fun k hk => by unfold hasP inB0 at *; simp [of_decide_eq_true hib]; omega
  have HNo : Hid (∀ k : Nat, k < Y → (S.raw G x (k : Int))[G.L - 1]?.getD 0 ≠ 0 → S.markTo G x Y = false) := fun k hk hn => markTo_no hk hn
  have HStep : Hid (∀ k : Nat, S.markTo G x k = true → (S.raw G x (k : Int))[G.L - 1]?.getD 0 = 0 → S.markTo G x (k + 1) = true) := fun k h1 h2 => by
    show (S.markTo G x k && decide ((S.raw G x (k : Int))[G.L - 1]?.getD 0 = 0)) = true
    rw [h1, decide_eq_true h2]; rfl
  have HZ : Hid (∀ k : Nat, IsB (S.raw G x (k : Int))) := fun k => isB_readZ (L := G.L) (h.pg_ok (x := x) (y := (k : Int))).1 _
  have HRD : Hid (∀ k : Nat, k < Y → ∀ w1, Below w.heap.size w w1 → Calls Tryz.prog 76 #[.pointer (some ⟨B.c, 0, none⟩), .int .i64 x, .int .i64 (k : Int)] w1 fun e w' => ∃ q, w1.heap.size ≤ q ∧ e = .returned (.tuple #[.slice (some ⟨q, 0, none⟩) G.L G.L, .int .i64 0]) ∧ Row .u8 w' (some ⟨q, 0, none⟩) G.L G.L (S.raw G x (k : Int)) ∧ Below w1.heap.size w1 w') := fun k hk w1 q1 =>
    chipRead_yes x k hx (by unfold I64; omega) w1 (h.below q1) hup (HP.out k hk)
  have HGM : Hid (∀ w1, Below w.heap.size w w1 → Calls Tryz.prog 48 #[.pointer (some ⟨d, 0, none⟩)] w1 fun e w' => e = .returned (.agg #[.int .i64 G.b, .int .i64 G.p, .int .i64 G.s, .int .i64 G.n, .int .i64 G.f]) ∧ Below w1.heap.size w1 w') := fun w1 q1 => drvGeometry_any w1 (db.below q1 (Nat.le_refl _)) (h.below q1).cell (h.below q1).lt
  have HC : Hid (∀ w1, Below w.heap.size w w1 → w1.cell? ⟨d, 0, none⟩ = some (.pointer (some ⟨B.c, 0, none⟩))) := fun w1 q1 => (db.below q1 (Nat.le_refl _)).c0
  clear hib HP hwy hp2 hm hup h db
  go_enter Tryz.func54, Tryz.ntmps54
  go_wp2_with fail
  refine hgm.mono ?_
  rintro e w1 ⟨rfl, q1⟩
  clear hgm
  go_wp2_with fail
  refine (hwi _).mono ?_
  rintro e w2 ⟨rfl, rfl⟩
  clear hwi hfl
  go_wp2_with fail
  refine (hrd _ q1).mono ?_
  rintro e w3 ⟨rfl, q3⟩
  clear hrd
  replace q1 := btrans q1 q3
  clear q3
  have c0 := HC.out _ q1
  go_wp2_with fail
  refine (hbd _ q1).mono ?_
  rintro e w4 ⟨rfl, q3⟩
  clear hbd c0
  replace q1 := btrans q1 q3
  clear q3
  go_wp2_with fail
  go_loopw [32] (fun v wr => ∃ k : Nat, k ≤ Y ∧ v = .int .i64 k ∧ S.markTo G x k = true ∧ Below w.heap.size w wr) (fun v _ => Y - (RowKit.intOf v).toNat)
  case atStart => exact ⟨0, Nat.zero_le _, rfl, rfl, q1⟩
  case round =>
    clear q1
    obtain ⟨k, hk, rfl, hmt, hnx⟩ := hrel
    have HM : Hid (S.markTo G x k = true) := hmt
    clear hmt
    by_cases hlt : k < Y
    · have hkk : (k : Int) < (Y : Int) := by omega
      have c0 := HC.out _ hnx
      have hrdk := HRD.out k hlt wr hnx
      have hzb := HZ.out k
      have HNk : Hid ((S.raw G x (k : Int))[G.L - 1]?.getD 0 ≠ 0 → S.markTo G x Y = false) := HNo.out k hlt
      have HSk : Hid ((S.raw G x (k : Int))[G.L - 1]?.getD 0 = 0 → S.markTo G x (k + 1) = true) := HStep.out k HM.out
      clear HRD HZ HNo HStep HM
      generalize S.raw G x (k : Int) = z at *
      go_wp2_with fail
      refine hrdk.mono ?_
      rintro e w5 ⟨q, hq, rfl, rz, q5⟩
      clear hrdk c0 hq
      replace hnx := btrans hnx q5
      clear q5
      go_wp2_with fail
      refine (HGM.out _ hnx).mono ?_
      rintro e w6 ⟨rfl, q6⟩
      replace hnx := btrans hnx q6
      have hun := eccUnpack_is G _ _ z w6 (rz.below q6 (Nat.le_refl _)) hzb
      clear q6 rz hzb
      go_wp2_with fail
      refine hun.mono ?_
      rintro e w7 ⟨v, er, her, rfl, q7⟩
      clear hun
      replace hnx := btrans hnx q7
      clear q7
      by_cases h0 : er = 0
      · subst h0
        have HS2 : Hid (S.markTo G x (k + 1) = true) := HSk.out (her.1 rfl)
        clear HSk HNk her
        go_wp2_with fail
        go_roundw
        case rel => exact ⟨k + 1, by omega, by go_num, HS2.out, hnx⟩
        case measure => simp [RowKit.intOf]; omega
      · have HS2 : Hid (S.markTo G x Y = false) := HNk.out (fun hh => h0 (her.2 hh))
        have hq : (er != 0) = true := by simp [h0]
        clear HSk HNk her h0
        go_wp2_with fail
        go_ret2
        exact ⟨by show _ = _; simp [HS2.out], hnx⟩
    · have hkk : ¬ (k : Int) < (Y : Int) := by omega
      have HE : Hid (S.markTo G x Y = true) := by have : k = Y := by omega
                                                  subst this; exact HM.out
      clear HM
      go_wp2_with fail
      go_ret2
      exact ⟨by show _ = _; simp [HE.out], hnx⟩

/-- The blocks below k that are not marked. -/
def CS.goodTo (S : CS) (k : Nat) : List Int := ((List.range k).filter fun (i : Nat) => S.up && !S.bd (i : Int)).map Int.ofNat
theorem goodTo_hit {k : Nat} (h : S.up = true ∧ S.bd (k : Int) = false) : S.goodTo (k + 1) = S.goodTo k ++ [(k : Int)] := by
  unfold CS.goodTo; rw [List.range_succ, List.filter_append, List.map_append]; simp [h.1, h.2]
theorem goodTo_miss {k : Nat} (h : ¬ (S.up = true ∧ S.bd (k : Int) = false)) : S.goodTo (k + 1) = S.goodTo k := by
  unfold CS.goodTo; rw [List.range_succ, List.filter_append, List.map_append]
  have : (S.up && !S.bd (k : Int)) = false := by cases hu : S.up <;> cases hb : S.bd (k : Int) <;> simp_all
  simp [this]
theorem goodTo_len (k : Nat) : (S.goodTo k).length ≤ k := by
  have := List.length_filter_le (fun (i : Nat) => S.up && !S.bd (i : Int)) (List.range k)
  unfold CS.goodTo; rw [List.length_map]; rw [List.length_range] at this; exact this

set_option maxHeartbeats 1600000 in
set_option maxRecDepth 100000 in
theorem drvGood_any (w : World) (db : DBox w d B.c) (h : ChipAt G B F N S w) :
    Calls Tryz.prog 55 #[.pointer (some ⟨d, 0, none⟩)] w fun e w' => ∃ v, e = .returned v ∧ w'.ownsRow w.heap.size 3 1 v (S.goodTo G.b.toNat).length ((S.goodTo G.b.toNat).map (Value.int .i64)) ∧ Below w.heap.size w w' := by
  obtain ⟨j0, hj0, hy0, hy1, hy2⟩ := info_parts Tryz.info3
  have hfl := geoField0 G.b G.p G.s G.n G.f
  have hgm := drvGeometry_any w db h.cell h.lt
  have hb1 := G.ok.hb.1
  have hb2 := G.ok.hb.2
  obtain ⟨Bn, hBn⟩ : ∃ Bn : Nat, G.b = (Bn : Int) := Int.eq_ofNat_of_zero_le (by omega)
  have hBl : Bn ≤ 256 := by omega
  have HBn : Hid (G.b.toNat = Bn) := by show _ = _; omega
  rw [HBn.out]
  have HLE : Hid (∀ k, (S.goodTo k).length ≤ k) := fun k => goodTo_len k
  have HUS : Hid (∀ k : Nat, k < Bn → ∀ w1, Below w.heap.size w w1 → Calls Tryz.prog 61 #[.pointer (some ⟨d, 0, none⟩), .int .i64 (k : Int), .bool true] w1 fun e w' => e = .returned (.int .i64 (S.use G k true)) ∧ Below w1.heap.size w1 w') := fun k hk w1 q1 => drvUsable_any k (by unfold I64; omega) true w1 (db.below q1 (Nat.le_refl _)) (h.below q1)
  have HHit : Hid (∀ k : Nat, S.use G k true = 0 → S.goodTo (k + 1) = S.goodTo k ++ [(k : Int)]) := fun k hu => goodTo_hit (by obtain ⟨⟨h1, _, _⟩, h2⟩ := use_zero hu; exact ⟨h1, h2⟩)
  have HMiss : Hid (∀ k : Nat, k < Bn → S.use G k true ≠ 0 → S.goodTo (k + 1) = S.goodTo k) := fun k hk hu => goodTo_miss (fun hh => hu (use_of hh.1 (by unfold inB0; rw [decide_eq_true_iff]; omega) rfl hh.2))
  rw [hBn] at hgm hfl
  clear db h hb1 hb2 hBn HBn
  go_enter Tryz.func55, Tryz.ntmps55
  go_wp2_with fail
  refine hgm.mono ?_
  rintro e w1 ⟨rfl, q1⟩
  clear hgm
  go_wp2_with fail
  clear hfl
  go_loopw [3, 8] (fun v y wr => ∃ k : Nat, k ≤ Bn ∧ y = .int .i64 k ∧ wr.ownsRow w.heap.size 3 1 v (S.goodTo k).length ((S.goodTo k).map (Value.int .i64)) ∧ Below w.heap.size w wr) (fun _ y _ => Bn - (RowKit.intOf y).toNat)
  case atStart => exact ⟨0, Nat.zero_le _, rfl, World.ownsRow_nil _ _ _ _, q1⟩
  case round =>
    clear q1
    obtain ⟨k, hk, rfl, hown, hnx⟩ := hrel
    have hsz := hnx.size
    have hle := HLE.out k
    by_cases hlt : k < Bn
    · have hkk : (k : Int) < (Bn : Int) := by omega
      have hus := HUS.out k hlt wr hnx
      have HHk : Hid (S.use G k true = 0 → S.goodTo (k + 1) = S.goodTo k ++ [(k : Int)]) := HHit.out k
      have HMk : Hid (S.use G k true ≠ 0 → S.goodTo (k + 1) = S.goodTo k) := HMiss.out k hlt
      clear HLE HUS HHit HMiss
      generalize hos : S.goodTo k = os at *
      clear hos
      generalize hm : os.length = m at *
      have HM : Hid (os.length = m) := hm
      clear hm
      generalize S.use G k true = u at *
      obtain ⟨ao, cp, rfl, _⟩ := row_of_owns hown
      go_wp2_with fail
      refine hus.mono ?_
      rintro e w1 ⟨rfl, hb1⟩
      clear hus
      have hown1 := owns_below hown hb1
      have hB1 : Below w.heap.size w w1 := hnx.trans (hb1.mono hsz)
      have hsz1 := hB1.size
      clear hown hnx hsz hb1
      by_cases hz : u = 0
      · have HS : Hid (S.goodTo (k + 1) = os ++ [(k : Int)]) := HHk.out hz
        have HSL : Hid ((S.goodTo (k + 1)).length = m + 1) := by show _ = _; rw [HS.out, List.length_append, HM.out]; rfl
        subst hz
        clear HHk HMk
        go_wp2_with (at_builtin; refine wpList_append_own _ rfl _ _ 32 rfl w.heap.size 3 j0 (.int .i64 0) 1 8 Tryz.underlying32 hj0 hy0 hy1 hy2 rfl (by decide) _ _ _ rfl (hown1.alloc _) ⟨w1.heap.size, 0, none⟩ 1 1 [.int .i64 (k : Nat)] rfl rfl (cell_one_new _ _ _) (by intro u hu; simp at hu; subst hu; rfl) (by unfold maxLen; omega) (by omega) (by simp; omega) ?_)
        intro v' w2 hown' hgrow _
        have R := rel_push hsz1 hown1 hB1 hown' hgrow
        rw [← HS.out, ← HSL.out] at R
        clear hown' hgrow hown1 hB1
        go_wp2_with fail
        go_roundw
        case rel => exact ⟨k + 1, by omega, by go_num, R.1, R.2⟩
        case measure => simp [RowKit.intOf]; omega
      · have HS : Hid (S.goodTo (k + 1) = os) := HMk.out hz
        have hq : (u == 0) = false := by simp [hz]
        clear HHk HMk hz
        go_wp2_with fail
        go_roundw
        case rel => exact ⟨k + 1, by omega, by go_num, by rw [HS.out, HM.out]; exact hown1, hB1⟩
        case measure => simp [RowKit.intOf]; omega
    · have hkk : ¬ (k : Int) < (Bn : Int) := by omega
      obtain rfl : k = Bn := by omega
      clear HLE HUS HHit HMiss
      generalize hos : S.goodTo k = os at *
      have HOS : Hid (S.goodTo k = os) := hos
      clear hos
      generalize hm : os.length = m at *
      have HM : Hid (os.length = m) := hm
      clear hm
      obtain ⟨ao, cp, rfl, _⟩ := row_of_owns hown
      go_wp2_with fail
      go_ret
      exact ⟨_, rfl, by rw [HOS.out, HM.out]; exact hown, hnx⟩
end
end Go.Proofs.YtgamakejaknagaaGreat

/-
  What the walks of layer 8's laws share: a drive that was made since W (DHere), what Write and Erase leave (plain), what is read of a page that was packed, tiny, small, awake.
-/
namespace Go.Proofs.YtgamakejaknagaaGreat
open Go.RowKit Go.Maps
set_option linter.unusedVariables false
set_option maxRecDepth 8192

/-- A drive and its chip that were made since W; nothing that W had has turned. -/
structure DHere (W : World) (G : Geo) (B : CB) (F : Nat → Prop) (N : Nat) (S : CS) (d : Nat) (w : World) : Prop where
  here : Here W G B F N S w
  box : DBox w d B.c
  off : ¬ F d
section
variable {W w w' : World} {G : Geo} {B : CB} {F : Nat → Prop} {N N' : Nat} {S S' : CS} {d : Nat}
theorem DHere.below (h : DHere W G B F N S d w) (q : Below w.heap.size w w') : DHere W G B F N S d w' := ⟨h.here.below q, h.box.below q (Nat.le_refl _), h.off⟩
theorem DHere.does (h : DHere W G B F N S d w) (dd : Does G B F N' w S' w') : ∃ F', DHere W G B F' N' S' d w' ∧ ∀ k a len cap z, Off F k w a len cap z → Off F' k w' a len cap z := by
  obtain ⟨F', h1, t, f⟩ := dd
  refine ⟨F', ⟨⟨h1, fun x hx => ?_, h.here.bel.trans (t.below h.here.bel.size (fun x hx => h.here.low x hx))⟩, h.box.turned t h.off, fun hd => ?_⟩, fun k a len cap z ho => ho.step t f⟩
  · rcases f x hx with e | e
    · exact h.here.low x e
    · exact Nat.le_trans h.here.bel.size e
  · rcases f d hd with e | e
    · exact h.off e
    · have := h.box.lt; omega
theorem DHere.turned (h : DHere W G B F N S d w) (hc : ChipAt G B F N' S' w') (t : Turned F w w') : DHere W G B F N' S' d w' ∧ ∀ k a len cap z, Off F k w a len cap z → Off F k w' a len cap z := by
  obtain ⟨h1, h2⟩ := h.here.turned hc t
  exact ⟨⟨h1, h.box.turned t h.off, h.off⟩, h2⟩
theorem DHere.same (h : DHere W G B F N S d w) (e : S = S') : DHere W G B F N S' d w := e ▸ h
theorem DHere.bel (h : DHere W G B F N S d w) : Below W.heap.size W w := h.here.bel
theorem DHere.chip (h : DHere W G B F N S d w) : ChipAt G B F N S w := h.here.chip
/-- A row that W had. -/
theorem DHere.old (h : DHere W G B F N S d w) {k : IntKind} {a : Option Addr} {len cap : Nat} {z : List Int} (r : Row k W a len cap z) : Off F k w a len cap z :=
  Off.of_old (r.below h.bel (Nat.le_refl _)) (fun h0 x hx => r.blk_lt h0 x hx) h.here.low
end

section
variable {G : Geo} {S : CS} {x y : Int} {z : List Int}
theorem inB0_of {x m : Int} (h : 0 ≤ x ∧ x < m) : inB0 x m = true := by unfold inB0; exact decide_eq_true h
theorem after_ok {r : Int × CS} (h : r.1 ≠ 72) : CS.after G r x = r := by unfold CS.after; rw [if_pos h]
theorem write_cut (hu : S.up = true) (hx : 0 ≤ x ∧ x < G.b) (hy : 0 ≤ y ∧ y < G.p) (hn : y = S.nx x) (ha : S.ah = 1) (hl : z.length = G.L) : CS.after G (S.doProgram G x y z) x = (70, S.counted.lay x y (padF G.L (z.take (keptN S.ke z.length)))) := by
  rw [program_cut hu (fitsP_of hx hy hl) hn ha, after_ok (by simp)]
theorem eraseD_bad (hu : S.up = true) (hx : 0 ≤ x ∧ x < G.b) (hb : S.bd x = true) : S.eraseD G x = (73, S) := by
  unfold CS.eraseD
  rw [use_bad hu (inB0_of hx) rfl hb, if_pos (by simp)]
end

theorem maxC_zero (s : Nat) : maxC (fun _ => 0) s = 0 := by
  induction s with
  | zero => rfl
  | succ s ih => show max (maxC (fun _ => 0) s) 0 = 0; rw [ih]; rfl
/-- What is read of a page in which few bits are turned. -/
theorem isRead_flips {G : Geo} {x z ps X : List Int} {k : Nat} {er : Int} (hz : IsPack G.s G.n G.f G.m G.W x z) (hx : IsB x) (hxl : x.length = G.R) (hnd : ps.Nodup) (hin : ∀ p ∈ ps, 0 ≤ p ∧ p < 8 * ((G.s * G.W : Nat) : Int))
    (hc : ∀ j, j < G.s → cntTo (8 * G.W) (8 * G.n + 13 * G.f) ps j ≤ G.f) (h : IsRead G (turnI z ps) X k er) : X = x ∧ k = maxC (cntTo (8 * G.W) (8 * G.n + 13 * G.f) ps) G.s ∧ er = 0 := by
  have g := G.ok
  have hmk : (turnI z ps)[G.L - 1]?.getD 0 = 0 := by
    rw [flip_mark (s := G.s) (W := G.W) g.hL hin, show G.L - 1 = G.s * G.W by have := g.hL; omega]
    exact hz.mark
  rcases h with ⟨h0, _⟩ | ⟨_, S, hS, h⟩
  · exact absurd hmk h0
  · obtain ⟨h1, h2, h3⟩ := flip_read (L := G.L) hz g.hW g.hm (by have := g.hn; omega) (by have := g.hn; omega) (by have := g.hf; omega) hx (by rw [hxl, g.hR]) hnd hin hc hS
    rcases h with ⟨⟨j, hj, hne⟩, _⟩ | ⟨_, e1, e2, e3⟩
    · exact absurd (h1 j hj) hne
    · exact ⟨by rw [e1, h2], by rw [e2, h3], e3⟩
end Go.Proofs.YtgamakejaknagaaGreat
