/-
  The code of layer 8 (drive), as it landed: Write, Erase (method values handed to done), Read, and what layer 6 reads of raw bytes (IsRead: one answer).
-/
import Derived.Test.YtggpgdaacbmmdaaGreatDriveCode
namespace Go.Proofs.YtggpgdaacbmmdaaGreat
open Go.RowKit Go.Maps
set_option linter.unusedVariables false
set_option maxRecDepth 8192

/-! ### What layer 6 reads of raw bytes -/
theorem sec_one {t : Nat} {x y : List Int} {c c' : Sec} (h8 : 13 * t + 8 * x.length ≤ 8191) (h : IsSec t x y c) (h' : IsSec t x y c') : c = c' := by
  obtain ⟨d, n, e⟩ := c
  obtain ⟨d', n', e'⟩ := c'
  rcases h with ⟨h0, k, hk⟩ | ⟨h0, h1, h2, hno⟩ <;> rcases h' with ⟨h0', k', hk'⟩ | ⟨h0', h1', h2', hno'⟩
  · obtain ⟨e1, _, e3⟩ := dec_unique h8 hk hk'
    simp only at h0 h0' e1 e3
    subst h0 h0' e1 e3
    rfl
  · exact absurd hk (hno' _ _ _)
  · exact absurd hk' (hno _ _ _)
  · simp only at h0 h1 h2 h0' h1' h2'
    subst h0 h1 h2 h0' h1' h2'
    rfl
theorem data_congr {S S' : Nat → Sec} : ∀ {i : Nat}, (∀ j, j < i → S j = S' j) → dataTo S i = dataTo S' i ∧ mostTo S i = mostTo S' i := by
  intro i
  induction i with
  | zero => intro _; exact ⟨rfl, rfl⟩
  | succ i ih =>
    intro h
    obtain ⟨h1, h2⟩ := ih fun j hj => h j (by omega)
    simp only [dataTo, mostTo]
    rw [h1, h2, h i (by omega)]
    exact ⟨rfl, rfl⟩

/-- Layer 6's Read tells x, k, er of the raw bytes z. -/
def IsRead (G : Geo) (z x : List Int) (k : Nat) (er : Int) : Prop :=
  (z[G.L - 1]?.getD 0 ≠ 0 ∧ x = [] ∧ k = 0 ∧ er = if z[G.L - 1]?.getD 0 = 255 ∧ blankTo G.f z G.W G.s = true then 61 else 60) ∨
  (z[G.L - 1]?.getD 0 = 0 ∧ ∃ S : Nat → Sec, (∀ j, j < G.s → IsSec G.f (part z (j * G.W) G.n) (part z (j * G.W + G.n) G.m) (S j)) ∧
    (((∃ j, j < G.s ∧ (S j).e ≠ 0) ∧ x = [] ∧ k = 0 ∧ er = 50) ∨ ((∀ j, j < G.s → (S j).e = 0) ∧ x = dataTo S G.s ∧ k = mostTo S G.s ∧ er = 0)))
theorem isRead_one {G : Geo} {z x x' : List Int} {k k' : Nat} {er er' : Int} (hl : z.length = G.L) (h : IsRead G z x k er) (h' : IsRead G z x' k' er') : x = x' ∧ k = k' ∧ er = er' := by
  rcases h with ⟨h0, h1, h2, h3⟩ | ⟨h0, S, hS, h⟩ <;> rcases h' with ⟨h0', h1', h2', h3'⟩ | ⟨h0', S', hS', h'⟩
  · exact ⟨h1.trans h1'.symm, h2.trans h2'.symm, h3.trans h3'.symm⟩
  · exact absurd h0' h0
  · exact absurd h0 h0'
  · have hE : ∀ j, j < G.s → S j = S' j := fun j hj => sec_one (by
      have h1 := G.ok.at_ hj
      have h2 := G.ok.hW
      have h3 := G.ok.hn
      have h4 := G.ok.hf
      rw [length_part (by omega)]
      omega) (hS j hj) (hS' j hj)
    rcases h with ⟨⟨j, hj, hne⟩, h1, h2, h3⟩ | ⟨hok, h1, h2, h3⟩ <;> rcases h' with ⟨⟨j', hj', hne'⟩, h1', h2', h3'⟩ | ⟨hok', h1', h2', h3'⟩
    · exact ⟨h1.trans h1'.symm, h2.trans h2'.symm, h3.trans h3'.symm⟩
    · exact absurd (by rw [hE j hj]; exact hok' j hj) hne
    · exact absurd (by rw [← hE j' hj']; exact hok j' hj') hne'
    · obtain ⟨e1, e2⟩ := data_congr hE
      exact ⟨by rw [h1, h1', e1], by rw [h2, h2', e2], h3.trans h3'.symm⟩
theorem row_no (k : IntKind) (w : World) : Row k w none 0 0 [] := ⟨rfl, Nat.le_refl _, by unfold maxLen; omega, fun _ => rfl, fun h => by omega⟩

theorem eccRead_is (G : Geo) (a : Option Addr) (cap : Nat) (z : List Int) (w : World) (rz : Row .u8 w a G.L cap z) (bz : IsB z) :
    Calls Tryz.prog 46 #[.agg #[.int .i64 G.b, .int .i64 G.p, .int .i64 G.s, .int .i64 G.n, .int .i64 G.f], .slice a G.L cap] w fun e w' =>
      ∃ x k er ao co, (IsRead G z x k er ∧ IsB x ∧ (0 < x.length → ∀ q : Addr, ao = some q → w.heap.size ≤ q.block)) ∧ e = .returned (.tuple #[.slice ao x.length co, .int .i64 (k : Nat), .int .i64 er]) ∧ Row .u8 w' ao x.length co x ∧ Below w.heap.size w w' := by
  by_cases hmk : z[G.L - 1]?.getD 0 = 0
  · refine (eccRead_own bitsC G.ok a cap z w rz bz decC hmk).mono ?_
    rintro e w' ⟨S, hS, h⟩
    rcases h with ⟨hbad, rfl, q⟩ | ⟨hok, ao, co, rfl, r, hnew, q⟩
    · exact ⟨[], 0, 50, none, 0, ⟨.inr ⟨hmk, S, hS, .inl ⟨hbad, rfl, rfl, rfl⟩⟩, (fun v hv => by cases hv), fun h0 => absurd h0 (by simp)⟩, rfl, row_no _ _, q⟩
    · have hl := r.hlen
      refine ⟨dataTo S G.s, mostTo S G.s, 0, ao, co, ⟨.inr ⟨hmk, S, hS, .inr ⟨hok, rfl, rfl, rfl⟩⟩, ?_, by rw [hl]; exact hnew⟩, by rw [hl], by rw [hl]; exact r, q⟩
      refine isB_dataTo fun j hj => ?_
      obtain ⟨k, hk⟩ := (hS j hj).of_ok (hok j hj)
      exact hk.bd
  · obtain ⟨er, her⟩ : ∃ er : Int, er = if z[G.L - 1]?.getD 0 = 255 ∧ blankTo G.f z G.W G.s = true then 61 else 60 := ⟨_, rfl⟩
    refine (eccRead_err G.b G.p G.s G.n G.f a G.L cap w er ?_ (fun w1 q1 => eccUnpack_mark bitsC G.ok a cap z w1 (rz.below q1 (Nat.le_refl _)) bz hmk er her)).mono ?_
    · rw [her]; split <;> omega
    · rintro e w' ⟨rfl, q⟩
      exact ⟨[], 0, er, none, 0, ⟨.inl ⟨hmk, rfl, rfl, her⟩, (fun v hv => by cases hv), fun h0 => absurd h0 (by simp)⟩, rfl, row_no _ _, q⟩

theorem eccUnpack_is (G : Geo) (a : Option Addr) (cap : Nat) (z : List Int) (w : World) (rz : Row .u8 w a G.L cap z) (bz : IsB z) :
    Calls Tryz.prog 63 #[.agg #[.int .i64 G.b, .int .i64 G.p, .int .i64 G.s, .int .i64 G.n, .int .i64 G.f], .slice a G.L cap] w fun e w' =>
      ∃ v er, (er = 0 ↔ z[G.L - 1]?.getD 0 = 0) ∧ e = .returned (.tuple #[v, .int .i64 er]) ∧ Below w.heap.size w w' := by
  by_cases hmk : z[G.L - 1]?.getD 0 = 0
  · refine (eccUnpack_yes bitsC G.ok a cap z w rz bz decC hmk).mono ?_
    rintro e w' ⟨S, gs, hS, hg, rfl, _, q⟩
    exact ⟨_, 0, by simp [hmk], rfl, q⟩
  · obtain ⟨er, her⟩ : ∃ er : Int, er = if z[G.L - 1]?.getD 0 = 255 ∧ blankTo G.f z G.W G.s = true then 61 else 60 := ⟨_, rfl⟩
    refine (eccUnpack_mark bitsC G.ok a cap z w rz bz hmk er her).mono ?_
    rintro e w' ⟨rfl, q⟩
    refine ⟨_, er, ⟨fun h => ?_, fun h => absurd h hmk⟩, rfl, q⟩
    rw [her] at h
    split at h <;> omega

section
variable {G : Geo} {B : CB} {F : Nat → Prop} {N : Nat} {S : CS} {d : Nat}

/-! ### Erase -/
theorem Tryz.makeF8 (fn : Fn) (first cap : Array Value) (w : World) : (Instr.makeFunc fn first cap).run Tryz.prog w = .ok (.func fn first cap) w := rfl
theorem drvErase_nil (x : Int) (w : World) : Calls Tryz.prog 27 #[.pointer none, .int .i64 x] w fun e w' => e = .returned (.int .i64 3) ∧ w = w' := by
  go_enter Tryz.func27, Tryz.ntmps27
  go_wp2_with fail
  refine (drvUsable_nil x true _).mono ?_
  rintro e w1 ⟨rfl, rfl⟩
  go_wp2_with fail
  go_ret
  exact ⟨rfl, rfl⟩
def CS.eraseD (G : Geo) (S : CS) (x : Int) : Int × CS := if S.use G x true ≠ 0 then (S.use G x true, S) else CS.after G (S.doErase G x) x
set_option maxHeartbeats 800000 in
theorem drvErase_any (x : Int) (hx : I64 x) (w : World) (db : DBox w d B.c) (hd : ¬ F d) (h : ChipAt G B F N S w) (hN : N < 1000000) :
    Calls Tryz.prog 27 #[.pointer (some ⟨d, 0, none⟩), .int .i64 x] w fun e w' => e = .returned (.int .i64 (S.eraseD G x).1) ∧ Does G B F (N + 2) w (S.eraseD G x).2 w' := by
  have hus := drvUsable_any x hx true w db h
  have hmf := Tryz.makeF8
  by_cases hu : S.use G x true = 0
  · have HE : Hid (S.eraseD G x = CS.after G (S.doErase G x) x) := by show _ = _; unfold CS.eraseD; rw [if_neg (by rw [hu]; simp)]
    rw [HE.out]
    clear HE
    rw [hu] at hus
    clear hu
    go_enter Tryz.func27, Tryz.ntmps27
    go_wp2_with fail
    refine hus.mono ?_
    rintro e w1 ⟨rfl, q1⟩
    clear hus
    have db1 := db.below q1 (Nat.le_refl _)
    have c0 := db1.c0
    have hdn := drvDone_any (G := G) (B := B) (F := F) (N := N) (d := d) 64 (.pointer (some ⟨B.c, 0, none⟩)) x hx (S.doErase G x) w1 db1 hd hN (fun _ _ => rfl) (chipErase_any x hx w1 (h.below q1))
    go_wp2_with fail
    refine hdn.mono ?_
    rintro e w2 ⟨rfl, d2⟩
    clear c0 hdn hmf
    go_wp2_with fail
    go_ret
    exact ⟨rfl, Does.after (Turned.of_below F q1) (fun _ hx => .inl hx) d2⟩
  · have HE : Hid (S.eraseD G x = (S.use G x true, S)) := by show _ = _; unfold CS.eraseD; rw [if_pos hu]
    rw [HE.out]
    clear HE
    have hq : (S.use G x true != 0) = true := by simp [hu]
    generalize S.use G x true = u at *
    clear hu hmf
    go_enter Tryz.func27, Tryz.ntmps27
    go_wp2_with fail
    refine hus.mono ?_
    rintro e w1 ⟨rfl, q1⟩
    clear hus
    have h1 := h.below q1
    clear h
    go_wp2_with fail
    go_ret
    exact ⟨rfl, Does.of w h1 (Turned.of_below F q1) (by omega)⟩

/-! ### Write -/
theorem sheet_any (x y : Int) (hx : I64 x) (hy : I64 y) (a : Option Addr) (len cap : Nat) (z : List Int) (w : World) (h : ChipAt G B F N S w) (hr : Row .u8 w a len cap z) (hdis : 0 < len → ∀ x, a = some x → ¬ F x.block) (hz : IsB z) (hN : N < 1000000) :
    Calls Tryz.prog 54 #[.agg #[.pointer (some ⟨B.c, 0, none⟩), .int .i64 y, .slice a len cap], .int .i64 x] w fun e w' => e = .returned (.int .i64 (S.doProgram G x y z).1) ∧ Does G B F (N + 2) w (S.doProgram G x y z).2 w' := by
  have q0 := below_one w (.cells #[.pointer (some ⟨B.c, 0, none⟩), .int .i64 y, .slice a len cap] 95)
  have hpr := chipProgram_any x y hx hy a len cap z _ (h.below q0) (hr.below q0 (Nat.le_refl _)) hdis hz hN
  generalize S.doProgram G x y z = r at *
  go_enter Tryz.func54, Tryz.ntmps54
  go_wp2_with fail
  refine hpr.mono ?_
  rintro e w1 ⟨rfl, d1⟩
  clear hpr
  go_wp2_with fail
  go_ret
  exact ⟨rfl, Does.after (Turned.of_below F q0) (fun _ hx => .inl hx) d1⟩

theorem drvHasPage_nil (y : Int) (w : World) : Calls Tryz.prog 50 #[.pointer none, .int .i64 y] w fun e w' => e = .returned (.bool false) ∧ Below w.heap.size w w' := by
  have HE : Hid (within0 y (-1) = false) := by show _ = _; unfold within0; rw [decide_eq_false_iff_not]; omega
  have hfl := geoField1 0 0 0 0 0
  go_enter Tryz.func50, Tryz.ntmps50
  go_wp2_with fail
  refine (drvGeometry_nil _).mono ?_
  rintro e w1 ⟨rfl, q1⟩
  go_wp2_with fail
  refine (drvWithin_any y (-1) _).mono ?_
  rw [HE.out]
  rintro e w2 ⟨rfl, rfl⟩
  go_wp2_with fail
  go_ret
  exact ⟨rfl, q1⟩
theorem drvWrite_nil (x y : Int) (a : Option Addr) (len cap : Nat) (w : World) : Calls Tryz.prog 21 #[.pointer none, .int .i64 x, .int .i64 y, .slice a len cap] w fun e w' => e = .returned (.int .i64 3) ∧ Below w.heap.size w w' := by
  go_enter Tryz.func21, Tryz.ntmps21
  go_wp2_with fail
  refine (drvHasPage_nil y _).mono ?_
  rintro e w1 ⟨rfl, q1⟩
  go_wp2_with fail
  refine (drvUsable_nil x false _).mono ?_
  rintro e w2 ⟨rfl, rfl⟩
  go_wp2_with fail
  go_ret
  exact ⟨rfl, q1⟩

set_option maxHeartbeats 1600000 in
/-- A Write that is kept from its block. -/
theorem drvWrite_no (x y : Int) (hx : I64 x) (a : Option Addr) (len cap : Nat) (hlen : len ≤ maxLen) (w : World) (db : DBox w d B.c) (h : ChipAt G B F N S w) (u : Int) (hu : u ≠ 0) (HU : Hid (S.use G x (inB0 y G.p && decide (len = G.R)) = u)) :
    Calls Tryz.prog 21 #[.pointer (some ⟨d, 0, none⟩), .int .i64 x, .int .i64 y, .slice a len cap] w fun e w' => e = .returned (.int .i64 u) ∧ Below w.heap.size w w' := by
  have hh := drvHasPage_any y w db h.cell h.lt
  have hq : (u != 0) = true := by simp [hu]
  cases hp : inB0 y G.p
  · rw [hp] at hh
    have HU' : Hid (S.use G x false = u) := by have := HU.out; rw [hp] at this; exact this
    clear HU hu
    go_enter Tryz.func21, Tryz.ntmps21
    go_wp2_with fail
    refine hh.mono ?_
    rintro e w1 ⟨rfl, q1⟩
    clear hh
    have hus := drvUsable_any x hx false w1 (db.below q1 (Nat.le_refl _)) (h.below q1)
    rw [HU'.out] at hus
    go_wp2_with fail
    refine hus.mono ?_
    rintro e w2 ⟨rfl, q2⟩
    clear hus
    go_wp2_with fail
    go_ret
    exact ⟨rfl, btrans q1 q2⟩
  · rw [hp] at hh
    have HU' : Hid (S.use G x (decide (len = G.R)) = u) := by have := HU.out; rw [hp] at this; exact this
    clear HU hu
    have hf := fun w1 (q1 : Below w.heap.size w w1) => drvFills_any a len cap hlen w1 (db.below q1 (Nat.le_refl _)) (h.below q1).cell (h.below q1).lt
    generalize decide (len = G.R) = o at *
    go_enter Tryz.func21, Tryz.ntmps21
    go_wp2_with fail
    refine hh.mono ?_
    rintro e w1 ⟨rfl, q1⟩
    clear hh
    go_wp2_with fail
    refine (hf w1 q1).mono ?_
    rintro e w2 ⟨rfl, q2⟩
    clear hf
    have q3 := btrans q1 q2
    have hus := drvUsable_any x hx o w2 (db.below q3 (Nat.le_refl _)) (h.below q3)
    rw [HU'.out] at hus
    clear q1 q2
    go_wp2_with fail
    refine hus.mono ?_
    rintro e w4 ⟨rfl, q4⟩
    clear hus
    go_wp2_with fail
    go_ret
    exact ⟨rfl, btrans q3 q4⟩

set_option maxHeartbeats 1600000 in
/-- A Write that goes on to its block. -/
theorem drvWrite_yes (x y : Int) (hx : I64 x) (hy : I64 y) (a : Option Addr) (cap : Nat) (data : List Int) (w : World) (db : DBox w d B.c) (hd : ¬ F d) (h : ChipAt G B F N S w) (hr : Row .u8 w a G.R cap data) (hb : IsB data) (hN : N + 2 < 1000000) (hp : inB0 y G.p = true) (hu : S.use G x true = 0) :
    Calls Tryz.prog 21 #[.pointer (some ⟨d, 0, none⟩), .int .i64 x, .int .i64 y, .slice a G.R cap] w fun e w' => ∃ z, IsPack G.s G.n G.f G.m G.W data z ∧ e = .returned (.int .i64 (CS.after G (S.doProgram G x y z) x).1) ∧ Does G B F (N + 4) w (CS.after G (S.doProgram G x y z) x).2 w' := by
  have hh := drvHasPage_any y w db h.cell h.lt
  have hmf := Tryz.makeF8
  have hlen : G.R ≤ maxLen := Nat.le_trans hr.hcap hr.hmax
  have hf := fun w1 (q1 : Below w.heap.size w w1) => drvFills_any a G.R cap hlen w1 (db.below q1 (Nat.le_refl _)) (h.below q1).cell (h.below q1).lt
  rw [decide_eq_true rfl] at hf
  rw [hp] at hh
  clear hp hlen
  go_enter Tryz.func21, Tryz.ntmps21
  go_wp2_with fail
  refine hh.mono ?_
  rintro e w1 ⟨rfl, q1⟩
  clear hh
  go_wp2_with fail
  refine (hf w1 q1).mono ?_
  rintro e w2 ⟨rfl, q2⟩
  clear hf
  replace q1 := btrans q1 q2
  clear q2
  have hus := drvUsable_any x hx true w2 (db.below q1 (Nat.le_refl _)) (h.below q1)
  rw [hu] at hus
  go_wp2_with fail
  refine hus.mono ?_
  rintro e w3 ⟨rfl, q2⟩
  clear hus hu
  replace q1 := btrans q1 q2
  clear q2
  have hgm := drvGeometry_any w3 (db.below q1 (Nat.le_refl _)) (h.below q1).cell (h.below q1).lt
  go_wp2_with fail
  refine hgm.mono ?_
  rintro e w4 ⟨rfl, q2⟩
  clear hgm
  replace q1 := btrans q1 q2
  clear q2
  have hpk := eccPack_yes bitsC encC G.ok a cap data w4 (hr.below q1 (Nat.le_refl _)) hb
  go_wp2_with fail
  refine hpk.mono ?_
  rintro e w5 ⟨z, gr, hz, hgr, rfl, own, q2⟩
  clear hpk
  have hzl : z.length = G.L := by rw [hz.len, G.ok.hL]
  have hzb := hz.isB
  have hz4 : w.heap.size ≤ gr := by have := q1.size; omega
  replace q1 := btrans q1 q2
  have r5 : Row .u8 w5 (some ⟨gr, 0, none⟩) G.L G.L z := isB_rowA own
  clear own q2 hgr
  have db5 := db.below q1 (Nat.le_refl _)
  have h5 := h.below q1
  have hoff : 0 < G.L → ∀ q : Addr, some (⟨gr, 0, none⟩ : Addr) = some q → ¬ F q.block := fun _ q e hq => by
    cases e
    have := h.fresh gr hq
    omega
  have hdn := drvDone_any (G := G) (B := B) (F := F) (N := N + 2) (d := d) 54 (.agg #[.pointer (some ⟨B.c, 0, none⟩), .int .i64 y, .slice (some ⟨gr, 0, none⟩) G.L G.L]) x hx (S.doProgram G x y z) w5 db5 hd hN (fun _ _ => rfl) (sheet_any x y hx hy _ _ _ z w5 h5 r5 hoff hzb (by omega))
  have c0 := db5.c0
  have HZ : Hid (IsPack G.s G.n G.f G.m G.W data z) := hz
  have HQ : Hid (Below w.heap.size w w5) := q1
  clear hz hzl hzb hz4 r5 db5 h5 hoff q1 hr h
  go_wp2_with fail
  refine hdn.mono ?_
  rintro e w6 ⟨rfl, d2⟩
  clear c0 hdn hmf
  go_wp2_with fail
  go_ret
  exact ⟨z, HZ.out, rfl, Does.after (Turned.of_below F HQ.out) (fun _ hx => .inl hx) d2⟩

/-! ### Read -/
theorem drvRead_nil (x y : Int) (w : World) : Calls Tryz.prog 24 #[.pointer none, .int .i64 x, .int .i64 y] w fun e w' => e = .returned (.tuple #[.slice none 0 0, .int .i64 0, .int .i64 3]) ∧ Below w.heap.size w w' := by
  go_enter Tryz.func24, Tryz.ntmps24
  go_wp2_with fail
  refine (drvHasPage_nil y _).mono ?_
  rintro e w1 ⟨rfl, q1⟩
  go_wp2_with fail
  refine (drvUsable_nil x false _).mono ?_
  rintro e w2 ⟨rfl, rfl⟩
  go_wp2_with fail
  go_ret3
  exact ⟨rfl, q1⟩
theorem drvRead_no (x y : Int) (hx : I64 x) (w : World) (db : DBox w d B.c) (h : ChipAt G B F N S w) (u : Int) (hu : u ≠ 0) (HU : Hid (S.use G x (inB0 y G.p) = u)) :
    Calls Tryz.prog 24 #[.pointer (some ⟨d, 0, none⟩), .int .i64 x, .int .i64 y] w fun e w' => e = .returned (.tuple #[.slice none 0 0, .int .i64 0, .int .i64 u]) ∧ Below w.heap.size w w' := by
  have hh := drvHasPage_any y w db h.cell h.lt
  have hq : (u != 0) = true := by simp [hu]
  generalize inB0 y G.p = o at *
  clear hu
  go_enter Tryz.func24, Tryz.ntmps24
  go_wp2_with fail
  refine hh.mono ?_
  rintro e w1 ⟨rfl, q1⟩
  clear hh
  have hus := drvUsable_any x hx o w1 (db.below q1 (Nat.le_refl _)) (h.below q1)
  rw [HU.out] at hus
  go_wp2_with fail
  refine hus.mono ?_
  rintro e w2 ⟨rfl, q2⟩
  clear hus
  go_wp2_with fail
  go_ret3
  exact ⟨rfl, btrans q1 q2⟩
theorem ChipAt.pg_ok {x y : Int} {w : World} (h : ChipAt G B F N S w) : IsB (S.pg x y) ∧ (S.pg x y).length = G.L := by
  obtain ⟨m, _, hpp⟩ := h.pages
  obtain ⟨hzb, hzl, _⟩ := hpp x y
  exact ⟨hzb, hzl⟩
set_option maxHeartbeats 1600000 in
theorem drvRead_yes (x y : Int) (hx : I64 x) (hy : I64 y) (w : World) (db : DBox w d B.c) (h : ChipAt G B F N S w) (hp : inB0 y G.p = true) (hu : S.use G x true = 0) :
    Calls Tryz.prog 24 #[.pointer (some ⟨d, 0, none⟩), .int .i64 x, .int .i64 y] w fun e w' => ∃ X k er ao co, (IsRead G (readZ G.L (S.pg x y) (S.wr x y)) X k er ∧ IsB X ∧ (0 < X.length → ∀ q : Addr, ao = some q → w.heap.size ≤ q.block)) ∧ e = .returned (.tuple #[.slice ao X.length co, .int .i64 (k : Nat), .int .i64 er]) ∧ Row .u8 w' ao X.length co X ∧ Below w.heap.size w w' := by
  have hh := drvHasPage_any y w db h.cell h.lt
  obtain ⟨⟨hup, hib, _⟩, _⟩ := use_zero hu
  have hhp : hasP G x y = true := by unfold hasP; rw [hib, hp]; rfl
  rw [hp] at hh
  clear hp hib
  have hrd : ∀ w2, Below w.heap.size w w2 → _ := fun w2 q2 => chipRead_yes x y hx hy w2 (h.below q2) hup hhp
  have hzb := isB_readZ (L := G.L) (h.pg_ok (x := x) (y := y)).1 (S.wr x y)
  generalize readZ G.L (S.pg x y) (S.wr x y) = z at *
  go_enter Tryz.func24, Tryz.ntmps24
  go_wp2_with fail
  refine hh.mono ?_
  rintro e w1 ⟨rfl, q1⟩
  clear hh
  have hus := drvUsable_any x hx true w1 (db.below q1 (Nat.le_refl _)) (h.below q1)
  rw [hu] at hus
  go_wp2_with fail
  refine hus.mono ?_
  rintro e w2 ⟨rfl, q2⟩
  clear hus hu
  replace q1 := btrans q1 q2
  clear q2
  have c0 := (db.below q1 (Nat.le_refl _)).c0
  go_wp2_with fail
  refine (hrd _ q1).mono ?_
  rintro e w3 ⟨q, hq, rfl, rr, q2⟩
  clear hrd c0 hq hup hhp
  replace q1 := btrans q1 q2
  clear q2
  have hgm := drvGeometry_any w3 (db.below q1 (Nat.le_refl _)) (h.below q1).cell (h.below q1).lt
  go_wp2_with fail
  refine hgm.mono ?_
  rintro e w4 ⟨rfl, q2⟩
  clear hgm
  replace q1 := btrans q1 q2
  have hec := eccRead_is G _ _ z w4 (rr.below q2 (Nat.le_refl _)) hzb
  clear q2 rr
  go_wp2_with fail
  refine hec.mono ?_
  rintro e w5 ⟨X, k, er, ao, co, hX, rfl, rX, q2⟩
  clear hec
  have HX : Hid (IsRead G z X k er ∧ IsB X ∧ (0 < X.length → ∀ q : Addr, ao = some q → w.heap.size ≤ q.block)) := ⟨hX.1, hX.2.1, fun h0 q hq => Nat.le_trans q1.size (hX.2.2 h0 q hq)⟩
  clear hX
  generalize hln : X.length = ln at *
  have HLN : Hid (X.length = ln) := hln
  clear hln
  go_wp2_with fail
  go_ret3
  exact ⟨X, k, er, ao, co, by rw [HLN.out]; exact HX.out, by rw [HLN.out]; rfl, by rw [HLN.out]; exact rX, btrans q1 q2⟩
end
end Go.Proofs.YtggpgdaacbmmdaaGreat
