/-
  The code of layer 7 (chip), as it landed: Erase, Program, Force, Weak, Geometry. (Written by tools/gen/chip_code6.py.)
-/
import Derived.Test.YtggpgdaacbmmdaaGreatChipCode5
namespace Go.Proofs.YtggpgdaacbmmdaaGreat
open Go.RowKit Go.Maps
set_option linter.unusedVariables false
set_option maxRecDepth 8192

section
variable {G : Geo} {B : CB} {F : Nat → Prop} {N : Nat} {S : CS}

theorem Geo.pn (G : Geo) : G.p = ((G.p.toNat : Nat) : Int) := by have := G.ok.hp; omega
theorem Geo.pb (G : Geo) : 2 ≤ G.p.toNat ∧ G.p.toNat ≤ 64 := by have := G.ok.hp; omega

/-! ### Erase -/
theorem chipErase_nil (x : Int) (w : World) : Calls Tryz.prog 64 #[.pointer none, .int .i64 x] w fun e w' => e = .returned (.int .i64 3) ∧ w = w' := by
  go_enter Tryz.func64, Tryz.ntmps64
  go_wp2_with fail
  refine (chipReadyFor_nil _ _).mono ?_
  rintro e w1 ⟨rfl, rfl⟩
  go_wp2_with fail
  go_ret
  exact ⟨rfl, rfl⟩
def CS.doErase (G : Geo) (S : CS) (x : Int) : Int × CS :=
  if S.up = false then (70, S) else if inB0 x G.b = false then (1, S) else if S.ah = 1 then (70, S.counted.wipe G.L x (keptN S.ke G.p.toNat)) else if S.wk x = true then (72, S.counted) else (0, (S.counted.wipe G.L x G.p.toNat).next0 x)

theorem chipErase_any (x : Int) (hx : I64 x) (w : World) (h : ChipAt G B F N S w) :
    Calls Tryz.prog 64 #[.pointer (some ⟨B.c, 0, none⟩), .int .i64 x] w fun e w' => e = .returned (.int .i64 (S.doErase G x).1) ∧ Does G B F (N) w (S.doErase G x).2 w' := by
  cases hu : S.up
  · have HR : Hid (S.doErase G x = (70, S)) := by show _ = _; unfold CS.doErase; rw [if_pos hu]
    rw [HR.out]
    clear HR
    go_enter Tryz.func64, Tryz.ntmps64
    go_wp2_with fail
    refine (chipReadyFor_down _ _ h.cell hu).mono ?_
    rintro e w1 ⟨rfl, rfl⟩
    go_wp2_with fail
    go_ret
    exact ⟨rfl, Does.of w h (Turned.refl _ _) (Nat.le_refl _)⟩
  cases hb : inB0 x G.b
  · have HR : Hid (S.doErase G x = (1, S)) := by show _ = _; unfold CS.doErase; rw [if_neg (by rw [hu]; simp), if_pos hb]
    rw [HR.out]
    clear HR
    go_enter Tryz.func64, Tryz.ntmps64
    go_wp2_with fail
    refine (chipReadyFor_no _ _ h.cell hu hb).mono ?_
    rintro e w1 ⟨rfl, rfl⟩
    go_wp2_with fail
    go_ret
    exact ⟨rfl, Does.of w h (Turned.refl _ _) (Nat.le_refl _)⟩
  have hci := S.counted_is h.ah.1
  have hke := hci.same.2.2.2.2.2.2
  have hwk := hci.same.2.2.2.1
  have hP := G.pn
  have hPb := G.pb
  by_cases hc : S.ah = 1
  · rw [decide_eq_true hc] at hci
    have HR : Hid (S.doErase G x = (70, S.counted.wipe G.L x (keptN S.ke G.p.toNat))) := by show _ = _; unfold CS.doErase; rw [if_neg (by rw [hu]; simp), if_neg (by rw [hb]; simp), if_pos hc]
    rw [HR.out]
    clear HR
    generalize S.counted = S1 at *
    generalize G.p.toNat = P at *
    have hkl : keptN S.ke P ≤ 1000 := by unfold keptN; omega
    obtain ⟨kk, hkd⟩ : ∃ kk, keptN S.ke P = kk := ⟨_, rfl⟩
    rw [hkd] at hkl ⊢
    go_enter Tryz.func64, Tryz.ntmps64
    go_wp2_with fail
    refine (chipReadyFor_yes _ _ h.cell hu hb).mono ?_
    rintro e w1 ⟨rfl, rfl⟩
    go_wp2_with fail
    refine (chipCut_any _ h hci).mono ?_
    rintro e w2 ⟨rfl, h2, t2⟩
    have c1 := h2.cell.cells.c1
    rw [hP] at c1
    have hkk := chipKept_any P w2 h2.cell (by omega)
    rw [hke, hkd] at hkk
    have hw := chipWipe_any x kk hx hkl w2 h2
    clear hP hkd
    go_wp2_with fail
    refine hkk.mono ?_
    rintro e w3 ⟨rfl, rfl⟩
    go_wp2_with fail
    refine hw.mono ?_
    rintro e w4 ⟨⟨r, rfl⟩, h4, t4⟩
    clear c1
    go_wp2_with fail
    go_ret
    exact ⟨rfl, Does.of w h4 (t2.trans t4) (Nat.le_refl _)⟩
  rw [decide_eq_false hc] at hci
  cases hw : S.wk x
  · have HR : Hid (S.doErase G x = (0, (S.counted.wipe G.L x G.p.toNat).next0 x)) := by show _ = _; unfold CS.doErase; rw [if_neg (by rw [hu]; simp), if_neg (by rw [hb]; simp), if_neg hc, if_neg (by rw [hw]; simp)]
    rw [HR.out]
    clear HR
    generalize S.counted = S1 at *
    generalize G.p.toNat = P at *
    go_enter Tryz.func64, Tryz.ntmps64
    go_wp2_with fail
    refine (chipReadyFor_yes _ _ h.cell hu hb).mono ?_
    rintro e w1 ⟨rfl, rfl⟩
    go_wp2_with fail
    refine (chipCut_any _ h hci).mono ?_
    rintro e w2 ⟨rfl, h2, t2⟩
    have c8 := h2.cell.cells.c8
    go_wp2_with fail
    refine (chipHas_any _ _ _ x _ h2.weak hx).mono ?_
    rw [hwk, hw]
    rintro e w3 ⟨rfl, q3⟩
    have h3 := h2.below q3
    have t3 := t2.trans (Turned.of_below F q3)
    clear c8 h2 t2 q3
    have c1 := h3.cell.cells.c1
    rw [hP] at c1
    have hww := chipWipe_any x P hx (by omega) w3 h3
    clear hP
    go_wp2_with fail
    refine hww.mono ?_
    rintro e w4 ⟨⟨r, rfl⟩, h4, t4⟩
    obtain ⟨m, hm, hn⟩ := h4.next
    obtain ⟨w5, hd, hm5, hg5⟩ := hm.drop intKeyed Tryz.underlying65 (int_key hx) 0
    have h5 := h4.del_next hn x hm5 hg5
    have T5 : Hid (Turned F w w5) := (t3.trans t4).grown hg5 (fun k e => by cases e; exact .inl (h4.inF _ (by simp [CB.all])))
    have H5 : Hid (ChipAt G B F N ((S1.wipe G.L x P).next0 x) w5) := h5
    have c6 := h4.cell.cells.c6
    clear c1 h5 hg5 hm5 hn hm h4 t4 h3 t3 h hww
    go_wp2_with fail
    go_ret
    exact ⟨rfl, Does.of w H5.out T5.out (Nat.le_refl _)⟩
  · have HR : Hid (S.doErase G x = (72, S.counted)) := by show _ = _; unfold CS.doErase; rw [if_neg (by rw [hu]; simp), if_neg (by rw [hb]; simp), if_neg hc, if_pos hw]
    rw [HR.out]
    clear HR
    generalize S.counted = S1 at *
    go_enter Tryz.func64, Tryz.ntmps64
    go_wp2_with fail
    refine (chipReadyFor_yes _ _ h.cell hu hb).mono ?_
    rintro e w1 ⟨rfl, rfl⟩
    go_wp2_with fail
    refine (chipCut_any _ h hci).mono ?_
    rintro e w2 ⟨rfl, h2, t2⟩
    have c8 := h2.cell.cells.c8
    go_wp2_with fail
    refine (chipHas_any _ _ _ x _ h2.weak hx).mono ?_
    rw [hwk, hw]
    rintro e w3 ⟨rfl, q3⟩
    clear c8
    go_wp2_with fail
    go_ret
    exact ⟨rfl, Does.of w (h2.below q3) (t2.trans (Turned.of_below F q3)) (Nat.le_refl _)⟩

/-! ### Program -/
theorem chipProgram_nil (x y : Int) (a : Option Addr) (len cap : Nat) (w : World) : Calls Tryz.prog 81 #[.pointer none, .int .i64 x, .int .i64 y, .slice a len cap] w fun e w' => e = .returned (.int .i64 3) ∧ w = w' := by
  go_enter Tryz.func81, Tryz.ntmps81
  go_wp2_with fail
  refine (chipReady_nil _).mono ?_
  rintro e w1 ⟨rfl, rfl⟩
  go_wp2_with fail
  go_ret
  exact ⟨rfl, rfl⟩
def CS.doProgram (G : Geo) (S : CS) (x y : Int) (z : List Int) : Int × CS :=
  if S.up = false then (70, S) else if fitsP G x y z.length = false then (1, S) else if y ≠ S.nx x then (71, S) else if S.ah = 1 then (70, S.counted.lay x y (padF G.L (z.take (keptN S.ke z.length))))
  else if S.wk x = true then (72, S.counted) else (0, S.counted.lay x y (padF G.L z))
theorem fitsP_yes {G : Geo} {x y : Int} {len : Nat} (h : fitsP G x y len = true) : ((0 ≤ x ∧ x < G.b) ∧ 0 ≤ y ∧ y < G.p) ∧ len = G.L := by
  unfold fitsP at h
  rw [Bool.and_eq_true] at h
  exact ⟨hasP_yes h.1, of_decide_eq_true h.2⟩
set_option maxHeartbeats 800000 in
theorem chipProgram_any (x y : Int) (hx : I64 x) (hy : I64 y) (a : Option Addr) (len cap : Nat) (z : List Int) (w : World) (h : ChipAt G B F N S w) (hr : Row .u8 w a len cap z) (hdis : 0 < len → ∀ x, a = some x → ¬ F x.block) (hz : IsB z) (hN : N < 1000000) :
    Calls Tryz.prog 81 #[.pointer (some ⟨B.c, 0, none⟩), .int .i64 x, .int .i64 y, .slice a len cap] w fun e w' => e = .returned (.int .i64 (S.doProgram G x y z).1) ∧ Does G B F (N + 2) w (S.doProgram G x y z).2 w' := by
  have hzl := hr.hlen
  have hlm : len ≤ maxLen := Nat.le_trans hr.hcap hr.hmax
  subst hzl
  cases hu : S.up
  · have HR : Hid (S.doProgram G x y z = (70, S)) := by show _ = _; unfold CS.doProgram; rw [if_pos hu]
    rw [HR.out]
    clear HR
    go_enter Tryz.func81, Tryz.ntmps81
    go_wp2_with fail
    refine (chipReady_any _ h.cell).mono ?_
    rw [hu]
    rintro e w1 ⟨rfl, rfl⟩
    go_wp2_with fail
    go_ret
    exact ⟨rfl, Does.of w h (Turned.refl _ _) (by omega)⟩
  cases hf : fitsP G x y z.length
  · have HR : Hid (S.doProgram G x y z = (1, S)) := by show _ = _; unfold CS.doProgram; rw [if_neg (by rw [hu]; simp), if_pos hf]
    rw [HR.out]
    clear HR
    go_enter Tryz.func81, Tryz.ntmps81
    go_wp2_with fail
    refine (chipReady_any _ h.cell).mono ?_
    rw [hu]
    rintro e w1 ⟨rfl, rfl⟩
    go_wp2_with fail
    refine (chipFits_any x y _ _ _ _ h.cell hlm h.lt).mono ?_
    rw [hf]
    rintro e w2 ⟨rfl, q2⟩
    replace hr := hr.below q2 (Nat.le_refl _)
    have t2 : Turned F w w2 := Turned.of_below F q2
    replace h := h.below q2
    go_wp2_with fail
    go_ret
    exact ⟨rfl, Does.of w h t2 (by omega)⟩
  obtain ⟨⟨_, hy0, hy1⟩, hzL⟩ := fitsP_yes hf
  have hy64 : 0 ≤ y ∧ y < 64 := ⟨hy0, by have := G.ok.hp; omega⟩
  have hLL := G.ok.L2
  have hzl2 : z.length ≤ 1000 := by omega
  have hz1 : 1 ≤ z.length := by omega
  have HZL : Hid (z.length = G.L) := hzL
  clear hzL
  by_cases ho : y = S.nx x
  case neg =>
    have HR : Hid (S.doProgram G x y z = (71, S)) := by show _ = _; unfold CS.doProgram; rw [if_neg (by rw [hu]; simp), if_neg (by rw [hf]; simp), if_pos ho]
    rw [HR.out]
    clear HR
    go_enter Tryz.func81, Tryz.ntmps81
    go_wp2_with fail
    refine (chipReady_any _ h.cell).mono ?_
    rw [hu]
    rintro e w1 ⟨rfl, rfl⟩
    go_wp2_with fail
    refine (chipFits_any x y _ _ _ _ h.cell hlm h.lt).mono ?_
    rw [hf]
    rintro e w2 ⟨rfl, q2⟩
    replace hr := hr.below q2 (Nat.le_refl _)
    have t2 : Turned F w w2 := Turned.of_below F q2
    replace h := h.below q2
    obtain ⟨mn, hmn, hnx⟩ := h.next
    have hlk := hmn.look intKeyed Tryz.underlying65 (Tryz.zeroValue3 _) (int_key hx)
    rw [(hnx x).1] at hlk
    clear hnx hmn mn
    have c6 := h.cell.cells.c6
    have H : Hid (ChipAt G B F N S w2) := h
    clear h
    have hbb : (y != S.nx x) = true := by simp [ho]
    generalize S.nx x = nx at *
    go_wp2_with fail
    go_ret
    exact ⟨rfl, Does.of w H.out t2 (by omega)⟩
  have HO : Hid (y = S.nx x) := ho
  clear ho
  have hci := S.counted_is h.ah.1
  have hke := hci.same.2.2.2.2.2.2
  have hwk := hci.same.2.2.2.1
  by_cases hc : S.ah = 1
  · rw [decide_eq_true hc] at hci
    have HR : Hid (S.doProgram G x y z = (70, S.counted.lay x y (padF G.L (z.take (keptN S.ke z.length))))) := by show _ = _; unfold CS.doProgram; rw [if_neg (by rw [hu]; simp), if_neg (by rw [hf]; simp), if_neg (fun hh => hh HO.out), if_pos hc]
    rw [HR.out]
    clear HR
    generalize S.counted = S1 at *
    have hkl : keptN S.ke z.length ≤ z.length := by unfold keptN; omega
    obtain ⟨kk, hkd⟩ : ∃ kk, keptN S.ke z.length = kk := ⟨_, rfl⟩
    rw [hkd] at hkl ⊢
    have HKD : Hid (keptN S.ke z.length = kk) := hkd
    clear hkd
    go_enter Tryz.func81, Tryz.ntmps81
    go_wp2_with fail
    refine (chipReady_any _ h.cell).mono ?_
    rw [hu]
    rintro e w1 ⟨rfl, rfl⟩
    go_wp2_with fail
    refine (chipFits_any x y _ _ _ _ h.cell hlm h.lt).mono ?_
    rw [hf]
    rintro e w2 ⟨rfl, q2⟩
    replace hr := hr.below q2 (Nat.le_refl _)
    have t2 : Turned F w w2 := Turned.of_below F q2
    replace h := h.below q2
    obtain ⟨mn, hmn, hnx⟩ := h.next
    have hlk := hmn.look intKeyed Tryz.underlying65 (Tryz.zeroValue3 _) (int_key hx)
    rw [(hnx x).1] at hlk
    clear hnx hmn mn
    have c6 := h.cell.cells.c6
    have hbb : (y != S.nx x) = false := by rw [← HO.out]; simp
    clear HO
    generalize S.nx x = nx at *
    go_wp2_with fail
    clear hlk c6 hbb
    refine (chipCut_any _ h hci).mono ?_
    rintro e w3 ⟨rfl, h3, t3⟩
    have hr3 := hr.turned t3 hdis
    replace t3 := t2.trans t3
    have hkk := chipKept_any z.length w3 h3.cell (by omega)
    rw [hke, HKD.out] at hkk
    clear h t2
    have hlay : ∀ c, Row .u8 w3 c kk cap (z.take kk) → Calls Tryz.prog 72 #[.pointer (some ⟨B.c, 0, none⟩), spotV x y, .slice c kk cap] w3 fun e w' => (∃ r, e = .returned r) ∧ Does G B F (N + 2) w3 (S1.lay x y (padF G.L (z.take kk))) w' :=
      fun c hc => chipLay_any x y hx hy64 c kk cap (z.take kk) w3 h3 hc (fun v hv => hz v (List.mem_of_mem_take hv)) (by have := HZL.out; omega) hN
    have hcap := hr3.hcap
    have hmaxc := hr3.hmax
    have hkI : (kk : Int) ≤ (cap : Int) := by omega
    obtain ⟨bb, off, rfl⟩ : ∃ bb off, a = some ⟨bb, off, none⟩ := by obtain ⟨bb, off, e, _⟩ := hr3.hcell (by omega); exact ⟨bb, off, e⟩
    replace hlay := hlay _ (row_front hr3 hkl)
    clear hr3 hr hdis
    generalize z.length = len at *
    unfold maxLen at hmaxc hlm
    go_wp2_with fail
    refine hkk.mono ?_
    rintro e w4 ⟨rfl, rfl⟩
    go_wp2_with fail
    refine hlay.mono ?_
    rintro e w5 ⟨⟨r, rfl⟩, d5⟩
    go_wp2_with fail
    go_ret
    exact ⟨rfl, Does.after t3 (fun _ h => .inl h) d5⟩
  rw [decide_eq_false hc] at hci
  cases hw : S.wk x
  · have HR : Hid (S.doProgram G x y z = (0, S.counted.lay x y (padF G.L z))) := by show _ = _; unfold CS.doProgram; rw [if_neg (by rw [hu]; simp), if_neg (by rw [hf]; simp), if_neg (fun hh => hh HO.out), if_neg hc, if_neg (by rw [hw]; simp)]
    rw [HR.out]
    clear HR
    generalize S.counted = S1 at *
    go_enter Tryz.func81, Tryz.ntmps81
    go_wp2_with fail
    refine (chipReady_any _ h.cell).mono ?_
    rw [hu]
    rintro e w1 ⟨rfl, rfl⟩
    go_wp2_with fail
    refine (chipFits_any x y _ _ _ _ h.cell hlm h.lt).mono ?_
    rw [hf]
    rintro e w2 ⟨rfl, q2⟩
    replace hr := hr.below q2 (Nat.le_refl _)
    have t2 : Turned F w w2 := Turned.of_below F q2
    replace h := h.below q2
    obtain ⟨mn, hmn, hnx⟩ := h.next
    have hlk := hmn.look intKeyed Tryz.underlying65 (Tryz.zeroValue3 _) (int_key hx)
    rw [(hnx x).1] at hlk
    clear hnx hmn mn
    have c6 := h.cell.cells.c6
    have hbb : (y != S.nx x) = false := by rw [← HO.out]; simp
    clear HO
    generalize S.nx x = nx at *
    go_wp2_with fail
    clear hlk c6 hbb
    refine (chipCut_any _ h hci).mono ?_
    rintro e w3 ⟨rfl, h3, t3⟩
    have hr3 := hr.turned t3 hdis
    replace t3 := t2.trans t3
    have c8 := h3.cell.cells.c8
    go_wp2_with fail
    refine (chipHas_any _ _ _ x _ h3.weak hx).mono ?_
    rw [hwk, hw]
    rintro e w4 ⟨rfl, q4⟩
    have h4 := h3.below q4
    have t4 := t3.trans (Turned.of_below F q4)
    have hr4 := hr3.below q4 (Nat.le_refl _)
    clear c8 h3 t3 q4 hr3
    have hlay := chipLay_any x y hx hy64 a z.length cap z w4 h4 hr4 hz (by have := HZL.out; omega) hN
    clear hr4 hr h h4
    go_wp2_with fail
    refine hlay.mono ?_
    rintro e w5 ⟨⟨r, rfl⟩, d5⟩
    go_wp2_with fail
    go_ret
    exact ⟨rfl, Does.after t4 (fun _ h => .inl h) d5⟩
  · have HR : Hid (S.doProgram G x y z = (72, S.counted)) := by show _ = _; unfold CS.doProgram; rw [if_neg (by rw [hu]; simp), if_neg (by rw [hf]; simp), if_neg (fun hh => hh HO.out), if_neg hc, if_pos hw]
    rw [HR.out]
    clear HR
    generalize S.counted = S1 at *
    go_enter Tryz.func81, Tryz.ntmps81
    go_wp2_with fail
    refine (chipReady_any _ h.cell).mono ?_
    rw [hu]
    rintro e w1 ⟨rfl, rfl⟩
    go_wp2_with fail
    refine (chipFits_any x y _ _ _ _ h.cell hlm h.lt).mono ?_
    rw [hf]
    rintro e w2 ⟨rfl, q2⟩
    replace hr := hr.below q2 (Nat.le_refl _)
    have t2 : Turned F w w2 := Turned.of_below F q2
    replace h := h.below q2
    obtain ⟨mn, hmn, hnx⟩ := h.next
    have hlk := hmn.look intKeyed Tryz.underlying65 (Tryz.zeroValue3 _) (int_key hx)
    rw [(hnx x).1] at hlk
    clear hnx hmn mn
    have c6 := h.cell.cells.c6
    have hbb : (y != S.nx x) = false := by rw [← HO.out]; simp
    clear HO
    generalize S.nx x = nx at *
    go_wp2_with fail
    clear hlk c6 hbb
    refine (chipCut_any _ h hci).mono ?_
    rintro e w3 ⟨rfl, h3, t3⟩
    have hr3 := hr.turned t3 hdis
    replace t3 := t2.trans t3
    have c8 := h3.cell.cells.c8
    go_wp2_with fail
    refine (chipHas_any _ _ _ x _ h3.weak hx).mono ?_
    rw [hwk, hw]
    rintro e w4 ⟨rfl, q4⟩
    have h4 := h3.below q4
    have t4 := t3.trans (Turned.of_below F q4)
    have hr4 := hr3.below q4 (Nat.le_refl _)
    clear c8 h3 t3 q4 hr3
    go_wp2_with fail
    go_ret
    exact ⟨rfl, Does.of w h4 t4 (by omega)⟩

/-! ### Force -/
theorem chipForce_nil (x y : Int) (a : Option Addr) (len cap : Nat) (w : World) : Calls Tryz.prog 42 #[.pointer none, .int .i64 x, .int .i64 y, .slice a len cap] w fun e w' => e = .returned (.int .i64 3) ∧ w = w' := by
  go_enter Tryz.func42, Tryz.ntmps42
  go_wp2_with fail
  go_ret
  exact ⟨rfl, rfl⟩
def CS.doForce (G : Geo) (S : CS) (x y : Int) (z : List Int) : Int × CS :=
  if fitsP G x y z.length = false then (1, S) else (0, (S.lay x y (padF G.L z)).right x y)
set_option maxHeartbeats 800000 in
theorem chipForce_any (x y : Int) (hx : I64 x) (hy : I64 y) (a : Option Addr) (len cap : Nat) (z : List Int) (w : World) (h : ChipAt G B F N S w) (hr : Row .u8 w a len cap z) (hdis : 0 < len → ∀ x, a = some x → ¬ F x.block) (hz : IsB z) (hN : N < 1000000) :
    Calls Tryz.prog 42 #[.pointer (some ⟨B.c, 0, none⟩), .int .i64 x, .int .i64 y, .slice a len cap] w fun e w' => e = .returned (.int .i64 (S.doForce G x y z).1) ∧ Does G B F (N + 2) w (S.doForce G x y z).2 w' := by
  have hzl := hr.hlen
  have hlm : len ≤ maxLen := Nat.le_trans hr.hcap hr.hmax
  subst hzl
  cases hf : fitsP G x y z.length
  · have HR : Hid (S.doForce G x y z = (1, S)) := by show _ = _; unfold CS.doForce; rw [if_pos hf]
    rw [HR.out]
    clear HR
    go_enter Tryz.func42, Tryz.ntmps42
    go_wp2_with fail
    refine (chipFits_any x y _ _ _ _ h.cell hlm h.lt).mono ?_
    rw [hf]
    rintro e w2 ⟨rfl, q2⟩
    replace hr := hr.below q2 (Nat.le_refl _)
    have t2 : Turned F w w2 := Turned.of_below F q2
    replace h := h.below q2
    go_wp2_with fail
    go_ret
    exact ⟨rfl, Does.of w h t2 (by omega)⟩
  obtain ⟨⟨_, hy0, hy1⟩, hzL⟩ := fitsP_yes hf
  have hy64 : 0 ≤ y ∧ y < 64 := ⟨hy0, by have := G.ok.hp; omega⟩
  have hLL := G.ok.L2
  have hzl2 : z.length ≤ 1000 := by omega
  have hz1 : 1 ≤ z.length := by omega
  have HZL : Hid (z.length = G.L) := hzL
  clear hzL
  have HR : Hid (S.doForce G x y z = (0, (S.lay x y (padF G.L z)).right x y)) := by show _ = _; unfold CS.doForce; rw [if_neg (by rw [hf]; simp)]
  rw [HR.out]
  clear HR
  go_enter Tryz.func42, Tryz.ntmps42
  go_wp2_with fail
  refine (chipFits_any x y _ _ _ _ h.cell hlm h.lt).mono ?_
  rw [hf]
  rintro e w2 ⟨rfl, q2⟩
  replace hr := hr.below q2 (Nat.le_refl _)
  have t2 : Turned F w w2 := Turned.of_below F q2
  replace h := h.below q2
  have q3 := below_one w2 (.cells #[.int .i64 x, .int .i64 y] 100)
  have bx := spotBox_new w2 x y
  replace hr := hr.below q3 (Nat.le_refl _)
  have HF2 : Hid (∀ k, F k → k < w2.heap.size) := h.fresh
  replace h := h.below q3
  have t3 := t2.trans (Turned.of_below F q3)
  clear t2 q3
  generalize hw3 : w2.alloc (.cells #[.int .i64 x, .int .i64 y] 100) = w3 at *
  have hlay := chipLay_any x y hx hy64 a z.length cap z w3 h hr hz (by have := HZL.out; omega) hN
  have b0 := bx.c0
  have b1 := bx.c1
  have HB : Hid (SpotBox w3 w2.heap.size x y) := bx
  clear hr h bx
  go_wp2_with fail
  generalize hg : w2.heap.size = g at *
  clear hw3
  refine hlay.mono ?_
  rintro e w4 ⟨⟨r, rfl⟩, F4, h4, t4, f4⟩
  have hgF : ¬ F g := fun hh => by have := HF2.out g hh; omega
  have bx4 := HB.out.same t4.size (t4.block g HB.out.lt hgF)
  obtain ⟨kl, hk⟩ := spot_key (p := y) hx hy
  obtain ⟨m, hm, hp⟩ := h4.wrong
  obtain ⟨w5, hd, hm5, hg5⟩ := MapIs.drop (w := w4.drew) (hm.same rfl) spotKeyed Tryz.underlying68 hk 0
  have h5 := h4.drew.del_wrong (w' := w5) (fun b p => (hp b p).same (fun _ _ _ => rfl)) x y hm5 hg5
  have hmr := h4.inF B.mr (by simp [CB.all])
  have D5 : Hid (Does G B F (N + 2) w ((S.lay x y (padF G.L z)).right x y) w5) := Does.after t3 (fun _ h => .inl h) ⟨F4, h5, t4.drew.grown hg5 (fun k e => by cases e; exact f4 _ hmr), f4⟩
  have c9 := h4.cell.cells.c9
  have d0 := bx4.c0
  have d1 := bx4.c1
  clear b0 b1 h5 hg5 hm5 hp hm h4 t4 f4 hmr bx4 hgF HB HF2 t3 hlay
  go_wp2_with fail
  go_region
  go_wp2_with fail
  go_ret
  exact ⟨rfl, D5.out⟩
end
end Go.Proofs.YtggpgdaacbmmdaaGreat
