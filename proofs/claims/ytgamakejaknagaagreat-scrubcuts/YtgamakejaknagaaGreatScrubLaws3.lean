/-
  Layer 12's laws: the walk of ScrubCuts.
-/
import Derived.Test.YtgamakejaknagaaGreatScrubFill
import Derived.Test.YtgamakejaknagaaGreatScrubAwake
namespace Go.Proofs.YtgamakejaknagaaGreat
open Go.RowKit Go.Maps
set_option linter.unusedVariables false
set_option maxRecDepth 8192

/-- A store whose logical blocks have D's bytes; no block is marked or weak. -/
def CutI (W : World) (G : Geo) (B : CB) (D : Nat → List Int) (len N d s : Nat) (w : World) : Prop :=
  ∃ F S K M g st nu, LS W G B F N S K M (N : Int) d s g st nu w ∧ st.length = len ∧ Well S ∧ HasD D len len M
/-- Its chip alone, and a drive. -/
def CutC (W : World) (G : Geo) (B : CB) (D : Nat → List Int) (len N d : Nat) (o : Bool) (w : World) : Prop :=
  ∃ F S K M, CL W G B F N S K M (N : Int) w ∧ (DBox w d B.c ∧ ¬ F d) ∧ (Well S ∧ (o = true → S.up = true)) ∧ HasD D len len M
section
variable {W w w' : World} {G : Geo} {B : CB} {F F' : Nat → Prop} {N N' : Nat} {D : Nat → List Int} {len d s : Nat}
theorem CutI.bel (h : CutI W G B D len N d s w) : Below W.heap.size W w := by
  obtain ⟨F, S, K, M, g, st, nu, h, _⟩ := h
  exact h.bel
theorem CutI.below (h : CutI W G B D len N d s w) (q : Below w.heap.size w w') : CutI W G B D len N d s w' := by
  obtain ⟨F, S, K, M, g, st, nu, h, h1⟩ := h
  exact ⟨F, S, K, M, g, st, nu, h.below q, h1⟩
theorem Well.same {S S' : CS} (h : Well S) (hb : S'.bd = S.bd) (hw : S'.wk = S.wk) : Well S' := ⟨fun y => by rw [hb]; exact h.bd y, fun y => by rw [hw]; exact h.wk y⟩
theorem CutI.arm (h : CutI W G B D len N d s w) (x y : Int) (hx : I64 x) (hy : I64 y) :
    Calls Tryz.prog 18 #[.pointer (some ⟨B.c, 0, none⟩), .int .i64 x, .int .i64 y] w fun e w' => (∃ r, e = .returned r) ∧ CutI W G B D len N d s w' := by
  obtain ⟨F, S, K, M, g, st, nu, h, hl, hw, hd⟩ := h
  refine (h.arm2 x y hx hy).mono ?_
  rintro e w' ⟨hr, S', ⟨e1, e2, _⟩, h1, _⟩
  exact ⟨hr, F, S', K, M, g, st, nu, h1, hl, hw.same e1 e2, hd⟩
theorem CutC.arm {o : Bool} (h : CutC W G B D len N d o w) (x y : Int) (hx : I64 x) (hy : I64 y) :
    Calls Tryz.prog 18 #[.pointer (some ⟨B.c, 0, none⟩), .int .i64 x, .int .i64 y] w fun e w' => (∃ r, e = .returned r) ∧ CutC W G B D len N d false w' := by
  obtain ⟨F, S, K, M, h, ⟨db, fd⟩, ⟨hw, _⟩, hd⟩ := h
  refine (h.arm2 x y hx hy).mono ?_
  rintro e w' ⟨hr, S', ⟨e1, e2, _⟩, h1, t⟩
  exact ⟨hr, F, S', K, M, h1, ⟨db.turned t fd, fd⟩, ⟨hw.same e1 e2, fun e => by cases e⟩, hd⟩
theorem CutC.on {o : Bool} (h : CutC W G B D len N d o w) :
    Calls Tryz.prog 19 #[.pointer (some ⟨B.c, 0, none⟩)] w fun e w' => (∃ r, e = .returned r) ∧ CutC W G B D len N d true w' := by
  obtain ⟨F, S, K, M, h, ⟨db, fd⟩, ⟨hw, _⟩, hd⟩ := h
  refine (chipOn_any w h.chip).mono ?_
  rintro e w' ⟨hr, hc, t⟩
  exact ⟨hr, F, { S with up := true }, K, M, h.moved hc rfl rfl rfl t (fun _ h => .inl h), ⟨db.turned t fd, fd⟩, ⟨hw.same rfl rfl, fun _ => rfl⟩, hd⟩
theorem CutC.opened (h : CutC W G B D len N d true w) (h1 : 1 ≤ len) (hL : len ≤ 64) :
    Calls Tryz.prog 20 #[.pointer (some ⟨d, 0, none⟩), .int .i64 (len : Int)] w fun e w' => ∃ s, e = .returned (.tuple #[.pointer (some ⟨s, 0, none⟩), .int .i64 0]) ∧ CutI W G B D len N d s w' := by
  obtain ⟨F, S, K, M, h, ⟨db, fd⟩, ⟨hw, hu⟩, hd⟩ := h
  refine (h.opened (hu rfl) db fd len h1 hL hd.none).mono ?_
  rintro e w' ⟨s, g, st, nu, ⟨_, _, hl⟩, rfl, h2, _⟩
  exact ⟨s, rfl, F, S, K, M, g, st, nu, h2, hl, hw, hd⟩
theorem CutI.all (h : CutI W G B D len N d s w) (hlb : (len : Int) < G.b) (hb12 : G.b ≤ 12) (hN : N + 60000 < 100000000) :
    Calls Tryz.prog 16 #[.pointer (some ⟨s, 0, none⟩), .int .i64 1] w fun e w' => ∃ r a k cap, (r = 0 ∨ r = 70) ∧ e = .returned (.tuple #[.slice a k cap, .int .i64 r]) ∧ CutC W G B D len (N + 50000) d false w' := by
  obtain ⟨F, S, K, M, g, st, nu, h, hl, hw, hd⟩ := h
  refine (all_well h 1 (by omega) hw (by rw [hl]; exact hlb) hb12 hN (by omega)).mono ?_
  rintro e w' ⟨r, a, k, cap, rfl, ha⟩
  have hcl : ∀ {F1 S1 K1}, CL W G B F1 (N + 50000) S1 K1 M ((N : Int) + 70) w' → CL W G B F1 (N + 50000) S1 K1 M ((N + 50000 : Nat) : Int) w' := fun hc => ⟨hc.chip, hc.lim, hc.inv, hc.hold, fun y y0 y1 => by have := hc.le y y0 y1; omega, by have := hc.nn; omega, hc.low, hc.bel⟩
  cases ha with
  | ok F1 S1 K1 st1 nu1 hr row hl1 mv q => exact ⟨r, a, k, cap, .inl hr, rfl, F1, S1, K1, M, hcl hl1.cl, ⟨hl1.at_.db, hl1.at_.fd⟩, ⟨mv.well, fun e => by cases e⟩, hd⟩
  | down F1 S1 K1 hr hl1 hw1 db fd hah => exact ⟨r, a, k, cap, .inr hr, rfl, F1, S1, K1, M, hcl hl1, ⟨db, fd⟩, ⟨hw1, fun e => by cases e⟩, hd⟩
theorem CutI.has (h : CutI W G B D len N d s w) {a : Option Addr} {cap : Nat} (hr : SRow W a len cap D) :
    Calls Tryz.prog 17 #[.pointer (some ⟨s, 0, none⟩), .slice a len cap] w fun e w' => e = .returned (.bool true) ∧ CutI W G B D len N d s w' := by
  have hh := h
  obtain ⟨F, S, K, M, g, st, nu, h, hl, hw, hd⟩ := h
  refine (has12_any h (hr.below h.bel (Nat.le_refl _)) hl hd).mono ?_
  rintro e w' ⟨rfl, q⟩
  exact ⟨rfl, hh.below q⟩
end
set_option maxHeartbeats 3200000 in
set_option maxRecDepth 100000 in
theorem walk_scrubCuts (b p s n f : Int) (a : Option Addr) (len cap : Nat) (D : Nat → List Int) (a2 : Option Addr) (wl cap2 : Nat) (V : Nat → WrV) (a3 : Option Addr) (cl cap3 : Nat) (E : Nat → Int × Int) (w : World) (hr : SRow w a len cap D) (hv : WRow w a2 wl cap2 V) (he : CRow w a3 cl cap3 E) :
    Calls Tryz.prog 5 #[.agg #[.int .i64 b, .int .i64 p, .int .i64 s, .int .i64 n, .int .i64 f], .slice a len cap, .slice a2 wl cap2, .slice a3 cl cap3] w fun e w' => e = .returned (.bool true) ∧ Below w.heap.size w w' := by
  have hcp := hr.hcap
  have hmx := hr.hmax
  have hcp2 := hv.hcap
  have hmx2 := hv.hmax
  have hcp3 := he.hcap
  have hmx3 := he.hmax
  have hwm : wl ≤ maxLen := Nat.le_trans hcp2 hmx2
  unfold maxLen at hmx hmx2 hmx3
  have Q0 : Hid (Below w.heap.size w (w.alloc (.cells #[.int .i64 b, .int .i64 p, .int .i64 s, .int .i64 n, .int .i64 f] 23))) := below_one _ _
  have hgb := gbox_new w 23 b p s n f
  obtain ⟨_, c0, c1, c2, c3, c4⟩ := hgb
  have hgb := gbox_new w 23 b p s n f
  have hr0 := hr.below Q0.out (Nat.le_refl _)
  have hv0 := hv.below Q0.out (Nat.le_refl _)
  have he0 := he.below Q0.out (Nat.le_refl _)
  clear hr hv he
  go_enter Tryz.func5, Tryz.ntmps5
  go_wp2_with fail
  refine (may12_any b p s n f a len cap D a2 wl cap2 _ hr0 hwm).mono ?_
  rintro e w1 ⟨hm, q1⟩
  clear c0 c1 c2 c3 c4
  have Q1 : Hid (Below w.heap.size w w1) := btrans Q0.out q1
  cases hm with
  | no =>
    clear hr0 hv0 he0 hgb
    go_wp2_with fail
    go_ret
    exact ⟨rfl, Q1.out⟩
  | yes G eb ep es en ef hm =>
    subst eb ep es en ef
    by_cases hcl : (30 : Int) < (cl : Int)
    · clear hr0 hv0 he0 hgb
      go_wp2_with fail
      go_ret
      exact ⟨rfl, Q1.out⟩
    have hr1 := hr0.below q1 (Nat.le_refl _)
    have hv1 := hv0.below q1 (Nat.le_refl _)
    have HE : Hid _ := he0.below q1 (Nat.le_refl _)
    obtain ⟨_, c0, c1, c2, c3, c4⟩ := hgb.below q1 (Nat.le_refl _)
    clear hgb hr0 hv0 he0 q1 Q0
    have hfl := fill12_any G a len cap D a2 wl cap2 V w1 hr1 hv1 hm
    have HR : Hid _ := hr1
    clear hv1 hr1
    go_wp2_with fail
    refine hfl.mono ?_
    rintro e w2 ⟨cp, d, sp, rfl, B, rfl, h2⟩
    clear hfl c0 c1 c2 c3 c4
    have hb12 := hm.b12
    have hlb := hm.lb
    have hl1 := hm.l1
    have HI : Hid (CutI w1 G B D len 60000 d sp w2) := by
      obtain ⟨F, S, K, M, g, st, nu, h2, hl, ⟨hw, _⟩, hd⟩ := h2
      exact ⟨F, S, K, M, g, st, nu, h2, hl, hw, hd⟩
    clear h2 hm
    go_wp2_with fail
    go_loopw [11, 12] (fun u i wr => ∃ m sp : Nat, m ≤ cl ∧ u = .pointer (some ⟨sp, 0, none⟩) ∧ i = .int .i64 (m : Int) ∧ Hid (CutI w1 G B D len (60000 + 50000 * m) d sp wr)) (fun _ i _ => cl - (RowKit.intOf i).toNat)
    case atStart => exact ⟨0, sp, by omega, rfl, rfl, HI⟩
    case round =>
      clear HI
      obtain ⟨m, sp, hmc, rfl, rfl, HI⟩ := hrel
      by_cases hlt : m < cl
      · have hlt' : (m : Int) < (cl : Int) := by omega
        obtain ⟨cb, coff, rfl, hcb, hcc⟩ := HE.out.at_ (by omega)
        obtain ⟨⟨e0, e1⟩, I0, I1⟩ := hcc m hlt
        have HE0 : Hid (w1.cell? ⟨cb, coff + m * 2, none⟩ = some (.int .i64 (E m).1)) := e0
        have HE1 : Hid (w1.cell? ⟨cb, coff + m * 2 + 1, none⟩ = some (.int .i64 (E m).2)) := e1
        clear hcc e0 e1
        generalize (E m).1 = x0 at *
        generalize (E m).2 = x1 at *
        have harm := (HI.out.below (w' := wr.drew) ((Below.refl _ _).drew)).arm x0 x1 I0 I1
        have hc0 : wr.cell? ⟨cb, coff + m * 2, none⟩ = some (.int .i64 x0) := (HI.out.bel.cell (p := ⟨cb, coff + m * 2, none⟩) hcb).trans HE0.out
        have hc1 : wr.cell? ⟨cb, coff + m * 2 + 1, none⟩ = some (.int .i64 x1) := (HI.out.bel.cell (p := ⟨cb, coff + m * 2 + 1, none⟩) hcb).trans HE1.out
        have HCC : Hid (wr.drew.cell? ⟨cb, coff + m * 2, none⟩ = some (.int .i64 x0) ∧ wr.drew.cell? ⟨cb, coff + m * 2 + 1, none⟩ = some (.int .i64 x1)) := ⟨hc0, hc1⟩
        clear hc0 hc1 HI
        go_wp2_with fail
        refine heldA_open (fun w' => w'.cell? ⟨cb, coff + m * 2, none⟩ = some (.int .i64 x0) ∧ w'.cell? ⟨cb, coff + m * 2 + 1, none⟩ = some (.int .i64 x1)) (by kernel_rfl) ?_
        refine held_reads (rs := [0, 1, 2, 3, 4, 5, 6, 7, 8, 9, 10]) (fuel := 1) (by kernel_rfl) (fun c d v a w h => by cases d <;> exact h) (by kernel_rfl) HCC.out (fun K hK => ?_)
        refine calm_move _ rfl (by rfl) rfl ?_
        go_simp
        refine calm_move _ rfl (by rfl) rfl ?_
        go_simp
        refine calm_move _ rfl (by rfl) rfl ?_
        go_simp
        refine calm_do (.pointer (some ⟨cb, coff + m * 2, none⟩)) rfl (by rfl) (fun w' hw' => ?_) ?_
        · go_simp
        go_simp
        refine calm_do (.pointer (some ⟨cb, coff + m * 2, none⟩)) rfl (by rfl) (fun w' hw' => ?_) ?_
        · go_simp
        go_simp
        refine calm_do (.int .i64 x0) rfl (by rfl) (fun w' hw' => ?_) ?_
        · have z0 := hw'.1
          go_simp
        go_simp
        refine calm_move _ rfl (by rfl) rfl ?_
        go_simp
        refine calm_move _ rfl (by rfl) rfl ?_
        go_simp
        refine calm_do (.pointer (some ⟨cb, coff + m * 2, none⟩)) rfl (by rfl) (fun w' hw' => ?_) ?_
        · go_simp
        go_simp
        refine calm_do (.pointer (some ⟨cb, coff + m * 2 + 1, none⟩)) rfl (by rfl) (fun w' hw' => ?_) ?_
        · go_simp
        go_simp
        refine calm_do (.int .i64 x1) rfl (by rfl) (fun w' hw' => ?_) ?_
        · have z1 := hw'.2
          go_simp
        go_simp
        refine calm_nil (hK.out _ ?_)
        clear hK K HCC
        refine heldA_op (i := 11) (fuel := 0) (by kernel_rfl) rfl (by rfl) (fun K hK => ?_)
        go_simp
        refine harm.mono ?_
        rintro e w3 ⟨⟨r3, rfl⟩, h3⟩
        refine hK _ _ ⟨(h3.bel.cell (p := ⟨cb, coff + m * 2, none⟩) hcb).trans HE0.out, (h3.bel.cell (p := ⟨cb, coff + m * 2 + 1, none⟩) hcb).trans HE1.out⟩ ?_
        clear hK K harm
        refine wpAnyH_done (by kernel_rfl) ?_ _
        have hal := h3.all hlb hb12 (by omega)
        clear h3
        go_wp2_with fail
        refine hal.mono ?_
        rintro e w4 ⟨r4, a4, k4, cp4, hr4, rfl, h4⟩
        clear hal
        have har0 := h4.arm 0 0 (by unfold I64; omega) (by unfold I64; omega)
        clear h4
        rcases hr4 with rfl | rfl
        all_goals
          go_wp2_with fail
          refine har0.mono ?_
          rintro e w5 ⟨⟨r5, rfl⟩, h5⟩
          clear har0
          have hon := h5.on
          clear h5
          go_wp2_with fail
          refine hon.mono ?_
          rintro e w6 ⟨⟨r6, rfl⟩, h6⟩
          clear hon
          have hop := h6.opened hl1 (by omega)
          clear h6
          go_wp2_with fail
          refine hop.mono ?_
          rintro e w7 ⟨s7, rfl, h7⟩
          clear hop
          have hha := h7.has HR.out
          clear h7
          go_wp2_with fail
          refine hha.mono ?_
          rintro e w8 ⟨rfl, h8⟩
          clear hha
          have H8 : Hid (CutI w1 G B D len (60000 + 50000 * (m + 1)) d s7 w8) := by rw [show 60000 + 50000 * (m + 1) = 60000 + 50000 * m + 50000 by omega]; exact h8
          clear h8
          go_wp2_with fail
          go_roundw
          case rel => exact ⟨m + 1, s7, by omega, rfl, by go_num, H8⟩
          case measure => simp [RowKit.intOf]; omega
      · obtain rfl : m = cl := by omega
        have hge : ¬ (m : Int) < (m : Int) := by omega
        have HQ : Hid (Below w.heap.size w wr) := btrans Q1.out HI.out.bel
        clear HI
        go_wp2_with fail
        refine (awake12_any _).mono ?_
        rintro e w7 ⟨rfl, q7⟩
        have HQ7 : Hid (Below w.heap.size w w7) := btrans HQ.out q7
        clear q7
        go_wp2_with fail
        go_ret
        exact ⟨rfl, HQ7.out⟩
end Go.Proofs.YtgamakejaknagaaGreat
