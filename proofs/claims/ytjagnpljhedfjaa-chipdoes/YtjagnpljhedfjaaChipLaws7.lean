/-
  A walk of layer 7's law ChipDoes. (Written by tools/gen/chip_law_does.py.)
-/
import Derived.Test.YtjagnpljhedfjaaChipStep
namespace Go.Proofs.Ytjagnpljhedfjaa
open Go.RowKit Go.Maps
set_option linter.unusedVariables false
set_option maxRecDepth 8192

theorem ref7New_yes (G : Geo) (a : Option Addr) (len cap : Nat) (ps : List Int) (w : World) (hr : Row .i64 w a len cap ps) (hlen : len ≤ 100000) (hin : ∀ x ∈ ps, inB0 x G.b = true) :
    Calls Try.prog 12 #[.agg #[.int .i64 G.b, .int .i64 G.p, .int .i64 G.s, .int .i64 G.n, .int .i64 G.f], .slice a len cap] w fun e w' => ∃ R F, e = .returned (.tuple #[.pointer (some ⟨R.c, 0, none⟩), .bool true]) ∧ RefAt G R F (CS.fresh G.L ps ps.length) w' ∧ (∀ x, F x → w.heap.size ≤ x) ∧ Below w.heap.size w w' := by
  refine (ref7New_any G a len cap ps w hr hlen).mono ?_
  rintro e w' (⟨_, h⟩ | ⟨⟨x, hx, h⟩, _⟩)
  · exact h
  · rw [hin x hx] at h; cases h
theorem ref7New_bad (G : Geo) (a : Option Addr) (len cap : Nat) (ps : List Int) (w : World) (hr : Row .i64 w a len cap ps) (hlen : len ≤ 100000) {x : Int} (hx : x ∈ ps) (hin : inB0 x G.b = false) :
    Calls Try.prog 12 #[.agg #[.int .i64 G.b, .int .i64 G.p, .int .i64 G.s, .int .i64 G.n, .int .i64 G.f], .slice a len cap] w fun e w' => e = .returned (.tuple #[.pointer none, .bool false]) ∧ Below w.heap.size w w' := by
  refine (ref7New_any G a len cap ps w hr hlen).mono ?_
  rintro e w' (⟨h, _⟩ | ⟨_, h⟩)
  · rw [h x hx] at hin; cases hin
  · exact h
set_option maxHeartbeats 12800000 in
set_option maxRecDepth 100000 in
theorem walk_chipDoes (b p s n f : Int) (ba : Option Addr) (bl bc : Nat) (bz : List Int) (sa : Option Addr) (sl sc : Nat) (ops : Nat → OpV) (w : World) (hbad : Row .i64 w ba bl bc bz) (hbw : ∀ n ∈ bz, (Lit.int .i64 n).wf = true) (hsc : ScriptAt w sa sl sc ops) :
    Calls Try.prog 3 #[.agg #[.int .i64 b, .int .i64 p, .int .i64 s, .int .i64 n, .int .i64 f], .slice ba bl bc, .slice sa sl sc] w fun e w' => e = .returned (.bool true) ∧ Below w.heap.size w w' := by
  have hbm : bl ≤ maxLen := Nat.le_trans hbad.hcap hbad.hmax
  unfold maxLen at hbm
  cases hsm : small7 b p s n f
  · go_enter Try.func3, Try.ntmps3
    go_wp2_with fail
    refine (small7_any b p s n f _).mono ?_
    rintro e w1 ⟨rfl, q1⟩
    rw [hsm]
    go_wp2_with fail
    go_ret
    exact ⟨rfl, btrans (below_one _ _) q1⟩
  by_cases h60 : 60 < bl
  · have h60' : (60 : Int) < (bl : Int) := by omega
    go_enter Try.func3, Try.ntmps3
    go_wp2_with fail
    refine (small7_any b p s n f _).mono ?_
    rintro e w1 ⟨rfl, q1⟩
    rw [hsm]
    go_wp2_with fail
    go_ret
    exact ⟨rfl, btrans (below_one _ _) q1⟩
  have h60' : ¬ (60 : Int) < (bl : Int) := by omega
  cases hfew : fewB sl ops
  · go_enter Try.func3, Try.ntmps3
    go_wp2_with fail
    refine (small7_any b p s n f _).mono ?_
    rintro e w1 ⟨rfl, q1⟩
    rw [hsm]
    go_wp2_with fail
    refine (few_any _ _ _ ops _ (hsc.below (btrans (below_one _ _) q1) (Nat.le_refl _))).mono ?_
    rw [hfew]
    rintro e w2 ⟨rfl, rfl⟩
    go_wp2_with fail
    go_ret
    exact ⟨rfl, btrans (below_one _ _) q1⟩
  cases hmy : mayG b p s n f
  · go_enter Try.func3, Try.ntmps3
    go_wp2_with fail
    refine (small7_any b p s n f _).mono ?_
    rintro e w1 ⟨rfl, q1⟩
    rw [hsm]
    go_wp2_with fail
    refine (few_any _ _ _ ops _ (hsc.below (btrans (below_one _ _) q1) (Nat.le_refl _))).mono ?_
    rw [hfew]
    rintro e w2 ⟨rfl, rfl⟩
    have gb := (gbox_new w 23 b p s n f).below q1 (Nat.le_refl _)
    obtain ⟨_, c0, c1, c2, c3, c4⟩ := id gb
    go_wp2_with fail
    clear c0 c1 c2 c3 c4
    refine (chipNew_no b p s n f _ _ _ _ hmy).mono ?_
    rintro e w3 ⟨rfl, q3⟩
    obtain ⟨_, c0, c1, c2, c3, c4⟩ := gb.below q3 (Nat.le_refl _)
    go_wp2_with fail
    clear c0 c1 c2 c3 c4
    refine (ref7New_no b p s n f _ _ _ _ hmy).mono ?_
    rintro e w4 ⟨rfl, q4⟩
    go_wp2_with fail
    refine (awake7_any _).mono ?_
    rintro e w5 ⟨rfl, q5⟩
    go_wp2_with fail
    go_ret
    exact ⟨rfl, btrans (btrans (btrans (btrans (below_one _ _) q1) q3) q4) q5⟩
  obtain ⟨G, rfl, rfl, rfl, rfl, rfl, hb16, hp8⟩ := geo_ex hsm hmy
  have HSM : Hid (small7 G.b G.p G.s G.n G.f = true) := hsm
  clear hsm hmy
  have hbb := G.ok.hb
  have hpp := G.ok.hp
  by_cases hall : ∀ x ∈ bz, inB0 x G.b = true
  case neg =>
    obtain ⟨x, hx, hxb⟩ : ∃ x ∈ bz, inB0 x G.b = false := by
      by_cases hh : ∃ x ∈ bz, inB0 x G.b = false
      · exact hh
      · exact absurd (fun x hx => by cases h : inB0 x G.b; · exact absurd ⟨x, hx, h⟩ hh
                                     · rfl) hall
    go_enter Try.func3, Try.ntmps3
    go_wp2_with fail
    refine (small7_any G.b G.p G.s G.n G.f _).mono ?_
    rintro e w1 ⟨rfl, q1⟩
    rw [HSM.out]
    go_wp2_with fail
    refine (few_any _ _ _ ops _ (hsc.below (btrans (below_one _ _) q1) (Nat.le_refl _))).mono ?_
    rw [hfew]
    rintro e w2 ⟨rfl, rfl⟩
    have gb := (gbox_new w 23 G.b G.p G.s G.n G.f).below q1 (Nat.le_refl _)
    have hbad1 := hbad.below (btrans (below_one _ _) q1) (Nat.le_refl _)
    obtain ⟨_, c0, c1, c2, c3, c4⟩ := id gb
    go_wp2_with fail
    clear c0 c1 c2 c3 c4
    refine (chipNew_bad G _ _ _ bz _ hbad1 hbw (by omega) hx hxb).mono ?_
    rintro e w3 ⟨rfl, q3⟩
    obtain ⟨_, c0, c1, c2, c3, c4⟩ := gb.below q3 (Nat.le_refl _)
    go_wp2_with fail
    clear c0 c1 c2 c3 c4
    refine (ref7New_bad G _ _ _ bz _ (hbad1.below q3 (Nat.le_refl _)) (by omega) hx hxb).mono ?_
    rintro e w4 ⟨rfl, q4⟩
    go_wp2_with fail
    refine (awake7_any _).mono ?_
    rintro e w5 ⟨rfl, q5⟩
    go_wp2_with fail
    go_ret
    exact ⟨rfl, btrans (btrans (btrans (btrans (below_one _ _) q1) q3) q4) q5⟩
  have hfw : sl ≤ 200 ∧ ∀ i, i < sl → (ops i).rl ≤ 200 ∧ (ops i).pl ≤ 60 := by unfold fewB at hfew; exact of_decide_eq_true hfew
  have hsl : sl ≤ 200 := hfw.1
  have HFW : Hid (∀ i, i < sl → (ops i).rl ≤ 200 ∧ (ops i).pl ≤ 60) := hfw.2
  clear hfw
  go_enter Try.func3, Try.ntmps3
  go_wp2_with fail
  have q0 := below_one w (.cells #[.int .i64 G.b, .int .i64 G.p, .int .i64 G.s, .int .i64 G.n, .int .i64 G.f] 23)
  have gb := gbox_new w 23 G.b G.p G.s G.n G.f
  have HQ0 : Hid (Below w.heap.size w (w.alloc (.cells #[.int .i64 G.b, .int .i64 G.p, .int .i64 G.s, .int .i64 G.n, .int .i64 G.f] 23))) := q0
  have hsc0 := hsc.below q0 (Nat.le_refl _)
  have hbad0 := hbad.below q0 (Nat.le_refl _)
  clear q0 hsc hbad
  generalize hg0 : w.heap.size = g at gb ⊢
  have HG0 : Hid (w.heap.size = g) := hg0
  clear hg0
  generalize w.alloc (.cells #[.int .i64 G.b, .int .i64 G.p, .int .i64 G.s, .int .i64 G.n, .int .i64 G.f] 23) = W at *
  refine (small7_any _ _ _ _ _ _).mono ?_
  rintro e w1 ⟨rfl, q1⟩
  rw [HSM.out]
  go_wp2_with fail
  refine (few_any _ _ _ ops _ (hsc0.below q1 (Nat.le_refl _))).mono ?_
  rw [hfew]
  rintro e w2 ⟨rfl, rfl⟩
  obtain ⟨_, c0, c1, c2, c3, c4⟩ := gb.below q1 (Nat.le_refl _)
  go_wp2_with fail
  clear c0 c1 c2 c3 c4
  refine (chipNew_yes G _ _ _ bz _ (hbad0.below q1 (Nat.le_refl _)) hbw (by omega) hall).mono ?_
  rintro e w3 ⟨c, rfl, hnew⟩
  obtain ⟨B, FC, rfl, h3⟩ := newChip_here q1 hnew
  clear q1 hnew hbw
  obtain ⟨_, c0, c1, c2, c3, c4⟩ := gb.below h3.bel (Nat.le_refl _)
  go_wp2_with fail
  clear c0 c1 c2 c3 c4
  refine (ref7New_yes G _ _ _ bz _ (hbad0.below h3.bel (Nat.le_refl _)) (by omega) hall).mono ?_
  rintro e w4 ⟨R, FR, rfl, hR, hFR, q4⟩
  have h4 : Both W G B FC (60 + 2 * 0) R FR (CS.fresh G.L bz bz.length) (CS.fresh G.L bz bz.length) w4 :=
    ⟨(h3.chip.below q4).mono (by omega), hR, fun x hx hr => by have := h3.chip.fresh x hx; have := hFR x hr; omega, fun x hx => hx.elim (h3.low x) (fun hr => Nat.le_trans h3.bel.size (hFR x hr)), btrans h3.bel q4, inb_fresh hall _ _⟩
  clear h3 hR hFR q4 hbad0 hall
  generalize CS.fresh G.L bz bz.length = S0 at *
  go_wp2_with fail
  refine (same7_any h4).mono ?_
  rintro e w5 ⟨rfl, q5⟩
  have H0 : Hid (∃ FC FR S, Both W G B FC (60 + 2 * 0) R FR S S w5) := ⟨_, _, _, h4.below q5⟩
  clear h4 q5
  go_wp2_with fail
  go_loopw [11] (fun x11 wr => ∃ i : Nat, i ≤ sl ∧ x11 = .int .i64 (i : Int) ∧ Hid (∃ FC FR S, Both W G B FC (60 + 2 * i) R FR S S wr)) (fun x11 _ => sl - (RowKit.intOf x11).toNat)
  case atStart => exact ⟨0, Nat.zero_le _, rfl, H0⟩
  case round =>
    clear H0
    obtain ⟨i, hi, rfl, HI⟩ := hrel
    obtain ⟨FC1, FR1, S1, h1⟩ := HI.out
    clear HI
    by_cases hlt : i < sl
    · have hlt' : (i : Int) < (sl : Int) := by omega
      have hscr := hsc0.below h1.bel (Nat.le_refl _)
      obtain ⟨sb, so, rfl, hsb, hcs⟩ := hscr.cells i hlt
      obtain ⟨s0, s1, s2, s3, s4, s5⟩ := hcs
      have hok := hsc0.ok i hlt
      obtain ⟨hrl, hpl⟩ := HFW.out i hlt
      clear hscr
      generalize ops i = o at *
      go_wp2_with fail
      clear s0 s1 s2 s3 s4 s5
      refine (step7_any h1 o hok hrl hpl (by omega)).mono ?_
      rintro e w6 ⟨rfl, FC6, FR6, S6, h6⟩
      clear h1
      go_wp2_with fail
      refine (same7_any h6).mono ?_
      rintro e w7 ⟨rfl, q7⟩
      have HR : Hid (∃ FC FR S, Both W G B FC (60 + 2 * (i + 1)) R FR S S w7) := ⟨_, _, _, h6.below q7⟩
      clear h6 q7
      go_wp2_with fail
      go_roundw
      case rel => exact ⟨i + 1, by omega, by go_num, HR⟩
      case measure => simp [RowKit.intOf]; omega
    · have hge : ¬ (i : Int) < (sl : Int) := by omega
      go_wp2_with fail
      refine (chipOn_any _ h1.chip).mono ?_
      rintro e w6 ⟨⟨r6, rfl⟩, hc6, t6⟩
      have h6 := h1.turnedC hc6 t6 (h1.inb.same rfl)
      clear h1 hc6 t6
      have c7 := h6.ref.cell.cells.c7
      have f7 := h6.ref.cell.cells.fr 7
      have t7 : Turned FR1 w6 (w6.setCell ⟨R.c, 7, none⟩ (.bool true)) := (Turned.refl FR1 w6).setCell (p := ⟨R.c, 7, none⟩) (.inl (h6.ref.inF R.c (.inl rfl))) _
      have h7 := h6.turnedR (h6.ref.set_up true) t7
      clear h6 t7
      have hup : ({ S1 with up := true } : CS).up = true := rfl
      generalize S1.up = old at c7
      generalize ({ S1 with up := true } : CS) = S7 at *
      have gb7 := gb.below h7.bel (Nat.le_refl _)
      go_wp2_with fail
      clear c7 f7
      generalize w6.setCell ⟨R.c, 7, none⟩ (.bool true) = w7 at *
      have HG : Hid (∀ w', Since w7 w' → w'.cell? ⟨g, 0, none⟩ = some (.int .i64 G.b) ∧ w'.cell? ⟨g, 1, none⟩ = some (.int .i64 G.p)) := fun w' hw' => by
        obtain ⟨_, d0, d1, _⟩ := gb7.below hw' (Nat.le_refl _)
        exact ⟨d0, d1⟩
      have HH : Hid (∀ w', Since w7 w' → Both W G B FC1 (60 + 2 * i) R FR1 S7 S7 w') := fun w' hw' => h7.below hw'
      clear gb7 h7
      go_loopw [12] (fun x12 wr => ∃ k : Nat, k ≤ G.b.toNat ∧ x12 = .int .i64 (k : Int) ∧ Hid (Since w7 wr)) (fun x12 _ => G.b.toNat - (RowKit.intOf x12).toNat)
      case atStart => exact ⟨0, Nat.zero_le _, rfl, Since.refl _⟩
      case round =>
        obtain ⟨k, hk, rfl, hs⟩ := hrel
        have d0 := (HG.out wr hs.out).1
        by_cases hlt2 : k < G.b.toNat
        · have hlt2' : (k : Int) < G.b := by omega
          go_wp2_with fail
          clear d0
          have HS0 : Hid (Since w7 wr) := hs
          clear hs
          go_loopw [13] (fun x13 wr => ∃ j : Nat, j ≤ G.p.toNat ∧ x13 = .int .i64 (j : Int) ∧ Hid (Since w7 wr)) (fun x13 _ => G.p.toNat - (RowKit.intOf x13).toNat)
          case atStart => exact ⟨0, Nat.zero_le _, rfl, HS0⟩
          case round =>
            clear HS0
            obtain ⟨j, hj, rfl, hs⟩ := hrel
            have d1 := (HG.out wr hs.out).2
            by_cases hlt3 : j < G.p.toNat
            · have hlt3' : (j : Int) < G.p := by omega
              have hpg := hasP_of (x := (k : Int)) (y := (j : Int)) ⟨by omega, hlt2'⟩ ⟨by omega, hlt3'⟩
              have h8 := HH.out wr hs.out
              go_wp2_with fail
              clear d1
              refine (chipRead_yes _ _ (i64_small (by omega)) (i64_small (by omega)) _ h8.chip hup hpg).mono ?_
              rintro e w9 ⟨q, hq, rfl, r9, q9⟩
              have h9 := h8.below q9
              clear h8
              go_wp2_with fail
              refine (ref7Read_yes _ _ _ h9.ref hup hpg).mono ?_
              rintro e w10 ⟨a10, c10, rfl, r10, q10⟩
              have hc1 := conv_row Try.underlying38 Try.underlying5 Try.underlying9 (r9.below q10 (Nat.le_refl _))
              have hc2 := conv_row Try.underlying38 Try.underlying5 Try.underlying9 r10
              have HS2 : Hid (Since w7 w10) := (hs.out.trans q9).trans q10
              clear h9 r9 r10 q9 q10 hs
              generalize strOfNums (readZ G.L (S7.pg (k : Int) (j : Int)) (S7.wr (k : Int) (j : Int))) = ss at *
              go_wp2_with fail
              go_roundw
              case rel => exact ⟨j + 1, by omega, by go_num, HS2⟩
              case measure => simp [RowKit.intOf]; omega
            · have hge3 : ¬ (j : Int) < G.p := by omega
              go_wp2_with fail
              go_roundw
              case rel => exact ⟨k + 1, by omega, by go_num, hs⟩
              case measure => simp [RowKit.intOf]; omega
        · have hge2 : ¬ (k : Int) < G.b := by omega
          have h8 := HH.out wr hs.out
          have hb8 := h8.bel
          clear h8
          go_wp2_with fail
          refine (awake7_any _).mono ?_
          rintro e w9 ⟨rfl, q9⟩
          go_wp2_with fail
          go_ret
          exact ⟨rfl, btrans HQ0.out (btrans hb8 q9)⟩
end Go.Proofs.Ytjagnpljhedfjaa
