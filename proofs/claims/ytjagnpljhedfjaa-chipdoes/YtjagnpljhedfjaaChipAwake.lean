/-
  Layer 7's laws: tiny, small, awake.
-/
import Derived.Test.YtjagnpljhedfjaaChipCode8
namespace Go.Proofs.Ytjagnpljhedfjaa
open Go.RowKit Go.Maps
set_option linter.unusedVariables false
set_option maxRecDepth 8192

theorem tiny7_any (w : World) : Calls Try.prog 40 #[] w fun e w' => e = .returned (.agg #[.int .i64 2, .int .i64 2, .int .i64 1, .int .i64 16, .int .i64 1]) ∧ Below w.heap.size w w' := by
  go_enter Try.func40, Try.ntmps40
  go_wp2
  refine bodyPost_ret (v := .agg #[.int .i64 2, .int .i64 2, .int .i64 1, .int .i64 16, .int .i64 1]) (by simp [results, Try.results40, go_sem]) rfl ?_
  exact ⟨rfl, below_one _ _⟩

/-- Is a geometry looked at? -/
def small7 (b p s n f : Int) : Bool := !mayG b p s n f || decide (s * n ≤ 32 ∧ b ≤ 16 ∧ p ≤ 8)
set_option maxHeartbeats 800000 in
theorem small7_any (b p s n f : Int) (w : World) : Calls Try.prog 9 #[.agg #[.int .i64 b, .int .i64 p, .int .i64 s, .int .i64 n, .int .i64 f]] w fun e w' => e = .returned (.bool (small7 b p s n f)) ∧ Below w.heap.size w w' := by
  cases hm : mayG b p s n f
  · have HS : Hid (small7 b p s n f = true) := by show _ = _; unfold small7; rw [hm]; rfl
    go_enter Try.func9, Try.ntmps9
    go_wp2_with fail
    refine (refMay_any b p s n f _).mono ?_
    rintro e w1 ⟨rfl, q1⟩
    rw [hm]
    go_wp2_with fail
    go_ret
    exact ⟨ret_bool HS.out.symm, btrans (below_one _ _) q1⟩
  · have hm' := hm
    unfold mayG at hm'
    rw [decide_eq_true_iff] at hm'
    obtain ⟨_, _, _, _, h5, h6, h7, h8, _, _, _, _⟩ := hm'
    obtain ⟨s, rfl⟩ := Int.eq_ofNat_of_zero_le (show 0 ≤ s by omega)
    obtain ⟨n, rfl⟩ := Int.eq_ofNat_of_zero_le (show 0 ≤ n by omega)
    have HS : Hid (small7 b p s n f = decide (((s * n : Nat) : Int) ≤ 32 ∧ b ≤ 16 ∧ p ≤ 8)) := by show _ = _; unfold small7; rw [hm, ← Int.natCast_mul, Bool.not_true, Bool.false_or]
    have hroom := refRoom_any b p f s n (s * n) rfl (by omega) (by omega)
    generalize s * n = R at hroom HS
    go_enter Try.func9, Try.ntmps9
    go_wp2_with fail
    refine (refMay_any b p s n f _).mono ?_
    rintro e w1 ⟨rfl, q1⟩
    rw [hm]
    have gb := (gbox_new w 23 b p s n f).below q1 (Nat.le_refl _)
    obtain ⟨_, c0, c1, c2, c3, c4⟩ := gb
    have gb := (gbox_new w 23 b p s n f).below q1 (Nat.le_refl _)
    go_wp2_with fail
    refine (hroom _).mono ?_
    rintro e w2 ⟨rfl, q2⟩
    clear c0 c1 c2 c3 c4
    obtain ⟨_, c0, c1, c2, c3, c4⟩ := gb.below q2 (Nat.le_refl _)
    go_wp2_with fail
    all_goals (go_ret; refine ⟨ret_bool ?_, btrans (btrans (below_one _ _) q1) q2⟩; rw [HS.out]; first | (rw [decide_eq_decide]; omega) | (symm; rw [decide_eq_false_iff_not]; omega) | (symm; rw [decide_eq_true_iff]; omega))
theorem small7_may {b p s n f : Int} (h : small7 b p s n f = true) (hm : mayG b p s n f = true) : s * n ≤ 32 ∧ b ≤ 16 ∧ p ≤ 8 := by
  unfold small7 at h
  rw [hm] at h
  simpa using h
/-- A small geometry that may be. -/
theorem geo_ex {b p s n f : Int} (hs : small7 b p s n f = true) (h : mayG b p s n f = true) : ∃ G : Geo, b = G.b ∧ p = G.p ∧ s = G.s ∧ n = G.n ∧ f = G.f ∧ G.b ≤ 16 ∧ G.p ≤ 8 := by
  obtain ⟨h1, h2, h3⟩ := small7_may hs h
  obtain ⟨S, N, F, R, m, W, L, rfl, rfl, rfl, G⟩ := gok_ex h (by omega)
  exact ⟨⟨b, p, S, N, F, R, m, W, L, G⟩, rfl, rfl, rfl, rfl, rfl, h2, h3⟩

def G0 : Geo := ⟨2, 2, 1, 16, 1, 16, 2, 18, 19, ⟨by decide, by decide, by decide, by decide, by decide, by decide, by decide, by decide, by decide, by decide, by decide⟩⟩
/-- 'make([]byte, n)'. -/
theorem makeB (n : Nat) (hn : n ≤ 1000) (w : World) : ∃ w', Sem.run Try.prog (Instr.makeSlice 38 (.int .i64 (n : Int)) (.int .i64 (n : Int))) w = .ok (.slice (some ⟨w.heap.size, 0, none⟩) n n) w' ∧
    w'.heap[w.heap.size]? = some (.cells ((List.replicate n (0 : Int)).map (Value.int .u8)).toArray 5 (0, 0)) ∧ Below w.heap.size w w' := by
  obtain ⟨i0, hi0, hz0, hz1, hz2⟩ := info_parts Try.info5
  obtain ⟨w', hrun, r1, r2⟩ := run_make_full (P := Try.prog) w w.heap.size 38 5 i0 (.int .u8 0) 1 Try.underlying38 hi0 hz0 hz1 .i64 .i64 n (by rw [hz2]; omega) (by unfold maxLen; omega) (Nat.le_refl _)
  rw [made_ints] at r1
  exact ⟨w', hrun, heap_of_owns r1, (Below.refl _ _).grown r2 (Nat.le_refl _) (by simp)⟩
theorem isB_zeros (n : Nat) : IsB (List.replicate n 0) := fun v hv => by rw [List.mem_replicate] at hv; rw [hv.2]; decide

/-- A chip that was made since W, and nothing that W had has turned. -/
structure Here (W : World) (G : Geo) (B : CB) (F : Nat → Prop) (N : Nat) (S : CS) (w : World) : Prop where
  chip : ChipAt G B F N S w
  low : ∀ x, F x → W.heap.size ≤ x
  bel : Below W.heap.size W w
section
variable {W w w' : World} {G : Geo} {B : CB} {F : Nat → Prop} {N N' : Nat} {S S' : CS}
theorem Here.does (h : Here W G B F N S w) (d : Does G B F N' w S' w') : ∃ F', Here W G B F' N' S' w' ∧ ∀ k a len cap z, Off F k w a len cap z → Off F' k w' a len cap z := by
  obtain ⟨F', h1, h2, h3⟩ := d
  exact ⟨F', ⟨h1, fun x hx => (h3 x hx).elim (h.low x) (fun e => Nat.le_trans h.bel.size e), h.bel.trans (h2.below h.bel.size h.low)⟩, fun k a len cap z o => o.step h2 h3⟩
theorem Here.turned (h : Here W G B F N S w) (hc : ChipAt G B F N' S' w') (t : Turned F w w') : Here W G B F N' S' w' ∧ ∀ k a len cap z, Off F k w a len cap z → Off F k w' a len cap z :=
  ⟨⟨hc, h.low, h.bel.trans (t.below h.bel.size h.low)⟩, fun k a len cap z o => o.step t (fun x hx => .inl hx)⟩
theorem Here.below (h : Here W G B F N S w) (q : Below w.heap.size w w') : Here W G B F N S w' := ⟨h.chip.below q, h.low, btrans h.bel q⟩
theorem Here.same (h : Here W G B F N S w) (e : S = S') : Here W G B F N S' w := e ▸ h
/-- A row that is just made. -/
theorem Here.off (h : Here W G B F N S w) {k : IntKind} {g len cap : Nat} {z : List Int} (hr : Row k w' (some ⟨g, 0, none⟩) len cap z) (hg : w.heap.size ≤ g) : Off F k w' (some ⟨g, 0, none⟩) len cap z :=
  ⟨hr, fun _ x hx hf => by have := h.chip.fresh _ hf; have e : x.block = g := by cases hx; rfl
                           omega⟩
theorem newChip_here {ps : List Int} {c : Nat} (hW : Below W.heap.size W w) (h : NewChip G ps N w c w') : ∃ B F, B.c = c ∧ Here W G B F N (CS.fresh G.L ps ps.length) w' := by
  obtain ⟨B, F, e, h1, h2, h3⟩ := h
  exact ⟨B, F, e, h1, fun x hx => Nat.le_trans hW.size (h2 x hx), btrans hW h3⟩
end
theorem chipNew_yes (G : Geo) (a : Option Addr) (len cap : Nat) (ps : List Int) (w : World) (hr : Row .i64 w a len cap ps) (hw : ∀ n ∈ ps, (Lit.int .i64 n).wf = true) (hlen : len ≤ 100000) (hin : ∀ x ∈ ps, inB0 x G.b = true) :
    Calls Try.prog 11 #[.agg #[.int .i64 G.b, .int .i64 G.p, .int .i64 G.s, .int .i64 G.n, .int .i64 G.f], .slice a len cap] w fun e w' => ∃ c, e = .returned (.tuple #[.pointer (some ⟨c, 0, none⟩), .int .i64 0]) ∧ NewChip G ps len w c w' := by
  refine (chipNew_any G a len cap ps w hr hw hlen).mono ?_
  rintro e w' (⟨_, h⟩ | ⟨⟨x, hx, h⟩, _⟩)
  · exact h
  · rw [hin x hx] at h; cases h
theorem chipNew_bad (G : Geo) (a : Option Addr) (len cap : Nat) (ps : List Int) (w : World) (hr : Row .i64 w a len cap ps) (hw : ∀ n ∈ ps, (Lit.int .i64 n).wf = true) (hlen : len ≤ 100000) {x : Int} (hx : x ∈ ps) (hin : inB0 x G.b = false) :
    Calls Try.prog 11 #[.agg #[.int .i64 G.b, .int .i64 G.p, .int .i64 G.s, .int .i64 G.n, .int .i64 G.f], .slice a len cap] w fun e w' => e = .returned (.tuple #[.pointer none, .int .i64 1]) ∧ Below w.heap.size w w' := by
  refine (chipNew_any G a len cap ps w hr hw hlen).mono ?_
  rintro e w' (⟨h, _⟩ | ⟨_, h⟩)
  · rw [h x hx] at hin; cases hin
  · exact h
/-- A chip without bad blocks. -/
theorem chipNew_nil (G : Geo) (w : World) : Calls Try.prog 11 #[.agg #[.int .i64 G.b, .int .i64 G.p, .int .i64 G.s, .int .i64 G.n, .int .i64 G.f], .slice none 0 0] w fun e w' => ∃ c, e = .returned (.tuple #[.pointer (some ⟨c, 0, none⟩), .int .i64 0]) ∧ NewChip G [] 0 w c w' :=
  chipNew_yes G none 0 0 [] w ⟨rfl, Nat.le_refl _, Nat.zero_le _, fun _ => rfl, fun h => absurd h (by omega)⟩ (fun n hn => absurd hn (by simp)) (by omega) (fun n hn => absurd hn (by simp))
theorem Does.eq {G : Geo} {B : CB} {F : Nat → Prop} {N : Nat} {w w' : World} {r : Int × CS} {e : Ending} {c : Int} {S' : CS} (hr : r = (c, S')) (h : e = .returned (.int .i64 r.1) ∧ Does G B F N w r.2 w') : e = .returned (.int .i64 c) ∧ Does G B F N w S' w' := by
  subst hr; exact h

theorem i64_small {x : Int} (h : -1000 ≤ x ∧ x ≤ 1000) : I64 x := by unfold I64; omega
/-- awake's chip behind the cut. -/
def S0a : CS := { CS.fresh 19 [1] 1 with ah := 1, ke := 2 }
def S0b : CS := { ({ CS.fresh 19 [1] 1 with ah := 0, ke := 2, up := false } : CS).lay 0 0 (padF 19 [0, 0]) with up := true }
set_option maxHeartbeats 3200000 in
theorem awake7_any (w : World) : Calls Try.prog 13 #[] w fun e w' => e = .returned (.bool true) ∧ Below w.heap.size w w' := by
  go_enter Try.func13, Try.ntmps13
  go_wp2_with fail
  refine (tiny7_any _).mono ?_
  rintro e w1 ⟨rfl, q1⟩
  have hr1 := row_new .i64 w1 3 w1.heap.size rfl [1] 1 rfl (by unfold maxLen; omega) #[.int .i64 1] rfl
  have q2 := btrans q1 (below_one w1 (.cells #[.int .i64 1] 3))
  go_wp2_with fail
  generalize w1.alloc (.cells #[.int .i64 1] 3) = w2 at *
  refine (chipNew_yes G0 _ _ _ [1] _ hr1 (by decide) (by omega) (by decide)).mono ?_
  rintro e w3 ⟨c, rfl, hnew⟩
  obtain ⟨B, F, rfl, h3⟩ := newChip_here q2 hnew
  clear hr1 q2 q1 hnew
  obtain ⟨w4, hmk, hg4, q4⟩ := makeB 19 (by omega) w3
  have r4 := h3.off (isB_rowA (owns_of_heap (base := 0) hg4 (by simp) (Nat.zero_le _) (by unfold maxLen; omega)) : Row .u8 w4 (some ⟨w3.heap.size, 0, none⟩) 19 19 (List.replicate 19 0)) (Nat.le_refl _)
  have h4 := h3.below q4
  clear h3 hg4 q4
  generalize w3.heap.size = g at *
  rw [show ((19 : Nat) : Int) = 19 from rfl] at hmk
  go_wp2_with fail
  clear hmk
  refine (chipProgram_any 0 1 (i64_small (by decide)) (i64_small (by decide)) _ _ _ _ w4 h4.chip r4.row r4.off (isB_zeros 19) (by decide)).mono ?_
  intro e w5 hd
  obtain ⟨rfl, d5⟩ := Does.eq (show CS.doProgram G0 (CS.fresh G0.L [1] [(1 : Int)].length) 0 1 (List.replicate 19 0) = (71, CS.fresh 19 [1] 1) from rfl) hd
  obtain ⟨F5, h5, o5⟩ := h4.does d5
  have r5 := o5 _ _ _ _ _ r4
  clear hd d5 o5 h4 r4
  go_wp2_with fail
  refine (chipArm_any 1 2 (i64_small (by decide)) (i64_small (by decide)) _ h5.chip).mono ?_
  rintro e w6 ⟨⟨r6, rfl⟩, hc6, t6⟩
  obtain ⟨h6, o6⟩ := h5.turned hc6 t6
  replace h6 := h6.same (S' := S0a) rfl
  have r6 := o6 _ _ _ _ _ r5
  clear hc6 t6 o6 h5 r5
  go_wp2_with fail
  refine (chipProgram_any 0 0 (i64_small (by decide)) (i64_small (by decide)) _ _ _ _ w6 h6.chip r6.row r6.off (isB_zeros 19) (by decide)).mono ?_
  intro e w7 hd
  obtain ⟨rfl, d7⟩ := Does.eq (show S0a.doProgram G0 0 0 (List.replicate 19 0) = (70, ({ CS.fresh 19 [1] 1 with ah := 0, ke := 2, up := false } : CS).lay 0 0 (padF 19 [0, 0])) from rfl) hd
  obtain ⟨F7, h7, o7⟩ := h6.does d7
  clear hd d7 o7 h6 r6
  go_wp2_with fail
  refine (chipOn_any _ h7.chip).mono ?_
  rintro e w8 ⟨⟨r8, rfl⟩, hc8, t8⟩
  obtain ⟨h8, o8⟩ := h7.turned hc8 t8
  replace h8 := h8.same (S' := S0b) rfl
  clear hc8 t8 o8 h7
  go_wp2_with fail
  refine (chipRead_yes 0 0 (i64_small (by decide)) (i64_small (by decide)) _ h8.chip rfl rfl).mono ?_
  rintro e w9 ⟨q, hq, rfl, rr, q9⟩
  have h9 := h8.below q9
  rw [show readZ G0.L (S0b.pg 0 0) (S0b.wr 0 0) = [0, 0, 255, 255, 255, 255, 255, 255, 255, 255, 255, 255, 255, 255, 255, 255, 255, 255, 255] from readZ_none 19 _] at rr
  clear q9 h8 hq
  go_wp2_with fail
  refine (chipBad_any 0 (i64_small (by decide)) _ h9.chip).mono ?_
  rintro e w10 ⟨rfl, q10⟩
  have h10 := h9.below q10
  have r10 := rr.below q10 (Nat.le_refl _)
  clear q10 h9 rr
  rw [show (S0b.up && S0b.bd 0) = false from rfl]
  go_wp2_with fail
  refine (chipBad_any 1 (i64_small (by decide)) _ h10.chip).mono ?_
  rintro e w11 ⟨rfl, q11⟩
  have h11 := h10.below q11
  have r11 := r10.below q11 (Nat.le_refl _)
  clear q11 h10 r10
  rw [show (S0b.up && S0b.bd 1) = true from rfl]
  obtain ⟨_, _, e0, _, hcell⟩ := r11.hcell (by decide)
  cases e0
  have hb1 := hcell 1 (by decide)
  have hb2 := hcell 2 (by decide)
  clear hcell r11
  simp only [Nat.zero_add, List.getElem?_cons_succ, List.getElem?_cons_zero, Option.getD_some] at hb1 hb2
  rw [show G0.L = 19 from rfl]
  go_wp2_with fail
  refine (chipBurn_any 3 _ h11.chip).mono ?_
  intro e w12 hd
  obtain ⟨rfl, d12⟩ := Does.eq (show S0b.doBurn 3 = (0, S0b.burnt 3) from rfl) hd
  obtain ⟨F12, h12, _⟩ := h11.does d12
  clear hd d12 h11 hb1 hb2
  go_wp2_with fail
  refine (chipBurn_any 2 _ h12.chip).mono ?_
  intro e w13 hd
  obtain ⟨rfl, d13⟩ := Does.eq (show (S0b.burnt 3).doBurn 2 = (74, S0b.burnt 3) from rfl) hd
  obtain ⟨F13, h13, _⟩ := h12.does d13
  clear hd d13 h12
  go_wp2_with fail
  refine (chipFuse_any _ h13.chip.cell).mono ?_
  rintro e w14 ⟨rfl, rfl⟩
  rw [show (if (S0b.burnt 3).up = true then (S0b.burnt 3).fu else 0) = 3 from rfl]
  go_wp2_with fail
  go_ret
  exact ⟨rfl, h13.bel⟩
end Go.Proofs.Ytjagnpljhedfjaa
