/-
  Layer 7's laws: tiny, small, awake.
-/
import Derived.Test.YtggpgdaacbmmdaaGreatChipCode8
namespace Go.Proofs.YtggpgdaacbmmdaaGreat
open Go.RowKit Go.Maps
set_option linter.unusedVariables false
set_option maxRecDepth 8192

/-- Is a geometry looked at? -/
def small7 (b p s n f : Int) : Bool := !mayG b p s n f || decide (s * n ≤ 32 ∧ b ≤ 16 ∧ p ≤ 8)
theorem small7_may {b p s n f : Int} (h : small7 b p s n f = true) (hm : mayG b p s n f = true) : s * n ≤ 32 ∧ b ≤ 16 ∧ p ≤ 8 := by
  unfold small7 at h
  rw [hm] at h
  simpa using h
/-- A small geometry that may be. -/
theorem geo_ex {b p s n f : Int} (hs : small7 b p s n f = true) (h : mayG b p s n f = true) : ∃ G : Geo, b = G.b ∧ p = G.p ∧ s = G.s ∧ n = G.n ∧ f = G.f ∧ G.b ≤ 16 ∧ G.p ≤ 8 := by
  obtain ⟨h1, h2, h3⟩ := small7_may hs h
  obtain ⟨S, N, F, R, m, W, L, rfl, rfl, rfl, G⟩ := gok_ex h (by omega)
  exact ⟨⟨b, p, S, N, F, R, m, W, L, G⟩, rfl, rfl, rfl, rfl, rfl, h2, h3⟩

def G0 : Geo := ⟨2, 2, 1, 16, 1, 16, 2, 18, 19, ⟨by decide, by decide, by decide, by decide, by decide, by decide, by decide, by decide, by decide, by decide, by decide⟩⟩
/-- 'make([]byte, n)'. -/
theorem makeB (n : Nat) (hn : n ≤ 1000) (w : World) : ∃ w', Sem.run Tryz.prog (Instr.makeSlice 38 (.int .i64 (n : Int)) (.int .i64 (n : Int))) w = .ok (.slice (some ⟨w.heap.size, 0, none⟩) n n) w' ∧
    w'.heap[w.heap.size]? = some (.cells ((List.replicate n (0 : Int)).map (Value.int .u8)).toArray 5 (0, 0)) ∧ Below w.heap.size w w' := by
  obtain ⟨i0, hi0, hz0, hz1, hz2⟩ := info_parts Tryz.info5
  obtain ⟨w', hrun, r1, r2⟩ := run_make_full (P := Tryz.prog) w w.heap.size 38 5 i0 (.int .u8 0) 1 Tryz.underlying38 hi0 hz0 hz1 .i64 .i64 n (by rw [hz2]; omega) (by unfold maxLen; omega) (Nat.le_refl _)
  rw [made_ints] at r1
  exact ⟨w', hrun, heap_of_owns r1, (Below.refl _ _).grown r2 (Nat.le_refl _) (by simp)⟩

/-- A chip that was made since W, and nothing that W had has turned. -/
structure Here (W : World) (G : Geo) (B : CB) (F : Nat → Prop) (N : Nat) (S : CS) (w : World) : Prop where
  chip : ChipAt G B F N S w
  low : ∀ x, F x → W.heap.size ≤ x
  bel : Below W.heap.size W w
section
variable {W w w' : World} {G : Geo} {B : CB} {F : Nat → Prop} {N N' : Nat} {S S' : CS}
theorem Here.does (h : Here W G B F N S w) (d : Does G B F N' w S' w') : ∃ F', Here W G B F' N' S' w' ∧ ∀ k a len cap z, Off F k w a len cap z → Off F' k w' a len cap z := by
  obtain ⟨F', h1, h2, h3⟩ := d
  exact ⟨F', ⟨h1, fun x hx => (h3 x hx).elim (h.low x) (fun e => Nat.le_trans h.bel.size e), h.bel.trans (h2.below h.bel.size h.low)⟩, fun k a len cap z o => o.step h2 h3⟩
theorem Here.turned (h : Here W G B F N S w) (hc : ChipAt G B F N' S' w') (t : Turned F w w') : Here W G B F N' S' w' ∧ ∀ k a len cap z, Off F k w a len cap z → Off F k w' a len cap z :=
  ⟨⟨hc, h.low, h.bel.trans (t.below h.bel.size h.low)⟩, fun k a len cap z o => o.step t (fun x hx => .inl hx)⟩
theorem Here.below (h : Here W G B F N S w) (q : Below w.heap.size w w') : Here W G B F N S w' := ⟨h.chip.below q, h.low, btrans h.bel q⟩
theorem Here.same (h : Here W G B F N S w) (e : S = S') : Here W G B F N S' w := e ▸ h
/-- A row that is just made. -/
theorem Here.off (h : Here W G B F N S w) {k : IntKind} {g len cap : Nat} {z : List Int} (hr : Row k w' (some ⟨g, 0, none⟩) len cap z) (hg : w.heap.size ≤ g) : Off F k w' (some ⟨g, 0, none⟩) len cap z :=
  ⟨hr, fun _ x hx hf => by have := h.chip.fresh _ hf; have e : x.block = g := by cases hx; rfl
                           omega⟩
theorem newChip_here {ps : List Int} {c : Nat} (hW : Below W.heap.size W w) (h : NewChip G ps N w c w') : ∃ B F, B.c = c ∧ Here W G B F N (CS.fresh G.L ps ps.length) w' := by
  obtain ⟨B, F, e, h1, h2, h3⟩ := h
  exact ⟨B, F, e, h1, fun x hx => Nat.le_trans hW.size (h2 x hx), btrans hW h3⟩
end
theorem chipNew_yes (G : Geo) (a : Option Addr) (len cap : Nat) (ps : List Int) (w : World) (hr : Row .i64 w a len cap ps) (hw : ∀ n ∈ ps, (Lit.int .i64 n).wf = true) (hlen : len ≤ 100000) (hin : ∀ x ∈ ps, inB0 x G.b = true) :
    Calls Tryz.prog 11 #[.agg #[.int .i64 G.b, .int .i64 G.p, .int .i64 G.s, .int .i64 G.n, .int .i64 G.f], .slice a len cap] w fun e w' => ∃ c, e = .returned (.tuple #[.pointer (some ⟨c, 0, none⟩), .int .i64 0]) ∧ NewChip G ps len w c w' := by
  refine (chipNew_any G a len cap ps w hr hw hlen).mono ?_
  rintro e w' (⟨_, h⟩ | ⟨⟨x, hx, h⟩, _⟩)
  · exact h
  · rw [hin x hx] at h; cases h
theorem chipNew_bad (G : Geo) (a : Option Addr) (len cap : Nat) (ps : List Int) (w : World) (hr : Row .i64 w a len cap ps) (hw : ∀ n ∈ ps, (Lit.int .i64 n).wf = true) (hlen : len ≤ 100000) {x : Int} (hx : x ∈ ps) (hin : inB0 x G.b = false) :
    Calls Tryz.prog 11 #[.agg #[.int .i64 G.b, .int .i64 G.p, .int .i64 G.s, .int .i64 G.n, .int .i64 G.f], .slice a len cap] w fun e w' => e = .returned (.tuple #[.pointer none, .int .i64 1]) ∧ Below w.heap.size w w' := by
  refine (chipNew_any G a len cap ps w hr hw hlen).mono ?_
  rintro e w' (⟨h, _⟩ | ⟨_, h⟩)
  · rw [h x hx] at hin; cases hin
  · exact h
/-- A chip without bad blocks. -/
theorem chipNew_nil (G : Geo) (w : World) : Calls Tryz.prog 11 #[.agg #[.int .i64 G.b, .int .i64 G.p, .int .i64 G.s, .int .i64 G.n, .int .i64 G.f], .slice none 0 0] w fun e w' => ∃ c, e = .returned (.tuple #[.pointer (some ⟨c, 0, none⟩), .int .i64 0]) ∧ NewChip G [] 0 w c w' :=
  chipNew_yes G none 0 0 [] w ⟨rfl, Nat.le_refl _, Nat.zero_le _, fun _ => rfl, fun h => absurd h (by omega)⟩ (fun n hn => absurd hn (by simp)) (by omega) (fun n hn => absurd hn (by simp))
theorem Does.eq {G : Geo} {B : CB} {F : Nat → Prop} {N : Nat} {w w' : World} {r : Int × CS} {e : Ending} {c : Int} {S' : CS} (hr : r = (c, S')) (h : e = .returned (.int .i64 r.1) ∧ Does G B F N w r.2 w') : e = .returned (.int .i64 c) ∧ Does G B F N w S' w' := by
  subst hr; exact h

theorem i64_small {x : Int} (h : -1000 ≤ x ∧ x ≤ 1000) : I64 x := by unfold I64; omega
/-- awake's chip behind the cut. -/
def S0a : CS := { CS.fresh 19 [1] 1 with ah := 1, ke := 2 }
def S0b : CS := { ({ CS.fresh 19 [1] 1 with ah := 0, ke := 2, up := false } : CS).lay 0 0 (padF 19 [0, 0]) with up := true }
end Go.Proofs.YtggpgdaacbmmdaaGreat
