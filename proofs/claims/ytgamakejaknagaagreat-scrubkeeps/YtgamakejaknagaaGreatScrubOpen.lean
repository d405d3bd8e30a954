/-
  Slices of Wrong that came in, slices of pairs that came in.
-/
import Derived.Deep.Slices
import Derived.ProofKit
import Derived.OpenShut
import Derived.Test.YtgamakejaknagaaGreatScrubFill
import Derived.Test.YtgamakejaknagaaGreatRows
namespace Go.Proofs.YtgamakejaknagaaGreat
open Go.RowKit Go.Maps Go.ChangeShapes
set_option linter.unusedVariables false
set_option maxRecDepth 8192

instance : Inhabited WrV := ⟨⟨0, 0, 0, 0⟩⟩
theorem cellsWr : Tryz.prog.cellsOf 59 = 4 := by kernel_rfl
theorem cellsI12 : Tryz.prog.cellsOf 3 = 1 := by kernel_rfl
theorem i64_wf {n : Int} (h : (Lit.int .i64 n).wf = true) : I64 n := by
  have := bounds_i64 h
  unfold I64
  omega
/-- Wrongs that came in. -/
theorem wrongs_of {H : Type} {enc : TypeId × Value → H} {w : World} {base : Nat} {held : Bool} {fuel : Nat} {a : Option Addr} {len cap : Nat} {x : DataW H × List MemPlace}
    (h : DataW.trod enc Tryz.prog w base (fun _ => true) held fuel 25 [.slice a len cap] = some x) : ∃ V, WRow w a len cap V := by
  rcases Deep.open_slice Tryz.underlying25 h with ⟨hcs, _⟩ | ⟨ad, l, c, m, n, D, Pl, hcs, hb, hl, hm, hmm, _, hx⟩
  · simp at hcs
    obtain ⟨rfl, rfl, rfl⟩ := hcs
    exact ⟨fun _ => ⟨0, 0, 0, 0⟩, ⟨Nat.le_refl _, Nat.zero_le _, fun h => absurd h (by omega)⟩⟩
  · simp at hcs
    obtain ⟨rfl, rfl, rfl⟩ := hcs
    simp only [if_true] at hmm
    subst hmm
    have hspot : 0 < len → ad.spot = none := fun h0 => by
      obtain ⟨cs', h1, _⟩ := hx 0 (by omega)
      rw [cellsWr] at h1
      obtain ⟨_, hlen, hcell⟩ := World.cells?_some h1
      have hc0 := hcell 0 (by omega)
      match cs', hlen with
      | v0 :: _, _ =>
        have hh : w.cell? ad = some v0 := by simpa [Addr.add] using hc0
        exact World.cell?_spot hh
    have each : ∀ i, i < len → ∃ f : WrV, ∃ b off, ad = ⟨b, off, none⟩ ∧ b < w.heap.size ∧ ((w.cell? ⟨b, off + i * 4, none⟩ = some (.int .i64 f.leb) ∧ w.cell? ⟨b, off + i * 4 + 1, none⟩ = some (.int .i64 f.page) ∧ w.cell? ⟨b, off + i * 4 + 2, none⟩ = some (.int .i64 f.from_) ∧ w.cell? ⟨b, off + i * 4 + 3, none⟩ = some (.int .i64 f.many)) ∧ I64 f.leb ∧ I64 f.page ∧ I64 f.from_ ∧ I64 f.many) := by
      intro i hi
      obtain ⟨cs', h1, h2⟩ := hx i (by omega)
      rw [cellsWr] at h1
      obtain ⟨_, hlen, hcell⟩ := World.cells?_some h1
      obtain ⟨xs, k, hk, hxy, _, hxl, hf⟩ := DataW.trod_struct Tryz.underlying59 h2
      match cs', hlen with
      | [v0, v1, v2, v3], _ =>
        have g0 := hf 0 _ rfl
        have g1 := hf 1 _ rfl
        have g2 := hf 2 _ rfl
        have g3 := hf 3 _ rfl
        match xs, hxl with
        | [y0, y1, y2, y3], _ =>
          simp [cellsI12] at g0 g1 g2 g3
          obtain ⟨n0, e0, _, w0⟩ := DataW.trod_int Tryz.underlying3 g0
          obtain ⟨n1, e1, _, w1⟩ := DataW.trod_int Tryz.underlying3 g1
          obtain ⟨n2, e2, _, w2⟩ := DataW.trod_int Tryz.underlying3 g2
          obtain ⟨n3, e3, _, w3⟩ := DataW.trod_int Tryz.underlying3 g3
          simp at e0 e1 e2 e3
          subst e0 e1 e2 e3
          obtain ⟨b, off, spot⟩ := ad
          have hsp : spot = none := hspot (by omega)
          subst hsp
          have hcc : ∀ j, j < 4 → w.cell? ⟨b, off + i * 4 + j, none⟩ = [Value.int .i64 n0, .int .i64 n1, .int .i64 n2, .int .i64 n3][j]? := fun j hj => by
            have := hcell j hj
            rw [plain_add, plain_add] at this
            exact this
          exact ⟨⟨n0, n1, n2, n3⟩, b, off, rfl, lt_of_cell (hcc 0 (by omega)), ⟨hcc 0 (by omega), hcc 1 (by omega), hcc 2 (by omega), hcc 3 (by omega)⟩, i64_wf w0, i64_wf w1, i64_wf w2, i64_wf w3⟩
    obtain ⟨g, hg⟩ := Deep.choose_lt (α := WrV) (n := len) (p := fun i f => ∃ b off, ad = ⟨b, off, none⟩ ∧ b < w.heap.size ∧ ((w.cell? ⟨b, off + i * 4, none⟩ = some (.int .i64 f.leb) ∧ w.cell? ⟨b, off + i * 4 + 1, none⟩ = some (.int .i64 f.page) ∧ w.cell? ⟨b, off + i * 4 + 2, none⟩ = some (.int .i64 f.from_) ∧ w.cell? ⟨b, off + i * 4 + 3, none⟩ = some (.int .i64 f.many)) ∧ I64 f.leb ∧ I64 f.page ∧ I64 f.from_ ∧ I64 f.many)) each
    refine ⟨g, ⟨hl, hm, fun h0 => ?_⟩⟩
    obtain ⟨b, off, e, hb, _⟩ := hg 0 h0
    refine ⟨b, off, by rw [e], hb, fun i hi => ?_⟩
    obtain ⟨b', off', e', _, hF⟩ := hg i hi
    rw [e] at e'
    cases e'
    exact hF
theorem cellsPair : Tryz.prog.cellsOf 46 = 2 := by kernel_rfl
/-- Pairs that came in. -/
theorem cuts_of {H : Type} {enc : TypeId × Value → H} {w : World} {base : Nat} {held : Bool} {fuel : Nat} {a : Option Addr} {len cap : Nat} {x : DataW H × List MemPlace}
    (h : DataW.trod enc Tryz.prog w base (fun _ => true) held fuel 44 [.slice a len cap] = some x) : ∃ V, CRow w a len cap V := by
  rcases Deep.open_slice Tryz.underlying44 h with ⟨hcs, _⟩ | ⟨ad, l, c, m, n, D, Pl, hcs, hb, hl, hm, hmm, _, hx⟩
  · simp at hcs
    obtain ⟨rfl, rfl, rfl⟩ := hcs
    exact ⟨fun _ => (0, 0), ⟨Nat.le_refl _, Nat.zero_le _, fun h => absurd h (by omega)⟩⟩
  · simp at hcs
    obtain ⟨rfl, rfl, rfl⟩ := hcs
    simp only [if_true] at hmm
    subst hmm
    have hspot : 0 < len → ad.spot = none := fun h0 => by
      obtain ⟨cs', h1, _⟩ := hx 0 (by omega)
      rw [cellsPair] at h1
      obtain ⟨_, hlen, hcell⟩ := World.cells?_some h1
      have hc0 := hcell 0 (by omega)
      match cs', hlen with
      | v0 :: _, _ =>
        have hh : w.cell? ad = some v0 := by simpa [Addr.add] using hc0
        exact World.cell?_spot hh
    have each : ∀ i, i < len → ∃ f : Int × Int, ∃ b off, ad = ⟨b, off, none⟩ ∧ b < w.heap.size ∧ ((w.cell? ⟨b, off + i * 2, none⟩ = some (.int .i64 f.1) ∧ w.cell? ⟨b, off + i * 2 + 1, none⟩ = some (.int .i64 f.2)) ∧ I64 f.1 ∧ I64 f.2) := by
      intro i hi
      obtain ⟨cs', h1, h2⟩ := hx i (by omega)
      rw [cellsPair] at h1
      obtain ⟨_, hlen, hcell⟩ := World.cells?_some h1
      obtain ⟨xs, k, hk, hxy, _, hxl, hf⟩ := DataW.trod_array Tryz.underlying46 h2
      match cs', hlen with
      | [v0, v1], _ =>
        have g0 := hf 0 (by omega)
        have g1 := hf 1 (by omega)
        match xs, hxl with
        | [y0, y1], _ =>
          simp [cellsI12] at g0 g1
          obtain ⟨n0, e0, _, w0⟩ := DataW.trod_int Tryz.underlying3 g0
          obtain ⟨n1, e1, _, w1⟩ := DataW.trod_int Tryz.underlying3 g1
          simp at e0 e1
          subst e0 e1
          obtain ⟨b, off, spot⟩ := ad
          have hsp : spot = none := hspot (by omega)
          subst hsp
          have hcc : ∀ j, j < 2 → w.cell? ⟨b, off + i * 2 + j, none⟩ = [Value.int .i64 n0, .int .i64 n1][j]? := fun j hj => by
            have := hcell j hj
            rw [plain_add, plain_add] at this
            exact this
          exact ⟨(n0, n1), b, off, rfl, lt_of_cell (hcc 0 (by omega)), ⟨hcc 0 (by omega), hcc 1 (by omega)⟩, i64_wf w0, i64_wf w1⟩
    obtain ⟨g, hg⟩ := Deep.choose_lt (α := Int × Int) (n := len) (p := fun i f => ∃ b off, ad = ⟨b, off, none⟩ ∧ b < w.heap.size ∧ ((w.cell? ⟨b, off + i * 2, none⟩ = some (.int .i64 f.1) ∧ w.cell? ⟨b, off + i * 2 + 1, none⟩ = some (.int .i64 f.2)) ∧ I64 f.1 ∧ I64 f.2)) each
    refine ⟨g, ⟨hl, hm, fun h0 => ?_⟩⟩
    obtain ⟨b, off, e, hb, _⟩ := hg 0 h0
    refine ⟨b, off, by rw [e], hb, fun i hi => ?_⟩
    obtain ⟨b', off', e', _, hF⟩ := hg i hi
    rw [e] at e'
    cases e'
    exact hF
end Go.Proofs.YtgamakejaknagaaGreat
