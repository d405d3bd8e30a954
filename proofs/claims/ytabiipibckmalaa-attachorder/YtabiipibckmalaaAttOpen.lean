/-
  A slice of found blocks that came in.
-/
import Derived.Deep.Slices
import Derived.ProofKit
import Derived.OpenShut
import Derived.Test.YtabiipibckmalaaAttPlain
import Derived.Test.YtabiipibckmalaaRows
namespace Go.Proofs.Ytabiipibckmalaa
open Go.RowKit Go.Maps Go.ChangeShapes
set_option linter.unusedVariables false
set_option maxRecDepth 8192

theorem cellsFnd : Try.prog.cellsOf 26 = 5 := by kernel_rfl
theorem cellsHd : Try.prog.cellsOf 24 = 3 := by kernel_rfl
theorem cellsI10 : Try.prog.cellsOf 3 = 1 := by kernel_rfl
theorem cellsB10 : Try.prog.cellsOf 4 = 1 := by kernel_rfl

/-- Found blocks that came in. -/
theorem founds_of {H : Type} {enc : TypeId × Value → H} {w : World} {base : Nat} {held : Bool} {fuel : Nat} {a : Option Addr} {len cap : Nat} {x : DataW H × List MemPlace}
    (h : DataW.trod enc Try.prog w base (fun _ => true) held fuel 22 [.slice a len cap] = some x) : ∃ fs, FRow w a len cap fs := by
  rcases Deep.open_slice Try.underlying22 h with ⟨hcs, _⟩ | ⟨ad, l, c, m, n, D, Pl, hcs, hb, hl, hm, hmm, _, hx⟩
  · simp at hcs
    obtain ⟨rfl, rfl, rfl⟩ := hcs
    exact ⟨[], ⟨rfl, Nat.le_refl _, Nat.zero_le _, fun _ => rfl, fun h => absurd h (by omega)⟩⟩
  · simp at hcs
    obtain ⟨rfl, rfl, rfl⟩ := hcs
    simp only [if_true] at hmm
    subst hmm
    have hspot : 0 < len → ad.spot = none := fun h0 => by
      obtain ⟨cs', h1, _⟩ := hx 0 (by omega)
      rw [cellsFnd] at h1
      obtain ⟨_, hlen, hcell⟩ := World.cells?_some h1
      have hc0 := hcell 0 (by omega)
      match cs', hlen with
      | v0 :: _, _ =>
        have hh : w.cell? ad = some v0 := by simpa [Addr.add] using hc0
        exact World.cell?_spot hh
    have each : ∀ i, i < len → ∃ f : Fnd, ∃ b off, ad = ⟨b, off, none⟩ ∧ b < w.heap.size ∧ FAt w b (off + i * 5) f := by
      intro i hi
      obtain ⟨cs', h1, h2⟩ := hx i (by omega)
      rw [cellsFnd] at h1
      obtain ⟨_, hlen, hcell⟩ := World.cells?_some h1
      obtain ⟨xs, k, hk, hxy, _, hxl, hf⟩ := DataW.trod_struct Try.underlying26 h2
      match cs', hlen with
      | [v0, v1, v2, v3, v4], _ =>
        have g0 := hf 0 _ rfl
        have g1 := hf 1 _ rfl
        have g2 := hf 2 _ rfl
        match xs, hxl with
        | [y0, y1, y2], _ =>
          simp [cellsI10, cellsHd, cellsB10] at g0 g1 g2
          obtain ⟨n0, e0, _, w0⟩ := DataW.trod_int Try.underlying3 g0
          obtain ⟨zs, k2, _, _, _, hzl, hf2⟩ := DataW.trod_struct Try.underlying24 g1
          obtain ⟨b4, e4, _⟩ := DataW.trod_bool Try.underlying4 g2
          have k0 := hf2 0 _ rfl
          have k1 := hf2 1 _ rfl
          have k2 := hf2 2 _ rfl
          match zs, hzl with
          | [z0, z1, z2], _ =>
            simp [cellsI10] at k0 k1 k2
            obtain ⟨n1, e1, _, w1⟩ := DataW.trod_int Try.underlying3 k0
            obtain ⟨n2, e2, _, w2⟩ := DataW.trod_int Try.underlying3 k1
            obtain ⟨n3, e3, _, w3⟩ := DataW.trod_int Try.underlying3 k2
            simp at e0 e1 e2 e3 e4
            subst e0 e1 e2 e3 e4
            obtain ⟨b, off, spot⟩ := ad
            have hsp : spot = none := hspot (by omega)
            subst hsp
            have hcc : ∀ j, j < 5 → w.cell? ⟨b, off + i * 5 + j, none⟩ = [Value.int .i64 n0, .int .i64 n1, .int .i64 n2, .int .i64 n3, .bool b4][j]? := fun j hj => by
              have := hcell j hj
              rw [plain_add, plain_add] at this
              exact this
            exact ⟨⟨n0, n1, n2, n3, b4⟩, b, off, rfl, lt_of_cell (hcc 0 (by omega)), FAt.of_cells hcc⟩
    obtain ⟨g, hg⟩ := Deep.choose_lt (α := Fnd) (n := len) (p := fun i f => ∃ b off, ad = ⟨b, off, none⟩ ∧ b < w.heap.size ∧ FAt w b (off + i * 5) f) each
    refine ⟨(List.range len).map g, ⟨by simp, hl, hm, by simp, fun h0 => ?_⟩⟩
    obtain ⟨b, off, e, hb, _⟩ := hg 0 h0
    refine ⟨b, off, by rw [e], hb, fun i hi => ?_⟩
    obtain ⟨b', off', e', _, hF⟩ := hg i hi
    rw [e] at e'
    cases e'
    simpa [hi] using hF
end Go.Proofs.Ytabiipibckmalaa
