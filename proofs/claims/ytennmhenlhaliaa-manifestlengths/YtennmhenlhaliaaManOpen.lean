/-
  Layer 20: a manifest that came in.
-/
import Derived.Deep.Slices
import Derived.ProofKit
import Derived.OpenShut
import Derived.Test.YtennmhenlhaliaaManBase
import Derived.Test.YtennmhenlhaliaaRows
namespace Go.Proofs.Ytennmhenlhaliaa.N
open Go.RowKit Go.Maps Go.ChangeShapes
set_option linter.unusedVariables false
set_option maxRecDepth 8192

def intOf20 : Value → Int
  | .int _ z => z
  | _ => 0
theorem bounds_u8 {n : Int} (h : (Lit.int .u8 n).wf = true) : 0 ≤ n ∧ n ≤ 255 := by
  simp [Lit.wf, IntKind.min, IntKind.max, IntKind.signed, IntKind.bits] at h
  omega
/-- 32 bytes of a digest, as cells. -/
theorem trod_dig {H : Type} {enc : TypeId × Value → H} {P : Program} {w : World} {base : Nat} {spare : Nat → Bool} {held : Bool} {fuel : Nat} {t e : TypeId} {cs : List Value} {x : DataW H × List MemPlace}
    (ht : P.underlying t = some (.array 32 e)) (hC : P.cellsOf t = 32) (he : P.underlying e = some (.int .u8)) (hce : P.cellsOf e = 1)
    (hf : DataW.trod enc P w base spare held fuel t cs = some x) : ∃ d : List Int, d.length = 32 ∧ IsB d ∧ cs = d.map (Value.int .u8) := by
  obtain ⟨xs, m, _, hx, hcl, hlen, hfi⟩ := DataW.trod_array ht hf
  rw [hC] at hcl
  have g : ∀ i, i < 32 → ∃ n : Int, (0 ≤ n ∧ n ≤ 255) ∧ cs[i]? = some (.int .u8 n) := by
    intro i hi
    have h1 := hfi i hi
    have hil : i < cs.length := by omega
    have e1 : ((cs.drop (i * P.cellsOf e)).take (P.cellsOf e)) = [cs[i]] := by
      rw [hce, Nat.mul_one, List.take_one, List.head?_drop, List.getElem?_eq_getElem hil]
      rfl
    rw [e1, List.getElem?_eq_getElem (show i < xs.length by omega)] at h1
    obtain ⟨n, en, hd, wn⟩ := DataW.trod_int he h1
    refine ⟨n, bounds_u8 wn, ?_⟩
    rw [List.getElem?_eq_getElem hil]
    simp only [List.cons.injEq, and_true] at en
    rw [en]
  refine ⟨cs.map intOf20, by rw [List.length_map]; exact hcl, fun y hy => ?_, ?_⟩
  · obtain ⟨v, hv, rfl⟩ := List.mem_map.1 hy
    obtain ⟨i, hi, rfl⟩ := List.mem_iff_getElem.1 hv
    obtain ⟨n, hn, e2⟩ := g i (by omega)
    rw [List.getElem?_eq_getElem hi] at e2
    simp only [Option.some.injEq] at e2
    rw [e2]
    exact hn
  · apply List.ext_getElem?
    intro i
    rcases Nat.lt_or_ge i 32 with hi | hi
    · obtain ⟨n, _, e2⟩ := g i hi
      rw [e2]
      simp [e2, intOf20]
    · rw [List.getElem?_eq_none (by omega), List.getElem?_eq_none (by simp; omega)]
theorem cSg : Try.prog.cellsOf 45 = 34 := by kernel_rfl
theorem cMf : Try.prog.cellsOf 24 = 5 := by kernel_rfl
theorem cI20 : Try.prog.cellsOf 3 = 1 := by kernel_rfl
theorem cU20 : Try.prog.cellsOf 5 = 1 := by kernel_rfl
theorem cD20 : Try.prog.cellsOf 43 = 32 := by kernel_rfl
theorem cS20 : Try.prog.cellsOf 22 = 1 := by kernel_rfl
/-- A segment that came in. -/
theorem trod_sg {H : Type} {enc : TypeId × Value → H} {w : World} {base : Nat} {spare : Nat → Bool} {held : Bool} {fuel : Nat} {cs : List Value} {x : DataW H × List MemPlace} (hl : cs.length = 34)
    (hf : DataW.trod enc Try.prog w base spare held fuel 45 cs = some x) : ∃ s : Sg, s.Ok ∧ cs = sC s := by
  obtain ⟨xs, k, hk, hxy, _, hxl, hfi⟩ := DataW.trod_struct Try.underlying45 hf
  have g0 := hfi 0 _ rfl
  have g1 := hfi 1 _ rfl
  have g2 := hfi 2 _ rfl
  match cs, hl with
  | v0 :: v1 :: rest, hl =>
    have e3 : rest.take 32 = rest := List.take_of_length_le (by simp at hl; omega)
    match xs, hxl with
    | [y0, y1, y2], _ =>
      simp [cI20, cD20, e3] at g0 g1 g2
      obtain ⟨n0, e0, _, _⟩ := DataW.trod_int Try.underlying3 g0
      obtain ⟨n1, e1, _, _⟩ := DataW.trod_int Try.underlying3 g1
      obtain ⟨d, hd1, hd2, e2⟩ := trod_dig Try.underlying43 cD20 Try.underlying5 cU20 g2
      simp at e0 e1
      subst e0 e1
      refine ⟨⟨n0, n1, d⟩, ⟨hd1, hd2⟩, ?_⟩
      rw [e2]
      rfl
/-- A list of segments that came in. -/
theorem segs_of {H : Type} {enc : TypeId × Value → H} {w : World} {base : Nat} {held : Bool} {fuel : Nat} {c : Value} {x : DataW H × List MemPlace}
    (h : DataW.trod enc Try.prog w base (fun _ => true) held fuel 22 [c] = some x) : ∃ a n cap l, c = .slice a n cap ∧ SegRow w a n cap l ∧ ∀ s ∈ l, s.Ok := by
  rcases Deep.open_slice Try.underlying22 h with ⟨hcs, _⟩ | ⟨ad, l, cc, m, n, D, Pl, hcs, hb, hl, hm, hmm, _, hx⟩
  · simp at hcs
    subst hcs
    exact ⟨none, 0, 0, [], rfl, segRow_nil w, fun s hs => by cases hs⟩
  · simp at hcs
    subst hcs
    simp only [if_true] at hmm
    subst hmm
    have hspot : 0 < l → ad.spot = none := fun h0 => by
      obtain ⟨cs', h1, _⟩ := hx 0 (by omega)
      rw [cSg] at h1
      obtain ⟨_, hlen, hcell⟩ := World.cells?_some h1
      have hc0 := hcell 0 (by omega)
      match cs', hlen with
      | v0 :: _, _ =>
        have hh : w.cell? ad = some v0 := by simpa [Addr.add] using hc0
        exact World.cell?_spot hh
    have each : ∀ i, i < l → ∃ s : Sg, ∃ b off, ad = ⟨b, off, none⟩ ∧ b < w.heap.size ∧ s.Ok ∧ w.rangeAt b (off + i * 34) (sC s) := by
      intro i hi
      obtain ⟨cs', h1, h2⟩ := hx i (by omega)
      rw [cSg] at h1
      obtain ⟨_, hlen, hcell⟩ := World.cells?_some h1
      obtain ⟨s, hs, rfl⟩ := trod_sg hlen h2
      obtain ⟨b, off, spot⟩ := ad
      have hsp : spot = none := hspot (by omega)
      subst hsp
      have hc : w.rangeAt b (off + i * 34) (sC s) := fun j v hv => by
        have hj : j < 34 := by rw [← sC_len hs]; exact (List.getElem?_eq_some_iff.1 hv).1
        have h3 := hcell j hj
        rw [plain_add, plain_add] at h3
        rw [h3, hv]
      exact ⟨s, b, off, rfl, lt_of_cell (hc 0 _ rfl), hs, hc⟩
    letI : Inhabited Sg := ⟨sg0⟩
    obtain ⟨f, hf⟩ := Deep.choose_lt (α := Sg) (n := l) (p := fun i s => ∃ b off, ad = ⟨b, off, none⟩ ∧ b < w.heap.size ∧ s.Ok ∧ w.rangeAt b (off + i * 34) (sC s)) each
    refine ⟨some ad, l, m, (List.range l).map f, rfl, ⟨by simp, hl, hm, by simp, fun h0 => ?_⟩, fun s hs => ?_⟩
    · obtain ⟨b, off, e, hb, _⟩ := hf 0 h0
      refine ⟨b, off, by rw [e], hb, fun i hi => ?_⟩
      obtain ⟨b', off', e', _, _, hF⟩ := hf i hi
      rw [e] at e'
      cases e'
      have : sgI ((List.range l).map f) i = f i := by simp [sgI, hi]
      rw [this]
      exact hF
    · obtain ⟨i, hi, rfl⟩ := List.mem_map.1 hs
      obtain ⟨_, _, _, _, h3, _⟩ := hf i (List.mem_range.1 hi)
      exact h3
/-- A manifest that came in. -/
theorem mani_of {H : Type} {enc : TypeId × Value → H} {w : World} {base : Nat} {held : Bool} {r : Reach} {b0 : Nat} {v : Value} {d : DataW H} {p : List MemPlace}
    (hv : Value.okWide Try.prog w r b0 24 v) (h : DataW.Trod enc Try.prog w base (fun _ => true) held 24 v d p) :
    ∃ x y z u a n cap l, v = .agg #[.int .i64 x, .int .i64 y, .int .i64 z, .int .i64 u, .slice a n cap] ∧ SegRow w a n cap l ∧ ∀ s ∈ l, s.Ok := by
  obtain ⟨cs, rfl, hsz⟩ := WideShapes.okWide_struct Try.underlying24 hv
  obtain ⟨lc⟩ := cs
  have hl : lc.length = 5 := hsz.trans cMf
  match lc, hl with
  | [c0, c1, c2, c3, c4], _ =>
    obtain ⟨fuel, hf⟩ := h
    obtain ⟨xs, k, hk, hxy, _, hxl, hfi⟩ := DataW.trod_struct Try.underlying24 hf
    have g0 := hfi 0 _ rfl
    have g1 := hfi 1 _ rfl
    have g2 := hfi 2 _ rfl
    have g3 := hfi 3 _ rfl
    have g4 := hfi 4 _ rfl
    match xs, hxl with
    | [y0, y1, y2, y3, y4], _ =>
    simp [cI20, cS20, Value.cells] at g0 g1 g2 g3 g4
    obtain ⟨n0, e0, _, _⟩ := DataW.trod_int Try.underlying3 g0
    obtain ⟨n1, e1, _, _⟩ := DataW.trod_int Try.underlying3 g1
    obtain ⟨n2, e2, _, _⟩ := DataW.trod_int Try.underlying3 g2
    obtain ⟨n3, e3, _, _⟩ := DataW.trod_int Try.underlying3 g3
    simp at e0 e1 e2 e3
    subst e0 e1 e2 e3
    obtain ⟨a, n, cap, l, rfl, hr, ho⟩ := segs_of g4
    exact ⟨n0, n1, n2, n3, a, n, cap, l, rfl, hr, ho⟩
end Go.Proofs.Ytennmhenlhaliaa.N
