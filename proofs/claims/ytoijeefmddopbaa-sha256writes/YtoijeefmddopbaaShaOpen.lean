/-
  Layer 13: an array of eight uint32 that came in; slices of byte slices that came in.
-/
import Derived.Deep.Slices
import Derived.ProofKit
import Derived.OpenShut
import Derived.Test.YtoijeefmddopbaaShaLaws
import Derived.Test.YtoijeefmddopbaaRows
namespace Go.Proofs.Ytoijeefmddopbaa
open Go.RowKit Go.Maps Go.ChangeShapes
set_option linter.unusedVariables false
set_option maxRecDepth 8192

theorem bounds_u32 {n : Int} (h : (Lit.int .u32 n).wf = true) : 0 ≤ n ∧ n ≤ 4294967295 := by
  simp [Lit.wf, IntKind.min, IntKind.max, IntKind.signed, IntKind.bits] at h
  omega
/-- Eight words that came in. -/
theorem open_words8 {H : Type} {enc : TypeId × Value → H} {P : Program} {w : World} {base : Nat} {spare : Nat → Bool} {held : Bool} {r : Reach} {b0 : Nat} {t e : TypeId} {v : Value} {d : DataW H} {p : List MemPlace}
    (ht : P.underlying t = some (.array 8 e)) (hC : P.cellsOf t = 8) (he : P.underlying e = some (.int .u32)) (hce : P.cellsOf e = 1)
    (hv : Value.okWide P w r b0 t v) (h : DataW.Trod enc P w base spare held t v d p) : ∃ s : S8, s.Ok ∧ v = .agg ((nI s.list).map (Value.int .u32)).toArray := by
  simp only [Value.okWide, ht] at hv
  obtain ⟨cs, rfl, hsz, _⟩ := hv
  rw [hC] at hsz
  obtain ⟨fuel, hf⟩ := h
  obtain ⟨xs, m, _, hx, _, hlen, hfi⟩ := DataW.trod_array ht hf
  have g : ∀ i, i < 8 → ∃ n : Nat, n < 4294967296 ∧ cs.toList[i]? = some (.int .u32 (n : Int)) := by
    intro i hi
    have h1 := hfi i hi
    have hil : i < cs.toList.length := by simp; omega
    have e1 : (((Value.agg cs).cells.toList.drop (i * P.cellsOf e)).take (P.cellsOf e)) = [cs.toList[i]] := by
      rw [hce, Nat.mul_one]
      show (cs.toList.drop i).take 1 = _
      rw [List.take_one, List.head?_drop, List.getElem?_eq_getElem hil]
      rfl
    rw [e1, List.getElem?_eq_getElem (show i < xs.length by omega)] at h1
    obtain ⟨n, en, _, wn⟩ := DataW.trod_int he h1
    have hb := bounds_u32 wn
    refine ⟨n.toNat, by omega, ?_⟩
    rw [List.getElem?_eq_getElem hil]
    simp only [List.cons.injEq, and_true] at en
    rw [en]
    congr 2
    omega
  obtain ⟨n0, l0, e0⟩ := g 0 (by omega)
  obtain ⟨n1, l1, e1⟩ := g 1 (by omega)
  obtain ⟨n2, l2, e2⟩ := g 2 (by omega)
  obtain ⟨n3, l3, e3⟩ := g 3 (by omega)
  obtain ⟨n4, l4, e4⟩ := g 4 (by omega)
  obtain ⟨n5, l5, e5⟩ := g 5 (by omega)
  obtain ⟨n6, l6, e6⟩ := g 6 (by omega)
  obtain ⟨n7, l7, e7⟩ := g 7 (by omega)
  refine ⟨⟨n0, n1, n2, n3, n4, n5, n6, n7⟩, ⟨l0, l1, l2, l3, l4, l5, l6, l7⟩, ?_⟩
  congr 1
  apply Array.toList_inj.1
  apply List.ext_getElem?
  intro i
  rcases Nat.lt_or_ge i 8 with hi | hi
  · rcases (show i = 0 ∨ i = 1 ∨ i = 2 ∨ i = 3 ∨ i = 4 ∨ i = 5 ∨ i = 6 ∨ i = 7 by omega) with rfl | rfl | rfl | rfl | rfl | rfl | rfl | rfl
    · exact e0
    · exact e1
    · exact e2
    · exact e3
    · exact e4
    · exact e5
    · exact e6
    · exact e7
  · rw [List.getElem?_eq_none (by simp; omega), List.getElem?_eq_none (by simp [nI, S8.list]; omega)]

/-- A byte slice's place and bytes. -/
structure PartV where
  at_ : Option Addr
  len : Nat
  cap : Nat
  num : List Nat
instance : Inhabited PartV := ⟨⟨none, 0, 0, []⟩⟩
/-- Byte slices, each with its bytes. -/
structure PartsAt (w : World) (a : Option Addr) (len cap : Nat) (R : Nat → PartV) : Prop where
  hlen : len ≤ cap
  hmax : cap ≤ maxLen
  each : 0 < len → ∃ b off, a = some ⟨b, off, none⟩ ∧ b < w.heap.size ∧ ∀ i, i < len → w.cell? ⟨b, off + i, none⟩ = some (.slice (R i).at_ (R i).len (R i).cap) ∧ Row .u8 w (R i).at_ (R i).len (R i).cap (nI (R i).num) ∧ ∀ x ∈ (R i).num, x < 256
theorem cellsU13 : Try.prog.cellsOf 5 = 1 := by kernel_rfl
theorem cellsR13 : Try.prog.cellsOf 36 = 1 := by kernel_rfl
/-- Byte slices that came in. -/
theorem parts_of {H : Type} {enc : TypeId × Value → H} {w : World} {base : Nat} {held : Bool} {fuel : Nat} {a : Option Addr} {len cap : Nat} {x : DataW H × List MemPlace}
    (h : DataW.trod enc Try.prog w base (fun _ => true) held fuel 45 [.slice a len cap] = some x) : ∃ R, PartsAt w a len cap R := by
  rcases Deep.open_slice1 Try.underlying45 cellsR13 h with ⟨hcs, _⟩ | ⟨ad, l, c, m, n, V, D, Pl, hcs, hb, hl, hm, hmm, _, hx⟩
  · simp at hcs
    obtain ⟨rfl, rfl, rfl⟩ := hcs
    exact ⟨fun _ => default, ⟨Nat.le_refl _, Nat.zero_le _, fun h => absurd h (by omega)⟩⟩
  · simp at hcs
    obtain ⟨rfl, rfl, rfl⟩ := hcs
    simp only [if_true] at hmm
    subst hmm
    have hspot : 0 < len → ad.spot = none := fun h0 => by
      have h1 := (hx 0 (by omega)).1
      simpa [Addr.add] using World.cell?_spot h1
    have each : ∀ i, i < len → ∃ f : PartV, ∃ b off, ad = ⟨b, off, none⟩ ∧ b < w.heap.size ∧ w.cell? ⟨b, off + i, none⟩ = some (.slice f.at_ f.len f.cap) ∧ Row .u8 w f.at_ f.len f.cap (nI f.num) ∧ ∀ x ∈ f.num, x < 256 := by
      intro i hi
      obtain ⟨h1, h2⟩ := hx i (by omega)
      obtain ⟨b, off, sp⟩ := ad
      have hsp' : sp = none := hspot (by omega)
      subst hsp'
      have hb' := lt_of_cell h1
      rw [plain_add] at h1 hb'
      obtain ⟨a', l', c', z', hV, w'⟩ : ∃ (a' : Option Addr) (l' c' : Nat) (zs : List Int), V i = .slice a' l' c' ∧ ((a' = none ∧ l' = 0 ∧ c' = 0 ∧ zs = []) ∨ ∃ x, a' = some x ∧ l' ≤ c' ∧ c' ≤ maxLen ∧ zs.length = c' ∧ (∀ i, i < zs.length → w.cell? (x.add i) = some (.int .u8 (zs.getD i 0))) ∧ ∀ n ∈ zs, (Lit.int .u8 n).wf = true) := by
        rcases open_ints Try.underlying36 Try.underlying5 cellsU13 h2 with ⟨hcs, _⟩ | ⟨x, l, c, zs, hcs, _, hl, hm, hz, _, hcell, hwz⟩
        · simp at hcs
          exact ⟨none, 0, 0, [], hcs, .inl ⟨rfl, rfl, rfl, rfl⟩⟩
        · simp at hcs
          exact ⟨some x, l, c, zs, hcs, .inr ⟨_, rfl, hl, hm, by simpa using hz, hcell, hwz⟩⟩
      have r0 := row_of_is w'
      obtain ⟨l, e0, hl0⟩ := bytes_nat (fun n hn => bounds_u8 (r0.2 n hn))
      have q0 := r0.1
      rw [e0] at q0
      rw [hV] at h1
      exact ⟨⟨a', l', c', l⟩, b, off, rfl, hb', h1, q0, hl0⟩
    obtain ⟨g, hg⟩ := Deep.choose_lt (α := PartV) (n := len) (p := fun i f => ∃ b off, ad = ⟨b, off, none⟩ ∧ b < w.heap.size ∧ w.cell? ⟨b, off + i, none⟩ = some (.slice f.at_ f.len f.cap) ∧ Row .u8 w f.at_ f.len f.cap (nI f.num) ∧ ∀ x ∈ f.num, x < 256) each
    refine ⟨g, ⟨hl, hm, fun h0 => ?_⟩⟩
    obtain ⟨b, off, e, hb, _⟩ := hg 0 h0
    refine ⟨b, off, by rw [e], hb, fun i hi => ?_⟩
    obtain ⟨b', off', e', _, hF⟩ := hg i hi
    rw [e] at e'
    cases e'
    exact hF
end Go.Proofs.Ytoijeefmddopbaa
