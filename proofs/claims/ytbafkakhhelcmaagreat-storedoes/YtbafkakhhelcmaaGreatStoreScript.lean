/-
 Layer 11's script of calls that came in: a slice of structs of six fields, one of which is a slice; few. (Out of DriveScript.)
-/
import Derived.Deep.Slices
import Derived.ProofKit
import Derived.OpenShut
import Derived.Test.YtbafkakhhelcmaaGreatStoreAwake
namespace Go.Proofs.YtbafkakhhelcmaaGreat
open Go.RowKit Go.Maps Go.ChangeShapes
set_option linter.unusedVariables false
set_option maxRecDepth 8192

/-- A call of a script. -/
structure SOp where
 kind : Int
 leb : Int
 block : Int
 n : Int
 keep : Int
 ra : Option Addr
 rl : Nat
 rc : Nat
 rz : List Int
instance : Inhabited SOp := ⟨⟨0, 0, 0, 0, 0, none, 0, 0, []⟩⟩
/-- What is told of a call. -/
structure SOpOk (w : World) (o : SOp) : Prop where
 kind : I64 o.kind
 leb : I64 o.leb
 block : I64 o.block
 n : I64 o.n
 keep : I64 o.keep
 raw : Row .u8 w o.ra o.rl o.rc o.rz
 rb : IsB o.rz
/-- A call's six cells. -/
structure SOpCells (w : World) (b o : Nat) (v : SOp) : Prop where
 c0 : w.cell? ⟨b, o, none⟩ = some (.int .i64 v.kind)
 c1 : w.cell? ⟨b, o + 1, none⟩ = some (.int .i64 v.leb)
 c2 : w.cell? ⟨b, o + 2, none⟩ = some (.int .i64 v.block)
 c3 : w.cell? ⟨b, o + 3, none⟩ = some (.int .i64 v.n)
 c4 : w.cell? ⟨b, o + 4, none⟩ = some (.int .i64 v.keep)
 c5 : w.cell? ⟨b, o + 5, none⟩ = some (.slice v.ra v.rl v.rc)
theorem SOpCells.same {w w' : World} {b o : Nat} {v : SOp} (h : SOpCells w b o v) (hb : w'.heap[b]? = w.heap[b]?) : SOpCells w' b o v := by
 have e : ∀ i, w'.cell? ⟨b, i, none⟩ = w.cell? ⟨b, i, none⟩ := fun i => World.cell?_of_block (w := w) hb
 exact ⟨(e _).trans h.c0, (e _).trans h.c1, (e _).trans h.c2, (e _).trans h.c3, (e _).trans h.c4, (e _).trans h.c5⟩
/-- The script (a, len, cap) reads in w as these calls. -/
structure SScriptAt (w : World) (a : Option Addr) (len cap : Nat) (ops : Nat → SOp) : Prop where
 max : len ≤ maxLen
 le : len ≤ cap
 cells : ∀ i, i < len → ∃ b off, a = some ⟨b, off, none⟩ ∧ b < w.heap.size ∧ SOpCells w b (off + i * 6) (ops i)
 ok : ∀ i, i < len → SOpOk w (ops i)
theorem SScriptAt.below {w w' : World} {a : Option Addr} {len cap : Nat} {ops : Nat → SOp} (h : SScriptAt w a len cap ops) {B : Nat} (q : Below B w w') (hB : w.heap.size ≤ B) : SScriptAt w' a len cap ops := by
 refine ⟨h.max, h.le, fun i hi => ?_, fun i hi => ?_⟩
 ·obtain ⟨b, off, e, hb, hc⟩ := h.cells i hi
  exact ⟨b, off, e, by have := q.size; omega, hc.same (q.block b (by omega))⟩
 ·obtain ⟨h1, h2, h3, h4, h5, h6, h7⟩ := h.ok i hi
  exact ⟨h1, h2, h3, h4, h5, h6.below q hB, h7⟩

section
variable {H : Type} {enc : TypeId × Value → H} {P : Program} {w : World} {base : Nat} {spare : Nat → Bool} {held : Bool}
/-- A slice of integers in a cell. -/
theorem srow_of_trod {t e : TypeId} {k : IntKind} {fuel : Nat} {v : Value} {x : DataW H × List MemPlace} (ht : P.underlying t = some (.slice e)) (he : P.underlying e = some (.int k)) (hc : P.cellsOf e = 1) (h : DataW.trod enc P w base (fun _ => true) held fuel t [v] = some x) :
  ∃ a len cap z, v = .slice a len cap ∧ Row k w a len cap z ∧ ∀ n ∈ z, (Lit.int k n).wf = true := by
 rcases open_ints ht he hc h with ⟨hcs, _⟩ | ⟨a, len, cap, zs, hcs, _, hl, hm, hz, _, hcell, hwz⟩
 ·simp at hcs
  subst hcs
  exact ⟨none, 0, 0, [], rfl, ⟨rfl, Nat.le_refl _, Nat.zero_le _, fun _ => rfl, fun h => absurd h (by omega)⟩, by simp⟩
 ·simp at hcs
  subst hcs
  have r := row_of_is (k := k) (w := w) (a := some a) (len := len) (cap := cap) (zs := zs) (.inr ⟨a, rfl, hl, hm, by simpa using hz, hcell, hwz⟩)
  exact ⟨some a, len, cap, _, rfl, r.1, r.2⟩
end

theorem scellsOp : Tryz.prog.cellsOf 45 = 6 := by kernel_rfl
theorem scellsInt : Tryz.prog.cellsOf 3 = 1 := by kernel_rfl
theorem scellsU8 : Tryz.prog.cellsOf 5 = 1 := by kernel_rfl
theorem scellsBytes : Tryz.prog.cellsOf 43 = 1 := by kernel_rfl

/-- A script that came in. -/
theorem sscript_of {H : Type} {enc : TypeId × Value → H} {w : World} {base : Nat} {held : Bool} {fuel : Nat} {a : Option Addr} {len cap : Nat} {x : DataW H × List MemPlace}
  (h : DataW.trod enc Tryz.prog w base (fun _ => true) held fuel 25 [.slice a len cap] = some x) : ∃ ops, SScriptAt w a len cap ops := by
 rcases Deep.open_slice Tryz.underlying25 h with ⟨hcs, _⟩ | ⟨ad, l, c, m, n, D, Pl, hcs, hb, hl, hm, hmm, _, hx⟩
 ·simp at hcs
  obtain ⟨rfl, rfl, rfl⟩ := hcs
  exact ⟨fun _ => ⟨0, 0, 0, 0, 0, none, 0, 0, []⟩, ⟨Nat.zero_le _, Nat.le_refl _, fun i hi => absurd hi (by omega), fun i hi => absurd hi (by omega)⟩⟩
 ·simp at hcs
  obtain ⟨rfl, rfl, rfl⟩ := hcs
  simp only [if_true] at hmm
  subst hmm
  have hspot : 0 < len → ad.spot = none := fun h0 => by
   obtain ⟨cs', h1, _⟩ := hx 0 (by omega)
   rw [scellsOp] at h1
   obtain ⟨_, hlen, hcell⟩ := World.cells?_some h1
   have hc0 := hcell 0 (by omega)
   match cs', hlen with
   | v0 :: _, _ =>
    have hh : w.cell? ad = some v0 := by simpa [Addr.add] using hc0
    exact World.cell?_spot hh
  have each : ∀ i, i < len → ∃ o : SOp, (∃ b off, some ad = some ⟨b, off, none⟩ ∧ b < w.heap.size ∧ SOpCells w b (off + i * 6) o) ∧ SOpOk w o := by
   intro i hi
   obtain ⟨cs', h1, h2⟩ := hx i (by omega)
   rw [scellsOp] at h1
   obtain ⟨_, hlen, hcell⟩ := World.cells?_some h1
   obtain ⟨xs, k, hk, hxy, _, hxl, hf⟩ := DataW.trod_struct Tryz.underlying45 h2
   match cs', hlen with
   | [v0, v1, v2, v3, v4, v5], _ =>
    have g0 := hf 0 _ rfl
    have g1 := hf 1 _ rfl
    have g2 := hf 2 _ rfl
    have g3 := hf 3 _ rfl
    have g4 := hf 4 _ rfl
    have g5 := hf 5 _ rfl
    match xs, hxl with
    | [y0, y1, y2, y3, y4, y5], _ =>
     simp [scellsInt, scellsBytes] at g0 g1 g2 g3 g4 g5
     obtain ⟨n0, e0, _, w0⟩ := DataW.trod_int Tryz.underlying3 g0
     obtain ⟨n1, e1, _, w1⟩ := DataW.trod_int Tryz.underlying3 g1
     obtain ⟨n2, e2, _, w2⟩ := DataW.trod_int Tryz.underlying3 g2
     obtain ⟨n3, e3, _, w3⟩ := DataW.trod_int Tryz.underlying3 g3
     obtain ⟨n4, e4, _, w4⟩ := DataW.trod_int Tryz.underlying3 g4
     obtain ⟨a5, l5, c5, z5, e5, r5, w5⟩ := srow_of_trod Tryz.underlying43 Tryz.underlying5 scellsU8 g5
     simp at e0 e1 e2 e3 e4
     subst e0 e1 e2 e3 e4 e5
     obtain ⟨b, off, spot⟩ := ad
     have hsp : spot = none := hspot (by omega)
     subst hsp
     have hcc : ∀ j, j < 6 → w.cell? ⟨b, off + i * 6 + j, none⟩ = [Value.int .i64 n0, .int .i64 n1, .int .i64 n2, .int .i64 n3, .int .i64 n4, .slice a5 l5 c5][j]? := fun j hj => by
      have := hcell j hj
      rw [plain_add, plain_add] at this
      exact this
     refine ⟨⟨n0, n1, n2, n3, n4, a5, l5, c5, z5⟩, ⟨b, off, rfl, ?_, ⟨hcc 0 (by omega), hcc 1 (by omega), hcc 2 (by omega), hcc 3 (by omega), hcc 4 (by omega), hcc 5 (by omega)⟩⟩,
      ⟨bounds_i64 w0, bounds_i64 w1, bounds_i64 w2, bounds_i64 w3, bounds_i64 w4, r5, fun v hv => bounds_u8 (w5 v hv)⟩⟩
     have hlt := lt_of_cell (hcc 0 (by omega))
     exact hlt
  obtain ⟨ops, hops⟩ := Deep.choose_lt (α := SOp) (n := len) (p := fun i o => (∃ b off, some ad = some ⟨b, off, none⟩ ∧ b < w.heap.size ∧ SOpCells w b (off + i * 6) o) ∧ SOpOk w o) each
  exact ⟨ops, ⟨by omega, hl, fun i hi => (hops i hi).1, fun i hi => (hops i hi).2⟩⟩

/-- Is a script looked at? -/
def sfewB (len : Nat) (ops : Nat → SOp) : Bool := decide (len ≤ 80 ∧ ∀ i, i < len → (ops i).rl ≤ 200)
set_option maxHeartbeats 800000 in
theorem sfew_any (a : Option Addr) (len cap : Nat) (ops : Nat → SOp) (w : World) (h : SScriptAt w a len cap ops) : Calls Tryz.prog 10 #[.slice a len cap] w fun e w' => e = .returned (.bool (sfewB len ops)) ∧ w = w' := by
 have hm := h.max
 unfold maxLen at hm
 by_cases h200 : 80 < len
 ·have HF : Hid (sfewB len ops = false) := by show _ = _; unfold sfewB; rw [decide_eq_false_iff_not]; omega
  have h2 : (80 : Int) < (len : Int) := by omega
  go_enter Tryz.func10, Tryz.ntmps10
  go_wp2_with fail
  go_ret
  exact ⟨ret_bool HF.out.symm, rfl⟩
 ·have h2 : ¬ (80 : Int) < (len : Int) := by omega
  have HNO : Hid (∀ i, i < len → ¬ (ops i).rl ≤ 200 → sfewB len ops = false) := fun i hi hn => by unfold sfewB; rw [decide_eq_false_iff_not]; exact fun hh => hn (hh.2 i hi)
  have HYES : Hid ((∀ i, i < len → (ops i).rl ≤ 200) → sfewB len ops = true) := fun hh => by unfold sfewB; rw [decide_eq_true_iff]; exact ⟨by omega, hh⟩
  go_enter Tryz.func10, Tryz.ntmps10
  go_wp2_with fail
  go_loopw [3] (fun i wr => wr = w ∧ ∃ n : Nat, n ≤ len ∧ i = .int .i64 (n : Int) ∧ Hid (∀ j, j < n → (ops j).rl ≤ 200)) (fun i _ => len - (RowKit.intOf i).toNat)
  case atStart => exact ⟨rfl, 0, Nat.zero_le _, rfl, fun j hj => absurd hj (by omega)⟩
  case round =>
   obtain ⟨rfl, n, hn, rfl, HI⟩ := hrel
   by_cases hlt : n < len
   ·have hlt' : (n : Int) < (len : Int) := by omega
    obtain ⟨b, off, rfl, hb, hc⟩ := h.cells n hlt
    have ho := h.ok n hlt
    have h4 := hc.c5
    have HO : Hid (¬ (ops n).rl ≤ 200 → sfewB len ops = false) := HNO.out n hlt
    have HS : Hid ((ops n).rl ≤ 200 → ∀ j, j < n + 1 → (ops j).rl ≤ 200) := fun h1 j hj => by
     rcases Nat.lt_or_ge j n with hh | hh
     ·exact HI.out j hh
     ·have : j = n := by omega
      rw [this]; exact h1
    have hrm := ho.raw.hmax
    have hrc := ho.raw.hcap
    unfold maxLen at hrm
    clear HI ho hc
    generalize (ops n).ra = ra at *
    generalize (ops n).rl = rl at *
    generalize (ops n).rc = rc at *
    go_wp2_with fail
    all_goals first
     | (go_ret; refine ⟨ret_bool (HO.out (by omega)).symm, rfl⟩)
     | (go_roundw; (case rel => first | exact ⟨rfl, n + 1, by omega, by go_num, HS.out (by omega)⟩ | exact ⟨trivial, n + 1, by omega, by go_num, HS.out (by omega)⟩); (case measure => simp [RowKit.intOf]; omega))
   ·have e : n = len := by omega
    subst e
    go_wp2_with fail
    go_ret
    exact ⟨ret_bool (HYES.out HI.out).symm, rfl⟩
end Go.Proofs.YtbafkakhhelcmaaGreat
