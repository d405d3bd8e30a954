/-
  The code of layer 4 (bpoly), as it landed: times, Value, packed return what the face asks.
-/
import Derived.Test.YtgamakejaknagaaGreatPackE
import Derived.Test.YtgamakejaknagaaGreatPackD
import Derived.RangeFuncNested
import Derived.RangeFuncBound
import Derived.RangeFuncCalls
import Derived.RangeFuncLeaves
import Derived.RangeFuncFrom
import Derived.Shelf.Abstract
import Derived.Shelf.RegionOpen
import Derived.WalkKit
import Derived.OwnWalkIn
import Derived.TacticsInMore
import Derived.LoopNIn
import Derived.LoopIn
namespace Go.Proofs.YtgamakejaknagaaGreat
open Go.RowKit
set_option linter.unusedVariables false
set_option maxRecDepth 8192

set_option maxHeartbeats 400000 in
theorem btimes_any (a b : Nat) (w : World) (ha : a < 8192) (hb : b < 8192) :
    Calls Tryz.prog 189 #[.int .i64 a, .int .i64 b] w fun e w' => e = .returned (.int .i64 (gmul a b : Nat)) ∧ w = w' := by
  go_enter Tryz.func189, Tryz.ntmps189
  go_wp2_with fail
  refine (gfMul_same a b _ ha hb).mono ?_
  rintro e w' ⟨rfl, rfl⟩
  go_wp2_with fail
  go_ret
  exact ⟨rfl, rfl⟩

set_option maxHeartbeats 1600000 in
set_option maxRecDepth 100000 in
theorem packed_any (a : Option Addr) (len cap : Nat) (l : List Nat) (w : World) (hr : Row .i64 w a len cap (ints l)) (hl : Is01 l) (hsm : len ≤ 4000) :
    Calls Tryz.prog 202 #[.slice a len cap] w (Gives w (pk l)) := by
  obtain ⟨i0, hi0, hz0, hz1, hz2⟩ := info_parts Tryz.info5
  obtain ⟨j0, hj0, hy0, hy1, hy2⟩ := info_parts Tryz.info3
  have HL : Hid (l.length = len) := by have := hr.hlen; rwa [length_ints] at this
  have HT : Hid (turnI (List.replicate ((len + 7) / 8) 0) (onesAt l len) = pk l) := by have := turn_ones hl; rwa [HL.out] at this
  have HIN : Hid (inB ((len + 7) / 8) (onesAt l len) = true) := by show _ = _; rw [inB_iff]; have := onesAt_in hl; rwa [HL.out] at this
  have HOL : Hid (∀ k, (onesAt l k).length ≤ k) := fun k => apartTo_le _ _ _
  have HWF : Hid (∀ n ∈ onesAt l len, (Lit.int .i64 n).wf = true) := by
    intro n hn
    have h := (inB_iff _ _).1 HIN.out n hn
    simp [Lit.wf, IntKind.min, IntKind.max, IntKind.signed, IntKind.bits]
    omega
  have HPL : Hid ((pk l).length = (len + 7) / 8) := by show _ = _; rw [length_pk, HL.out]
  have HH : Hid (∀ k, cf l k = 1 → onesAt l (k + 1) = onesAt l k ++ [(k : Int)]) := fun k h => onesAt_hit hl k h
  have HM : Hid (∀ k, cf l k ≠ 1 → onesAt l (k + 1) = onesAt l k) := fun k h => onesAt_miss hl k h
  go_enter Tryz.func202, Tryz.ntmps202
  go_wp2
  go_loopw [3, 10] (fun v y wr => ∃ i : Nat, i ≤ len ∧ y = .int .i64 i ∧ wr.ownsRow w.heap.size 3 1 v (onesAt l i).length ((onesAt l i).map (Value.int .i64)) ∧ Below w.heap.size w wr) (fun _ y _ => len - (intOf y).toNat)
  case atStart => exact ⟨0, Nat.zero_le _, rfl, World.ownsRow_nil _ _ _ _, Below.refl _ _⟩
  case round =>
    obtain ⟨i, hi, rfl, hown, hnx⟩ := hrel
    have hsz := hnx.size
    by_cases hlt : i < len
    · have hrr := hr.below hnx (Nat.le_refl _)
      obtain ⟨b, off, rfl, hbs, hcell⟩ := hrr.hcell (by omega)
      have hc1 := hcell i hlt
      rw [ints_get] at hc1
      clear hcell hrr
      have hii : (i : Int) < (len : Int) := by omega
      have hol := HOL.out i
      by_cases hv : cf l i = 1
      · have hq : (((cf l i : Nat) : Int) == 1) = true := by simp [hv]
        have HS : Hid (onesAt l (i + 1) = onesAt l i ++ [(i : Int)]) := HH.out i hv
        have HSL : Hid ((onesAt l (i + 1)).length = (onesAt l i).length + 1) := by show _ = _; rw [HS.out]; simp
        clear hv
        generalize onesAt l i = os at *
        generalize hos : os.length = k at *
        go_wp2_with (at_builtin; refine wpList_append_own _ rfl _ _ 32 rfl w.heap.size 3 j0 (.int .i64 0) 1 8 Tryz.underlying32 hj0 hy0 hy1 hy2 rfl (by decide) _ _ _ rfl (hown.alloc _) ⟨wr.heap.size, 0, none⟩ 1 1 [.int .i64 (i : Nat)] rfl rfl (cell_one_new _ _ _) (by intro u hu; simp at hu; subst hu; rfl) (by unfold maxLen; omega) (by omega) (by simp; omega) ?_)
        intro v' w1 hown' hgrow _
        have R := rel_push hsz hown hnx hown' hgrow
        rw [← HS.out, ← HSL.out] at R
        clear hown' hgrow hown hnx
        go_wp2
        go_roundw
        case rel => exact ⟨i + 1, by omega, by go_num, R.1, R.2⟩
        case measure => simp [intOf]; omega
      · have hq : (((cf l i : Nat) : Int) == 1) = false := by simp; omega
        have HS : Hid (onesAt l (i + 1) = onesAt l i) := HM.out i hv
        clear hv
        go_wp2
        go_roundw
        case rel => exact ⟨i + 1, by omega, by go_num, by rw [HS.out]; exact hown, hnx⟩
        case measure => simp [intOf]; omega
    · have e : i = len := by omega
      subst e
      obtain ⟨a5, cp5, rfl, hrow5⟩ := row_of_owns hown
      clear hown
      have hmax : (i + 7) / 8 ≤ maxLen := by unfold maxLen; omega
      have hmk : ∀ w1 : World, w1.ownsRow w.heap.size 5 1 (.slice (some ⟨wr.heap.size, 0, none⟩) ((i + 7) / 8) ((i + 7) / 8)) ((i + 7) / 8) (madeCells (Value.int IntKind.u8 0).cells (((i + 7) / 8) * 1)).toList → wr.grownBy w1 none →
          Row .u8 w1 (some ⟨wr.heap.size, 0, none⟩) ((i + 7) / 8) ((i + 7) / 8) (List.replicate ((i + 7) / 8) 0) ∧ Below wr.heap.size wr w1 := fun w1 h1 h2 => by
        rw [made_ints] at h1
        exact ⟨isB_of_row h1, (Below.refl _ _).grown h2 (Nat.le_refl _) (by simp)⟩
      have hzb := isB_zeros ((i + 7) / 8)
      have e1 : IntKind.i64.wrap ((i : Int) + 8) = (i : Int) + 8 := by rw [IntKind.wrap_i64]; omega
      have e2 : IntKind.i64.wrap ((i : Int) + 8 - 1) = (i : Int) + 8 - 1 := by rw [IntKind.wrap_i64]; omega
      have e3 : ((i : Int) + 8 - 1).tdiv 8 = (((i + 7) / 8 : Nat) : Int) := by rw [Int.tdiv_eq_ediv_of_nonneg (by omega)]; omega
      have hsm8 : (i + 7) / 8 ≤ 1000 := by omega
      generalize hn8 : (i + 7) / 8 = n8 at *
      clear hn8
      go_wp2_with (at_make; refine wpList_make_full _ rfl _ _ 33 rfl w.heap.size 5 i0 (.int .u8 0) 1 Tryz.underlying33 hi0 hz0 hz1 _ _ _ _ n8 rfl rfl (by omega) (by omega) (by rw [hz2]; omega) hmax (by omega) ?_; intro w1 hown1 hgrow1)
      obtain ⟨hrow1, hb1⟩ := hmk w1 hown1 hgrow1
      clear hmk hown1 hgrow1
      have hrow6 := hrow5.below hb1 (Nat.le_refl _)
      refine (turn_any _ _ _ _ _ _ _ (onesAt l i) _ hrow1 hzb hrow6 HWF.out hsm8).mono ?_
      rintro e w2 ⟨hb2, h2⟩
      rcases h2 with ⟨_, rfl, hown2⟩ | ⟨hf, _⟩
      · rw [HT.out] at hown2
        have hrow7 := isB_of_row hown2
        have hB : Below w.heap.size w w2 := btrans (btrans hnx (hb1.mono (Nat.le_refl _))) hb2
        clear hown2
        go_wp2_with fail
        go_ret
        refine ⟨some ⟨w1.heap.size, 0, none⟩, n8, ?_, ?_, hB⟩
        · rw [HPL.out]; rfl
        · rw [HPL.out]; exact hrow7
      · exact absurd hf (by rw [HIN.out]; simp)

end Go.Proofs.YtgamakejaknagaaGreat

/-
  The code of layer 4 (bpoly), as it landed: conjugates (an iterator), Minimal and Generator return what the face asks.
-/
namespace Go.Proofs.YtgamakejaknagaaGreat
open Go.RowKit Go.Shelf
set_option linter.unusedVariables false
set_option maxRecDepth 8192
attribute [local go_sem] Oper.semAt_some

/-- An element of the field. -/
abbrev El := { c : Nat // c < 8192 }
/-- How far the walk through the conjugates is. -/
def leftOf (x c : Nat) : Nat := 13 - (List.range 13).findIdx (fun k => sqN x k == c)
theorem leftOf_at {x k : Nat} (hx : x < 8192) (h0 : x ≠ 0) (hk : k < 13) (hne : ∀ j, 0 < j → j ≤ k → sqN x j ≠ x) : leftOf x (sqN x k) = 13 - k := by
  unfold leftOf
  congr 1
  rw [List.findIdx_eq (by simpa using hk)]
  refine ⟨by simp, fun j hj => ?_⟩
  simp only [List.getElem_range, beq_eq_false_iff_ne]
  by_cases h1 : x = 1
  · subst h1
    exfalso
    exact hne 1 (by omega) (by omega) (by decide)
  · exact sqN_ne hx h0 h1 hj hk
/-- What the iterator asks of a round: its own box lies as it lay. -/
def KeepsBox (b : Nat) (W W' : World) : Prop := ∀ v, W.cell? ⟨b, 0, none⟩ = some v → W'.cell? ⟨b, 0, none⟩ = some v
theorem keepsBox_t {b : Nat} {A B C : World} (h : KeepsBox b A B) (k : KeepsBox b B C) : KeepsBox b A C := fun v hv => k v (h v hv)
theorem keepsBox_b {b : Nat} {w : World} (W : World) (l : Nat) (o o' : Obj) (_ : w.heap.size ≤ l) (h : W.heap[l]? = some o) (hc : o.isCells = false) (_ : o.isWalk = false) : KeepsBox b W (W.putObj l o') :=
  fun v hv => cell_kept hv (grownBy_putObj' W l o') (fun r e => by cases e; exact ⟨o, h, hc⟩)

set_option maxHeartbeats 2000000 in
set_option maxRecDepth 100000 in
theorem conj_stops (n : Nat) (hn : 1 ≤ n) (Ba x : Nat) (w : World) (hx : x < 8192) (h0 : x ≠ 0) (hBa : Ba < w.heap.size) (hc : w.cell? ⟨Ba, 0, none⟩ = some (.int .i64 x)) :
    SeqStopsK Fence.wide n Tryz.prog 208 #[.pointer (some ⟨Ba, 0, none⟩)] (fun c : El => #[.int .i64 (c.1 : Nat)]) (KeepsBox Ba) (fun cs => cs.map (·.1) = conjL x) (fun _ => True) 13 w := fun l J Jx W hW hJ hJx hY h0J => by
  have hcW : W.cell? ⟨Ba, 0, none⟩ = some (.int .i64 x) := by rw [hW.cell (p := ⟨Ba, 0, none⟩) hBa]; exact hc
  clear hc hJ hJx
  have HEND : Hid (∀ k, k < 13 → (∀ j, 0 < j → j ≤ k → sqN x j ≠ x) → sqN x (k + 1) = x → (List.range (k + 1)).map (sqN x) = conjL x) := fun k hk hne h => conj_end hx h0 hk hne h
  refine callsIn_of_wp Tryz.func208 rfl trivial ?_ rfl
  simp only [Tryz.ntmps208, List.size_toArray, List.length_cons, List.length_nil, Nat.reduceAdd, Nat.reduceSub, Array.replicate_succ, Array.replicate_zero, List.push_toArray, List.append_toArray, List.nil_append, List.cons_append]
  gi_wp2
  gi_loopw [3] (fun p wr => ∃ (k : Nat) (pre : List El), k < 13 ∧ p = .int .i64 (sqN x k : Nat) ∧ pre.map (·.1) = (List.range k).map (sqN x) ∧ (∀ j, 0 < j → j ≤ k → sqN x j ≠ x) ∧ wr.cell? ⟨Ba, 0, none⟩ = some (.int .i64 x) ∧ J pre wr)
    (fun p _ => leftOf x (intOf p).toNat)
  case atStart => exact ⟨0, [], by decide, rfl, rfl, fun j h1 h2 => by omega, hcW, h0J⟩
  case round =>
    clear hcW h0J hW
    obtain ⟨k, pre, hk, rfl, hpre, hne, hc, hJs⟩ := hrel
    have HPRE : Hid (pre.map (·.1) = (List.range k).map (sqN x)) := hpre
    have hlen : pre.length < 13 := by have := congrArg List.length hpre; simp at this; omega
    have HNE : Hid (∀ j, 0 < j → j ≤ k → sqN x j ≠ x) := hne
    have HLF : Hid (leftOf x (sqN x k) = 13 - k) := leftOf_at hx h0 hk hne
    clear hpre hne
    have hsq := sqN_lt x k hx
    obtain ⟨fn, tmps, assign, body, hy, hR⟩ := hY pre ⟨sqN x k, hsq⟩ wr hJs hlen
    dsimp only at hy
    have HSQ : Hid (sqN x (k + 1) = gmul (sqN x k) (sqN x k)) := rfl
    have HPR2 : Hid ((pre ++ [(⟨sqN x k, hsq⟩ : El)]).map (·.1) = (List.range (k + 1)).map (sqN x)) := by show _ = _; rw [List.map_append, HPRE.out, List.range_succ, List.map_append]; rfl
    gi_wp2
    refine hR.mono ?_
    rintro e W3 (⟨rfl, hJ3, hk3⟩ | ⟨rfl, hJx3⟩)
    · have hc3 := hk3 _ hc
      clear hR hy hc hJs hk3
      have hg := gmul_lt (sqN x k) (sqN x k) hsq
      by_cases hxx : gmul (sqN x k) (sqN x k) = x
      · have hq : (((gmul (sqN x k) (sqN x k) : Nat) : Int) == (x : Int)) = true := by simp [hxx]
        have HE : Hid ((List.range (k + 1)).map (sqN x) = conjL x) := HEND.out k hk HNE.out (by rw [HSQ.out]; exact hxx)
        clear hxx
        gi_wp2_with (refine ⟨trivial, ?_⟩; gi_at_call 189; refine (callsIn_wide.2 (btimes_any (sqN x k) (sqN x k) _ hsq hsq)).mono ?_; rintro e w' ⟨rfl, rfl⟩)
        refine bodyPost_ret (results_none rfl _ _ _) rfl ?_
        exact ⟨⟨_, rfl⟩, .inl ⟨_, HPR2.out.trans HE.out, hJ3⟩⟩
      · have hq : (((gmul (sqN x k) (sqN x k) : Nat) : Int) == (x : Int)) = false := by simp; omega
        have hk13 : k + 1 < 13 := conj_more hx hk (by rw [HSQ.out]; exact hxx)
        have HNE2 : Hid (∀ j, 0 < j → j ≤ k + 1 → sqN x j ≠ x) := fun j h1 h2 => by
          by_cases e : j = k + 1
          · subst e; rw [HSQ.out]; exact hxx
          · exact HNE.out j h1 (by omega)
        have HLF2 : Hid (leftOf x (gmul (sqN x k) (sqN x k)) = 13 - (k + 1)) := by show _ = _; rw [← HSQ.out]; exact leftOf_at hx h0 hk13 HNE2.out
        clear hxx
        gi_wp2_with (refine ⟨trivial, ?_⟩; gi_at_call 189; refine (callsIn_wide.2 (btimes_any (sqN x k) (sqN x k) _ hsq hsq)).mono ?_; rintro e w' ⟨rfl, rfl⟩)
        go_roundw
        case rel => exact ⟨k + 1, _, hk13, by rw [HSQ.out], HPR2.out, HNE2.out, hc3, hJ3⟩
        case measure =>
          simp [intOf]
          rw [HLF.out, HLF2.out]
          omega
    · gi_wp2
      go_end0
      exact ⟨⟨_, rfl⟩, .inr ⟨_, trivial, hJx3⟩⟩

set_option maxHeartbeats 400000 in
theorem conj_any (x : Nat) (w : World) : Calls Tryz.prog 201 #[.int .i64 x] w fun e w' => e = .returned (.func (.func 208) #[] #[.pointer (some ⟨w.heap.size, 0, none⟩)]) ∧ w' = w.alloc (.cells #[.int .i64 x] 3) := by
  go_enter Tryz.func201, Tryz.ntmps201
  go_wp2_with fail
  go_ret
  exact ⟨rfl, rfl⟩

theorem new_cell1 (w : World) (v : Value) (T : TypeId) : (w.alloc (.cells #[v] T)).cell? ⟨w.heap.size, 0, none⟩ = some v ∧ (w.alloc (.cells #[v] T)).frozen? ⟨w.heap.size, 0, none⟩ = false :=
  ⟨by rw [World.cell?_alloc_at _ _ _ _ rfl]; rfl, by unfold World.frozen?; dsimp only; rw [World.alloc_heap_new]; rfl⟩
/-- A row as it was, where no cells were turned. -/
theorem row_kept {k : IntKind} {W W' : World} {row : Option Nat} {a : Option Addr} {len cap : Nat} {zs : List Int} (h : Row k W a len cap zs) (hg : W.grownBy W' row) (hr : ∀ r, row = some r → ∃ o : Obj, W.heap[r]? = some o ∧ o.isCells = false) : Row k W' a len cap zs := by
  refine ⟨h.hlen, h.hcap, h.hmax, h.hnil, fun h0 => ?_⟩
  obtain ⟨b, off, rfl, hbs, hcell⟩ := h.hcell h0
  exact ⟨b, off, rfl, by have := hg.size; omega, fun i hi => cell_kept (hcell i hi) hg hr⟩
theorem keeps_of_below {W W' : World} (h : Below W.heap.size W W') : KeepsOthers W W' :=
  ⟨h.size, fun k o hk _ => by rw [h.block k (Array.getElem?_eq_some_iff.1 hk).1]; exact hk⟩
theorem keepsBox_of_below {b : Nat} {W W' : World} (h : Below W.heap.size W W') : KeepsBox b W W' := fun v hv => by rw [h.cell (p := ⟨b, 0, none⟩) (lt_of_cell hv)]; exact hv
/-- A row where another block is turned. -/
theorem row_set {k : IntKind} {W : World} {a : Option Addr} {len cap : Nat} {zs : List Int} (h : Row k W a len cap zs) (p : Addr) (v : Value) (hp : ∀ x, a = some x → x.block ≠ p.block) : Row k (W.setCell p v) a len cap zs := by
  refine ⟨h.hlen, h.hcap, h.hmax, h.hnil, fun h0 => ?_⟩
  obtain ⟨b, off, rfl, hbs, hcell⟩ := h.hcell h0
  refine ⟨b, off, rfl, by simpa using hbs, fun i hi => ?_⟩
  exact (World.cell?_of_block (Below.heap_setCell W p v b (hp _ rfl))).trans (hcell i hi)

theorem keepsBox_set {b : Nat} (W : World) (p : Addr) (v : Value) (hp : b ≠ p.block) : KeepsBox b W (W.setCell p v) := fun u hu => (World.cell?_of_block (Below.heap_setCell W p v b hp)).trans hu
theorem isP_fac (c : El) : IsP [c.1, 1] := isP_lin1 c.2
/-- What Minimal holds behind the conjugates pre: its box, the product in it. -/
def MinAt (w : World) (Bp : Nat) (pre : List El) (W : World) : Prop :=
  (∃ ao cap, W.cell? ⟨Bp, 0, none⟩ = some (.slice ao (prodTo (pre.map (·.1))).length cap) ∧ W.frozen? ⟨Bp, 0, none⟩ = false ∧ Row .i64 W ao (prodTo (pre.map (·.1))).length cap (ints (prodTo (pre.map (·.1)))) ∧ ∀ x, ao = some x → x.block ≠ Bp) ∧ Below w.heap.size w W
theorem minAt_own (w : World) (Bp B : Nat) (hB : w.heap.size ≤ B) : OwnFrom B (MinAt w Bp) :=
  OwnFrom.and (Own.from (fun s A C row hs hg hr => by
    obtain ⟨ao, cap, hc, hf, hrow, hne⟩ := hs
    exact ⟨ao, cap, cell_kept hc hg hr, (frozen_kept hc hg hr).trans hf, row_kept hrow hg hr, hne⟩) _) (ownFrom_below (Nat.le_refl _) hB)
theorem prod_el (pre : List El) : ProdOk (pre.map (·.1)) (prodTo (pre.map (·.1))) := prod_ok _ fun c hc => by
  obtain ⟨e, _, rfl⟩ := List.mem_map.1 hc
  exact e.2
theorem prod_el_snoc (pre : List El) (c : El) : prodTo ((pre ++ [c]).map (·.1)) = norm (mulL (prodTo (pre.map (·.1))) [c.1, 1]) := by rw [List.map_append]; exact prodTo_snoc _ _
/-- Behind a round of Minimal. -/
theorem minAt_round {w W W3 : World} {Bp g cp L : Nat} {T : TypeId} {pre : List El} {c : El} {cs : Array Value} (hB : Below w.heap.size w W) (hBp : w.heap.size ≤ Bp) (hlt : Bp < W.heap.size)
    (hcell : ∃ v, W.cell? ⟨Bp, 0, none⟩ = some v) (hf : W.frozen? ⟨Bp, 0, none⟩ = false) (hL : L = (prodTo ((pre ++ [c]).map (·.1))).length)
    (hrow : Row .i64 W3 (some ⟨g, 0, none⟩) L cp (ints (prodTo ((pre ++ [c]).map (·.1))))) (hg : W.heap.size ≤ g) (hb : Below (W.alloc (.cells cs T)).heap.size (W.alloc (.cells cs T)) W3) :
    KeepsOthers W (W3.setCell ⟨Bp, 0, none⟩ (.slice (some ⟨g, 0, none⟩) L cp)) ∧ (∀ b, b ≠ Bp → KeepsBox b W (W3.setCell ⟨Bp, 0, none⟩ (.slice (some ⟨g, 0, none⟩) L cp))) ∧ MinAt w Bp (pre ++ [c]) (W3.setCell ⟨Bp, 0, none⟩ (.slice (some ⟨g, 0, none⟩) L cp)) := by
  have hb' : Below W.heap.size W W3 := btrans (below_one W _) hb
  obtain ⟨v, hv⟩ := hcell
  have hv3 : W3.cell? ⟨Bp, 0, none⟩ = some v := by rw [hb'.cell (p := ⟨Bp, 0, none⟩) hlt]; exact hv
  have hf3 : W3.frozen? ⟨Bp, 0, none⟩ = false := by rw [hb'.frozen (p := ⟨Bp, 0, none⟩) hlt]; exact hf
  refine ⟨(keeps_of_below hb').trans (KeepsOthers.setCell _ _ _), fun b hne => keepsBox_t (keepsBox_of_below hb') (keepsBox_set _ _ _ hne), ⟨some ⟨g, 0, none⟩, cp, ?_, ?_, ?_, ?_⟩, (btrans hB hb').setCell (p := ⟨Bp, 0, none⟩) hBp _⟩
  · rw [← hL]; exact World.cell?_setCell_same' _ _ _ (by rw [hv3]; rfl)
  · rw [World.frozen?_setCell]; exact hf3
  · rw [← hL]; exact row_set hrow _ _ (fun x hx => by simp only [Option.some.injEq] at hx; subst hx; show g ≠ Bp; omega)
  · intro x hx
    simp only [Option.some.injEq] at hx
    subst hx
    show g ≠ Bp
    omega

set_option maxHeartbeats 2000000 in
set_option maxRecDepth 100000 in
theorem bminC : BMinC := by
  intro n w hn1 hn2
  have hok := pow_two_ok n
  refine (callsIn_wide (n := 3)).1 ?_
  refine callsIn_of_wp_marks Tryz.func182 rfl trivial ?_ rfl
  simp only [Tryz.ntmps182, List.size_toArray, List.length_cons, List.length_nil, Nat.reduceAdd, Nat.reduceSub, Array.replicate_succ, Array.replicate_zero, List.push_toArray, List.append_toArray, List.nil_append, List.cons_append]
  gi_wp2_with (first
    | (refine ⟨trivial, ?_⟩; gi_at_call 170; refine (callsIn_wide.2 (expC n _ hn1 hn2)).mono ?_; rintro e w1 ⟨rfl, hb1⟩)
    | (refine ⟨trivial, ?_⟩; gi_at_call 201; refine (callsIn_wide.2 (conj_any _ _)).mono ?_; rintro e w2 ⟨rfl, rfl⟩))
  have hb0 : Below w.heap.size w w1 := btrans (below_two w _ _) hb1
  have hs1 := hb1.size
  simp only [World.size_alloc] at hs1
  have hrow0 : Row .i64 ((w.alloc (Obj.cells #[Value.int IntKind.i64 1] 3)).alloc (Obj.cells #[Value.slice (some { block := w.heap.size, off := 0 }) 1 1] 32)) (some ⟨w.heap.size, 0, none⟩) 1 1 (ints [1]) :=
    (row_new .i64 w 3 w.heap.size rfl [1] 1 rfl (by decide) #[.int .i64 1] rfl).below (below_one _ _) (Nat.le_refl _)
  have hbx : ((w.alloc (Obj.cells #[Value.int IntKind.i64 1] 3)).alloc (Obj.cells #[Value.slice (some { block := w.heap.size, off := 0 }) 1 1] 32)).cell? ⟨w.heap.size + 1, 0, none⟩ = some (.slice (some ⟨w.heap.size, 0, none⟩) 1 1) := by
    have := (new_cell1 (w.alloc (Obj.cells #[Value.int IntKind.i64 1] 3)) (Value.slice (some { block := w.heap.size, off := 0 }) 1 1) 32).1
    rwa [World.size_alloc] at this
  have hbf : ((w.alloc (Obj.cells #[Value.int IntKind.i64 1] 3)).alloc (Obj.cells #[Value.slice (some { block := w.heap.size, off := 0 }) 1 1] 32)).frozen? ⟨w.heap.size + 1, 0, none⟩ = false := by
    have := (new_cell1 (w.alloc (Obj.cells #[Value.int IntKind.i64 1] 3)) (Value.slice (some { block := w.heap.size, off := 0 }) 1 1) 32).2
    rwa [World.size_alloc] at this
  obtain ⟨x, hx⟩ : ∃ x, gz 2 n = x := ⟨_, rfl⟩
  rw [hx] at hok ⊢
  have hca := new_cell1 w1 (.int .i64 (x : Nat)) 3
  have hb2 := below_one w1 (Obj.cells #[Value.int IntKind.i64 (x : Nat)] 3)
  have hI0 : MinAt w (w.heap.size + 1) [] (w1.alloc (Obj.cells #[Value.int IntKind.i64 (x : Nat)] 3)) := by
    refine ⟨⟨some ⟨w.heap.size, 0, none⟩, 1, ?_, ?_, ?_, ?_⟩, btrans hb0 hb2⟩
    · rw [hb2.cell (p := ⟨w.heap.size + 1, 0, none⟩) (by show w.heap.size + 1 < _; omega), hb1.cell (p := ⟨w.heap.size + 1, 0, none⟩) (by simp)]; exact hbx
    · rw [hb2.frozen (p := ⟨w.heap.size + 1, 0, none⟩) (by show w.heap.size + 1 < _; omega), hb1.frozen (p := ⟨w.heap.size + 1, 0, none⟩) (by simp)]; exact hbf
    · exact (hrow0.below hb1 (Nat.le_refl _)).below hb2 (Nat.le_refl _)
    · intro y hy
      simp only [Option.some.injEq] at hy
      subst hy
      show w.heap.size ≠ w.heap.size + 1
      omega
  clear hrow0 hbx hbf hb1 hb2
  have HX : Hid (gz 2 n = x) := hx
  clear hx
  refine wpIn_rangeFunc_ownF rfl (by omega) (gf := 208) (lb := #[.pointer (some ⟨w1.heap.size, 0, none⟩)]) rfl trivial (enters_of Tryz.func208 (by kernel_rfl) rfl)
    (conj_stops _ (by omega) w1.heap.size x _ hok.1 hok.2 (by simp) hca.1) keepsBox_t keepsBox_b (Below.refl _ _) (fun _ => rfl)
    (MinAt w (w.heap.size + 1)) (fun _ _ _ => False)
    (minAt_own w _ _ (by simp; omega))
    (fun _ _ _ _ _ hs _ _ => hs)
    hI0
    (fun c => { tmps := #[.int .i64 n, undef, .slice none 0 0, .pointer (some ⟨w.heap.size + 1, 0, none⟩), .int .i64 (c.1 : Nat), .slice (some ⟨w.heap.size, 0, none⟩) 1 1, .int .i64 n, .int .i64 (x : Nat), .func (.func 208) #[] #[.pointer (some ⟨w1.heap.size, 0, none⟩)], .int .i64 (c.1 : Nat), undef, undef, undef, undef, undef, undef, undef, undef, undef], defers := [] }) ?assign ?body ?done ?stop
  case assign =>
    intro l c W K hK
    gi_wp2
    exact hK
  case body =>
    rintro l pre c W ⟨⟨ao, cp, hc, hf, hrow, hne⟩, hB⟩ hlen
    have hok2 := prod_el pre
    have HS : Hid (norm (mulL (prodTo (pre.map (·.1))) [c.1, 1]) = prodTo ((pre ++ [c]).map (·.1))) := (prod_el_snoc pre c).symm
    have hl := hok2.len
    have hl2 := (prod_el (pre ++ [c])).len
    simp only [List.length_map, List.length_append, List.length_singleton] at hl hl2
    have hP := hok2.isP
    have hlt : w.heap.size + 1 < W.heap.size := lt_of_cell hc
    clear hok2
    generalize hpp : prodTo (pre.map (·.1)) = pp at *
    have HL : Hid (pp.length ≤ 10000) := by show _ ≤ _; omega
    have HL2 : Hid (0 < (prodTo ((pre ++ [c]).map (·.1))).length) := by show _ < _; omega
    clear hl hl2 hpp
    generalize pp.length = L at *
    have hr1 := hrow.below (below_one W (Obj.cells #[.int .i64 (c.1 : Nat), .int .i64 1] 3)) (Nat.le_refl _)
    have hr2 : Row .i64 (W.alloc (Obj.cells #[.int .i64 (c.1 : Nat), .int .i64 1] 3)) (some ⟨W.heap.size, 0, none⟩) 2 2 (ints [c.1, 1]) := row_new .i64 W 3 W.heap.size rfl _ 2 rfl (by decide) #[.int .i64 (c.1 : Nat), .int .i64 1] rfl
    have HM : Hid _ := pmul_own ao (some ⟨W.heap.size, 0, none⟩) L cp 2 2 pp [c.1, 1] _ hr1 hr2 HL.out (by decide) hP (isP_fac c)
    have HFIN : Hid (∀ (W3 : World) (v : Value), W3.ownsRow (W.alloc (Obj.cells #[.int .i64 (c.1 : Nat), .int .i64 1] 3)).heap.size 3 1 v (norm (mulL pp [c.1, 1])).length ((ints (norm (mulL pp [c.1, 1]))).map (Value.int .i64)) →
        Below (W.alloc (Obj.cells #[.int .i64 (c.1 : Nat), .int .i64 1] 3)).heap.size (W.alloc (Obj.cells #[.int .i64 (c.1 : Nat), .int .i64 1] 3)) W3 →
        ∃ g cp3 L3, v = .slice (some ⟨g, 0, none⟩) L3 cp3 ∧ W3.cell? ⟨w.heap.size + 1, 0, none⟩ = some (.slice ao L cp) ∧ W3.frozen? ⟨w.heap.size + 1, 0, none⟩ = false ∧ Hid (KeepsOthers W (W3.setCell ⟨w.heap.size + 1, 0, none⟩ (.slice (some ⟨g, 0, none⟩) L3 cp3)) ∧ KeepsBox w1.heap.size W (W3.setCell ⟨w.heap.size + 1, 0, none⟩ (.slice (some ⟨g, 0, none⟩) L3 cp3)) ∧ MinAt w (w.heap.size + 1) (pre ++ [c]) (W3.setCell ⟨w.heap.size + 1, 0, none⟩ (.slice (some ⟨g, 0, none⟩) L3 cp3)))) := by
      intro W3 v ho hb
      rw [HS.out] at ho
      obtain ⟨a3, cp3, rfl, hrow3⟩ := row_of_owns ho
      obtain ⟨g, hg, rfl⟩ := owns_head ho HL2.out
      have R := minAt_round hB (by omega) hlt ⟨_, hc⟩ hf rfl hrow3 (by simp at hg; omega) hb
      refine ⟨g, cp3, _, rfl, ?_, ?_, R.1, R.2.1 _ (by omega), R.2.2⟩
      · rw [hb.cell (p := ⟨w.heap.size + 1, 0, none⟩) (by simp; omega), (below_one W _).cell (p := ⟨w.heap.size + 1, 0, none⟩) hlt]; exact hc
      · rw [hb.frozen (p := ⟨w.heap.size + 1, 0, none⟩) (by simp; omega), (below_one W _).frozen (p := ⟨w.heap.size + 1, 0, none⟩) hlt]; exact hf
    clear hr1 hr2 hrow hB hne
    gi_wp2_with (refine ⟨trivial, ?_⟩; gi_at_call 192; refine (CallsIn.inRound l (callsIn_wide.2 HM.out)).mono ?_; rintro e W3 ⟨v, rfl, ho3, hb3⟩; obtain ⟨g, cp3, L3, rfl, hc3, hf3, HR⟩ := HFIN.out W3 v ho3 hb3; clear ho3 hb3 HFIN)
    exact HR.out
  case done =>
    rintro D ys W hD hS ⟨⟨ao, cp, hc, hf, hrow, hne⟩, hB⟩ hK
    rw [hS, prod_min hok.1 hok.2] at hc hrow
    have hm := minp_is x hok.1 hok.2
    have hl : (minp x).length ≤ 4000 := by rw [hm.len]; split <;> omega
    gi_wp2_with (refine ⟨trivial, ?_⟩; gi_at_call 202; refine (callsIn_wide.2 (packed_any ao _ cp (minp x) _ hrow hm.h01 hl)).mono ?_; rintro e W4 ⟨a4, cp4, rfl, hrow4, hb4⟩)
    have hK4 : W4.heap[D]? = some (.deferred (some [])) := by rw [hb4.block D (Array.getElem?_eq_some_iff.1 hK).1]; exact hK
    refine ⟨by simp, .inl ⟨_, _, rfl, run_takeDeferred hK4, ?_⟩⟩
    refine ⟨_, results_tmp rfl _ _ _, ?_⟩
    rw [HX.out]
    exact ⟨a4, cp4, rfl, row_kept hrow4 (grownBy_putObj' _ D (.deferred none)) (fun r e => by cases e; exact ⟨_, hK4, rfl⟩), (btrans hB hb4).trans (belowK_b (w := w) (Nat.le_refl _) W4 D _ _ (by simp at hD; omega) hK4 rfl rfl)⟩
  case stop =>
    rintro D c pre W _ _ h _
    exact h.elim

set_option maxHeartbeats 1600000 in
set_option maxRecDepth 100000 in
theorem bgenC : BGenC where
  no := by
    intro t w h h1 h2
    rcases h with h | h
    · go_enter Tryz.func164, Tryz.ntmps164
      go_wp2
      go_ret2
      exact givesE_nil _ _
    · have h0 : ¬ t < 1 := by omega
      go_enter Tryz.func164, Tryz.ntmps164
      go_wp2
      go_ret2
      exact givesE_nil _ _
  yes := by
    intro t w h1 h2
    have HP : Hid (∀ k, k < 8 → nb (mulL (bts (pk (genTo k))) (bts (pk (minp (gz 2 ((2 * k + 1 : Nat) : Int)))))) = pk (genTo (k + 1))) := fun k hk => by
      have hm := minp_is (gpow 2 (2 * k + 1)) (pow2_ok _).1 (pow2_ok _).2
      rw [gz_nat 2 _ (by decide) (by decide)]
      show nb _ = pk (norm (mulL (genTo k) (minp (gpow 2 (2 * k + 1)))))
      exact nb_ext ((mulL_right _ (bts_pk hm.h01)).trans (mulL_left _ (is01_bts _).isP (is01_genTo k).isP hm.h01.isP (bts_pk (is01_genTo k))))
    have HML : Hid (∀ k, (pk (minp (gz 2 ((2 * k + 1 : Nat) : Int)))).length ≤ 500) := fun k => by
      rw [length_pk, (min_ok _).len]; split <;> omega
    have HMB : Hid (∀ k, IsB (pk (minp (gz 2 ((2 * k + 1 : Nat) : Int))))) := fun k => isB_pk (min_ok _).h01
    have HGL : Hid (∀ k, k ≤ 8 → (pk (genTo k)).length ≤ 500) := fun k hk => by have := bgen_len k hk; omega
    have HGB : Hid (∀ k, IsB (pk (genTo k))) := fun k => isB_pk (is01_genTo k)
    have hr0 : Row .u8 (w.alloc (Obj.cells #[Value.int IntKind.u8 1] 5)) (some ⟨w.heap.size, 0, none⟩) (pk (genTo 0)).length 1 (pk (genTo 0)) := row_new .u8 w 5 w.heap.size rfl [1] 1 rfl (by decide) #[.int .u8 1] rfl
    have hb0 := below_one w (Obj.cells #[Value.int IntKind.u8 1] 5)
    have ht1 : ¬ (t : Int) < 1 := by omega
    have ht2 : ¬ 8 < (t : Int) := by omega
    go_enter Tryz.func164, Tryz.ntmps164
    go_wp2_with fail
    go_loopw [4, 5] (fun v y wr => ∃ (k : Nat) (a : Option Addr) (cp : Nat), k ≤ t ∧ y = .int .i64 ((2 * k + 1 : Nat) : Int) ∧ v = .slice a (pk (genTo k)).length cp ∧ Row .u8 wr a (pk (genTo k)).length cp (pk (genTo k)) ∧ Below w.heap.size w wr) (fun _ y _ => 2 * t + 1 - (intOf y).toNat)
    case atStart => exact ⟨0, _, _, Nat.zero_le _, rfl, rfl, hr0, hb0⟩
    case round =>
      clear hr0 hb0
      obtain ⟨k, a, cp, hk, rfl, rfl, hrow, hnx⟩ := hrel
      by_cases hlt : k < t
      · have hkk : ((2 * k + 1 : Nat) : Int) < 2 * (t : Int) := by omega
        have HPk : Hid (nb (mulL (bts (pk (genTo k))) (bts (pk (minp (gz 2 ((2 * k + 1 : Nat) : Int)))))) = pk (genTo (k + 1))) := HP.out k (by omega)
        have hl1 := HGL.out k (by omega)
        have hl2 := HML.out k
        have hB1 := HGB.out k
        have hB2 := HMB.out k
        generalize pk (genTo k) = z1 at *
        have hmin := bminC ((2 * k + 1 : Nat) : Int)
        generalize pk (minp (gz 2 ((2 * k + 1 : Nat) : Int))) = z2 at *
        go_wp2_with fail
        refine (hmin _ (by omega) (by omega)).mono ?_
        clear hmin
        rintro e w1 ⟨a1, cp1, rfl, hrow1, hb1⟩
        replace hrow := hrow.below hb1 (Nat.le_refl _)
        replace hnx := btrans hnx hb1
        clear hb1
        go_wp2_with fail
        refine (bmulC _ _ _ _ _ _ z1 z2 _ hrow hrow1 hB1 hB2 hl1 hl2).mono ?_
        rintro e w2 ⟨a2, cp2, rfl, hrow2, hb2⟩
        replace hnx := btrans hnx hb2
        clear hrow hrow1 hb2
        rw [HPk.out] at hrow2 ⊢
        go_wp2_with fail
        go_roundw
        case rel => exact ⟨k + 1, _, _, by omega, by go_num, rfl, hrow2, hnx⟩
        case measure => simp [intOf]; omega
      · have e : k = t := by omega
        subst e
        have hkk : ¬ ((2 * k + 1 : Nat) : Int) < 2 * (k : Int) := by omega
        go_wp2_with fail
        go_ret2
        exact ⟨_, _, rfl, hrow, hnx⟩

end Go.Proofs.YtgamakejaknagaaGreat
