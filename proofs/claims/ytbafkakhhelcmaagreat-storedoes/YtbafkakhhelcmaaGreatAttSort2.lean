/-
  The code of layer 10 (attach), as it landed: a row of one logical block's blocks is sorted (whatever its length).
-/
import Derived.Test.YtbafkakhhelcmaaGreatAttSort
import Derived.LoopN
namespace Go.Proofs.YtbafkakhhelcmaaGreat
open Go.RowKit
open Go.Sort (putRowK HoldsK size_flatK get_flatK)
set_option linter.unusedVariables false
set_option maxRecDepth 8192

/-- x comes ahead of y. -/
def aheadF (x y : Fnd) : Prop := x.number < y.number ∨ (x.number = y.number ∧ x.block < y.block)
theorem cmpF_ahead {x y : Fnd} (h : x.leb = y.leb) : cmpF cmpI x y < 0 ↔ aheadF x y := by
  unfold cmpF aheadF
  by_cases e : x.number = y.number
  · rw [if_pos (by simp [h, e]), cmpI_lt]; omega
  · rw [if_neg (by simp [h, e]), cmpI_lt]; omega
/-- Blocks of one logical block. -/
abbrev LebF (j : Int) := {f : Fnd // f.leb = j}
instance (j : Int) : Inhabited (LebF j) := ⟨⟨⟨0, j, 0, 0, false⟩, rfl⟩⟩
def encL {j : Int} (x : LebF j) : List Value := x.1.cells
def cfL {j : Int} (x y : LebF j) : Int := cmpF cmpI x.1 y.1
theorem ltL {j : Int} (x y : LebF j) : ltOf (cfL (j := j)) x y = true ↔ aheadF x.1 y.1 := by
  unfold ltOf cfL
  rw [decide_eq_true_iff, cmpF_ahead (by rw [x.2, y.2])]
theorem ltL_no {j : Int} (x y : LebF j) : ltOf (cfL (j := j)) x y = false ↔ ¬ aheadF x.1 y.1 := by
  rw [← ltL]; simp
theorem swoL (j : Int) : Go.Sort.SWO (ltOf (cfL (j := j))) where
  irrefl x := by rw [ltL_no]; unfold aheadF; omega
  trans x y z h1 h2 := by rw [ltL] at *; unfold aheadF at *; omega
  ntrans x y z h1 h2 := by rw [ltL_no] at *; unfold aheadF at *; omega
/-- In rising order. -/
def RisesF (l : List Fnd) : Prop := ∀ i k, i < k → k < l.length → ¬ aheadF (l[k]?.getD default) (l[i]?.getD default)
theorem sortWorld_other {α : Type} [Inhabited α] (enc : α → List Value) (k : Nat) (w : World) (blk off n : Nat) (d : Array α) (os : Array Obj) (b : Nat) (hb : b < w.heap.size) (hne : b ≠ blk) : (sortWorldK enc k w blk off n d os).heap[b]? = w.heap[b]? := by
  unfold sortWorldK Go.Sort.grow putRowK Go.Sort.putRow Go.Sort.mapBlock Go.Sort.ahead
  simp only
  rw [Array.getElem?_append_left (by simpa using hb), Array.getElem?_modify, if_neg (fun e => hne e.symm)]
theorem sortWorld_size {α : Type} [Inhabited α] (enc : α → List Value) (k : Nat) (w : World) (blk off n : Nat) (d : Array α) (os : Array Obj) : w.heap.size ≤ (sortWorldK enc k w blk off n d os).heap.size := size_sortWorldK_c enc k w blk off n d os
theorem sortWorld_self {α : Type} [Inhabited α] (enc : α → List Value) (k : Nat) (w : World) (blk off n : Nat) (d : Array α) (os : Array Obj) {cur : Array Value} {e : TypeId} {fr : Nat × Nat} (hb : w.heap[blk]? = some (.cells cur e fr)) : ∃ cur', (sortWorldK enc k w blk off n d os).heap[blk]? = some (.cells cur' e fr) ∧ cur'.size = cur.size := by
  have hlt : blk < w.heap.size := by
    rcases Nat.lt_or_ge blk w.heap.size with h' | h'
    · exact h'
    · rw [Array.getElem?_eq_none h'] at hb; simp at hb
  unfold sortWorldK Go.Sort.grow putRowK Go.Sort.putRow Go.Sort.mapBlock Go.Sort.ahead
  simp only
  rw [Array.getElem?_append_left (by simpa using hlt), Array.getElem?_modify, if_pos rfl, hb]
  exact ⟨_, rfl, by simp [Go.Sort.putCells]⟩
/-- The row of found blocks, as the shelf holds it. -/
theorem holds_of {w : World} {B g n cap : Nat} {E : TypeId} {j : Int} {l : List Fnd} (hl : ∀ f ∈ l, f.leb = j) (d : Array (LebF j)) (hd : d.toList.map Subtype.val = l) (own : w.ownsRow B E 5 (.slice (some ⟨g, 0, none⟩) n cap) n (fcells l)) : HoldsK (encL (j := j)) 5 w g 0 d := by
  rcases own.2 with ⟨h', _⟩ | ⟨g', cap', cur, h', _, hg, hnc, _, hcs, htake⟩
  · simp at h'
  simp only [Value.slice.injEq, Option.some.injEq, Addr.mk.injEq, and_true, true_and] at h'
  obtain ⟨rfl, rfl⟩ := h'
  have hlen : d.size = l.length := by rw [← hd]; simp
  have hn : l.length = n := by have := own.1; rw [fcells_len] at this; omega
  intro i hi
  rw [size_flatK] at hi
  have e : i = i / 5 * 5 + i % 5 := by omega
  have hi5 : i / 5 < d.size := by omega
  refine ⟨?_, by simp [World.frozen?, hg]⟩
  have h1 := own.cellAt i (by omega)
  rw [Nat.zero_add, h1]
  have h2 := fcells_at l (i / 5) (by omega) (i % 5) (by omega)
  rw [← e] at h2
  have h3 : l[i / 5]?.getD default = (d[i / 5]!).1 := by
    rw [← hd, getElem!_pos d _ hi5]
    simp [hi5]
  rw [h2, h3, get_flatK _ _ _ _ (by omega)]
  have : i % 5 = 0 ∨ i % 5 = 1 ∨ i % 5 = 2 ∨ i % 5 = 3 ∨ i % 5 = 4 := by omega
  rcases this with h | h | h | h | h <;> rw [h] <;> rfl
set_option maxHeartbeats 1600000 in
theorem sort_some (w : World) (B g n cap bx : Nat) (E : TypeId) (j : Int) (l : List Fnd) (hl : ∀ f ∈ l, f.leb = j) (hn : n ≤ 100000) (own : w.ownsRow B E 5 (.slice (some ⟨g, 0, none⟩) n cap) n (fcells l)) (hbx : bx ≠ g) (hb : w.cell? ⟨bx, 0, none⟩ = some (.func (.func 98) #[] #[])) :
    Calls Tryz.prog 120 #[.slice (some ⟨g, 0, none⟩) n cap, .func (.func 121) #[] #[.pointer (some ⟨bx, 0, none⟩)]] w
      fun e w' => e = .returned (.tuple #[]) ∧ ∃ T, T.Perm l ∧ RisesF T ∧ w'.ownsRow B E 5 (.slice (some ⟨g, 0, none⟩) n cap) n (fcells T) ∧ Turned (fun k => k = g) w w' := by
  have hbl := lt_of_cell hb
  simp only at hbl
  have hgl := (owns_lt own rfl).2
  obtain ⟨d, hd⟩ : ∃ d : Array (LebF j), d.toList.map Subtype.val = l := ⟨(l.pmap (fun f h => ⟨f, h⟩) hl).toArray, by simp [List.map_pmap]⟩
  have hds : d.size = n := by
    have h1 := own.1
    rw [fcells_len] at h1
    have : d.size = l.length := by rw [← hd]; simp
    omega
  have hH := holds_of hl d hd own
  have eg : ∀ args w, (callFunc 121 args).run Tryz.prog w = .ok (.enter 121 args) w := fun _ _ => rfl
  have hcmp : CmpLays Tryz.prog 121 #[.pointer (some ⟨bx, 0, none⟩)] (encL (j := j)) 5 cfL g 0 d.size w := by
    intro m os dk _ x y
    have hc : (sortWorldK encL 5 w g 0 m dk os).cell? ⟨bx, 0, none⟩ = some (.func (.func 98) #[] #[]) := by
      rw [World.cell?_of_block (w := w) (sortWorld_other _ _ _ _ _ _ _ _ bx hbl hbx)]; exact hb
    exact by1_grew cmpI 98 (fun _ _ => rfl) rising_any x.1 y.1 bx _ hc
  have hcon := AnyQ.slices_SortFunc sortL 5 Tryz.isAgg124 Tryz.sizeOf124 (encL (j := j)) (fun x => x.1.cells_len) (fun x => x.1.cells_one) cfL (swoL j) 121 #[.pointer (some ⟨bx, 0, none⟩)] g 0 cap d w eg hcmp hH hgl (by omega)
  rw [hds] at hcon
  refine hcon.mono ?_
  rintro e w' ⟨rfl, d', m, os, hp, hs, rfl⟩
  refine ⟨rfl, d'.toList.map Subtype.val, ?_, ?_, ?_, ?_⟩
  · have h1 := hp.2.2
    rw [show d'.extract 0 n = d' by rw [← hds, ← hp.1]; simp, show d.extract 0 n = d by rw [← hds]; simp] at h1
    rw [← hd]
    exact h1.map _
  · intro i k hik hk
    have hk' : k < d'.size := by simpa using hk
    have h1 := hs i k (Nat.zero_le _) hik (by have := hp.1; omega)
    rw [ltL_no, getElem!_pos d' k hk', getElem!_pos d' i (by omega)] at h1
    simpa [hk', show i < d'.size by omega] using h1
  · have hH' := holdsK_sortWorldK_c (encL (j := j)) 5 w g 0 d d' m os hH hgl hp.1
    rcases own.2 with ⟨h', _⟩ | ⟨g', cap', cur, h', hBg, hg, hnc, hcm, hcs, htake⟩
    · simp at h'
    simp only [Value.slice.injEq, Option.some.injEq, Addr.mk.injEq, and_true, true_and] at h'
    obtain ⟨rfl, rfl⟩ := h'
    obtain ⟨cur', hg', hcs'⟩ := sortWorld_self (encL (j := j)) 5 w g 0 m d' os hg
    have hl' : (fcells (d'.toList.map Subtype.val)).length = n * 5 := by rw [fcells_len]; simp; have := hp.1; omega
    refine ⟨hl', .inr ⟨g, cap, cur', rfl, hBg, hg', hnc, hcm, by omega, ?_⟩⟩
    apply List.ext_getElem?
    intro i
    rcases Nat.lt_or_ge i (n * 5) with hi | hi
    · rw [List.getElem?_take, if_pos hi]
      have e : i = i / 5 * 5 + i % 5 := by omega
      have hi5 : i / 5 < d'.size := by have := hp.1; omega
      have h1 := (hH'.cell (i := i / 5) (c := i % 5) hi5 (by omega)).1
      rw [Nat.zero_add, ← e] at h1
      have h2 : (sortWorldK (encL (j := j)) 5 w g 0 m d' os).cell? ⟨g, i, none⟩ = cur'[i]? := by simp [World.cell?, hg']
      rw [h2] at h1
      have h3 := fcells_at (d'.toList.map Subtype.val) (i / 5) (by simpa using hi5) (i % 5) (by omega)
      rw [← e] at h3
      rw [Array.getElem?_toList, h1, h3]
      have h4 : ((d'.toList.map Subtype.val)[i / 5]?).getD default = (d'[i / 5]!).1 := by
        rw [getElem!_pos d' _ hi5]
        simp [hi5]
      rw [h4]
      have : i % 5 = 0 ∨ i % 5 = 1 ∨ i % 5 = 2 ∨ i % 5 = 3 ∨ i % 5 = 4 := by omega
      rcases this with h | h | h | h | h <;> rw [h] <;> rfl
    · rw [List.getElem?_eq_none (by rw [List.length_take]; omega), List.getElem?_eq_none (by omega)]
  · exact ⟨rfl, rfl, rfl, sortWorld_size _ _ _ _ _ _ _ _, fun b hb hne => sortWorld_other _ _ _ _ _ _ _ _ b hb hne⟩
end Go.Proofs.YtbafkakhhelcmaaGreat
