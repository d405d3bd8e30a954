/-
  More of what layer 11's laws share: a row of strings, a string's bytes, a store that is read alone (LR), a chip on which nothing went wrong (Calm).
-/
import Derived.Test.YtgamakejaknagaaGreatStoreAwake
import Derived.Lib.ConvBytes
import Derived.Laws.AppendOwn
namespace Go.Proofs.YtgamakejaknagaaGreat
open Go.RowKit Go.Maps
set_option linter.unusedVariables false
set_option maxRecDepth 8192

/-- A row of strings. -/
structure SRow (w : World) (a : Option Addr) (len cap : Nat) (D : Nat → List Int) : Prop where
  hcap : len ≤ cap
  hmax : cap ≤ maxLen
  at_ : 0 < len → ∃ b off, a = some ⟨b, off, none⟩ ∧ b < w.heap.size ∧ ∀ i, i < len → w.cell? ⟨b, off + i, none⟩ = some (.string (strOfNums (D i)))
  bs : ∀ i, IsB (D i)
  sz : ∀ i, (D i).length ≤ maxLen
theorem bytes_row (w : World) (e : TypeId) (D : List Int) (hb : IsB D) (hs : D.length ≤ maxLen) :
    Row .u8 (Lib.bytesWorld w e (strOfNums D)) (some ⟨w.heap.size, 0, none⟩) D.length (grownCap w (strOfNums D).size 0 e) D := by
  have hsz := strOfNums_size D
  refine ⟨rfl, by have := grownCap_ge w (strOfNums D).size 0 e; omega, grownCap_le_maxLen _ _ _ _ (by omega), (fun h => by cases h), fun _ => ⟨w.heap.size, 0, rfl, by rw [Lib.bytesWorld_size]; omega, fun i hi => ?_⟩⟩
  rw [Nat.zero_add, Lib.bytesWorld_cell w e _ i (by omega), strOfNums_data]
  have := hb (D[i]) (List.getElem_mem hi)
  simp [List.getD, hi]
  omega
theorem bytes_below (w : World) (e : TypeId) (t : ByteArray) : Below w.heap.size w (Lib.bytesWorld w e t) := by
  refine ⟨rfl, rfl, rfl, by rw [Lib.bytesWorld_size]; omega, fun j hj => Lib.bytesWorld_at_old w e t j hj⟩
/-- Nothing went wrong. -/
structure Calm (S : CS) : Prop where
  bd : ∀ y, S.bd y = false
  wk : ∀ y, S.wk y = false
  ah : S.ah = 0
  wr : ∀ y p, S.wr y p = fun _ => false
section
variable {W w w' : World} {G : Geo} {B : CB} {F F' : Nat → Prop} {N N' : Nat} {S S' : CS} {K K' : Int → BK} {M M' : Int → Option (List Int)} {c : Int} {d s g : Nat} {st st' : List Int} {nu nu' : Int}
/-- A block that stands for none. -/
theorem free_of (st : List Int) (b : Int) (h : (st.length : Int) < b) : ∃ y, (0 ≤ y ∧ y < b) ∧ y ∉ st := by
  apply Classical.byContradiction
  intro hn
  have hall : ∀ y, 0 ≤ y ∧ y < b → y ∈ st := fun y hy => Classical.byContradiction fun h => hn ⟨y, hy, h⟩
  have := nodup_len (l := (List.range b.toNat).map fun i : Nat => (i : Int)) (m := st) (by
    rw [List.nodup_iff_pairwise_ne, List.pairwise_map]
    exact List.nodup_range.imp (fun h e => h (by omega))) (fun y hy => by
      rw [List.mem_map] at hy
      obtain ⟨i, hi, rfl⟩ := hy
      rw [List.mem_range] at hi
      exact hall _ (by omega))
  simp at this
  omega
theorem LS.mono (h : LS W G B F N S K M c d s g st nu w) (hN : N ≤ N') {c' : Int} (hc : c ≤ c') : LS W G B F N' S K M c' d s g st nu w :=
  ⟨h.at_.mono hN, ⟨h.cl.chip.mono hN, h.cl.lim, h.cl.inv, h.cl.hold, fun y y0 y1 => by have := h.cl.le y y0 y1; omega, by have := h.cl.nn; omega, h.cl.low, h.cl.bel⟩, h.up, h.stok, h.num, by have := h.nu1; omega, h.rest, h.lows, h.lowg⟩
/-- A store that is read. -/
structure LR (W : World) (G : Geo) (B : CB) (F : Nat → Prop) (N : Nat) (S : CS) (K : Int → BK) (M : Int → Option (List Int)) (c : Int) (d s g : Nat) (st : List Int) (nu : Int) (w : World) : Prop where
  at_ : StAt G B F N S d s g st nu false w
  cl : CL W G B F N S K M c w
  up : S.up = true
  stok : StOk G.b S.bd K M st
theorem LR.below (h : LR W G B F N S K M c d s g st nu w) (q : Below w.heap.size w w') : LR W G B F N S K M c d s g st nu w' := ⟨h.at_.below q, h.cl.below q, h.up, h.stok⟩
theorem LR.read_none (h : LR W G B F N S K M c d s g st nu w) (j : Nat) (hj : j < st.length) (hm : M j = none) : Calls Tryz.prog 10 #[.pointer (some ⟨s, 0, none⟩), .int .i64 (j : Int)] w fun e w' => e = .returned (.tuple #[.slice none 0 0, .int .i64 0, .int .i64 5]) ∧ w = w' := by
  rcases h.stok j hj with ⟨_, hn⟩ | ⟨D, n, e, _⟩
  · exact stRead_none j w h.at_.sb hj hn
  · rw [hm] at e; cases e
end
/-- The first k logical blocks have D's bytes; from len on there is none. -/
structure HasD (D : Nat → List Int) (len k : Nat) (M : Int → Option (List Int)) : Prop where
  has : ∀ j : Nat, j < k → M j = some (D j)
  none : ∀ i : Int, (len : Int) ≤ i → M i = none
theorem HasD.put {D : Nat → List Int} {len k : Nat} {M : Int → Option (List Int)} (h : HasD D len k M) (hk : k < len) : HasD D len (k + 1) (updM M k (some (D k))) := by
  refine ⟨fun j hj => ?_, fun i hi => ?_⟩
  · by_cases e : j = k
    · subst e; exact updM_at _ _ _
    · rw [updM_ne _ (by omega)]; exact h.has j (by omega)
  · rw [updM_ne _ (by omega)]; exact h.none i hi
end Go.Proofs.YtgamakejaknagaaGreat
