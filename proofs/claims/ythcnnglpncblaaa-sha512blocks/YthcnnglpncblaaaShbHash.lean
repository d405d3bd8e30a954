/-
  The code of layer 14 (sha512): a run in memory: its constants, its state, its rest.
-/
import Derived.Test.YthcnnglpncblaaaShbCode6
import Derived.Test.YthcnnglpncblaaaShaHash6
namespace Go.Proofs.Ythcnnglpncblaaa.B
open Go.RowKit
set_option linter.unusedVariables false
set_option maxRecDepth 8192

/-- A run in the block h: rounds, state, rest, and how many bytes of rest there are. -/
structure RunAt (w : World) (h : Nat) (K s r : List Nat) (n : Nat) : Prop where
  lt : h < w.heap.size
  th : w.there h 0 217
  rK : w.rangeAt h 0 ((nI K).map (Value.int .u64))
  rs : w.rangeAt h 80 ((nI s).map (Value.int .u64))
  rr : w.rangeAt h 88 ((nI r).map (Value.int .u8))
  cn : w.cell? ⟨h, 216, none⟩ = some (.int .i64 (n : Int))
  lK : K.length = 80
  ls : s.length = 8
  lr : r.length = 128
theorem RunAt.same {w w' : World} {h : Nat} {K s r : List Nat} {n : Nat} (H : RunAt w h K s r n) (e : w'.heap[h]? = w.heap[h]?) (hs : w.heap.size ≤ w'.heap.size) : RunAt w' h K s r n :=
  ⟨Nat.lt_of_lt_of_le H.lt hs, there_block H.th e, rangeAt_block H.rK e, rangeAt_block H.rs e, rangeAt_block H.rr e, (World.cell?_of_block (w := w) e).trans H.cn, H.lK, H.ls, H.lr⟩
theorem RunAt.below {w w' : World} {h : Nat} {K s r : List Nat} {n : Nat} (H : RunAt w h K s r n) {B : Nat} (q : Below B w w') (hB : h < B) : RunAt w' h K s r n := H.same (q.block h hB) q.size
theorem RunAt.drew {w : World} {h : Nat} {K s r : List Nat} {n : Nat} (H : RunAt w h K s r n) : RunAt w.drew h K s r n := H.same rfl (Nat.le_refl _)
theorem RunAt.turned {w w' : World} {h g : Nat} {K s r : List Nat} {n : Nat} (H : RunAt w h K s r n) (q : w.grownBy w' (some g)) (hne : h ≠ g) : RunAt w' h K s r n := H.same (q.block h H.lt (fun e => hne (by simpa using e))) q.size
theorem RunAt.setN {w : World} {h : Nat} {K s r : List Nat} {n : Nat} (H : RunAt w h K s r n) (x : Nat) : RunAt (w.setCell ⟨h, 216, none⟩ (.int .i64 (x : Int))) h K s r x := by
  rw [← setCells_one]
  have lK := H.lK; have ls := H.ls; have lr := H.lr
  exact ⟨Nat.lt_of_lt_of_le H.lt (turned_cells w h _ _).size, World.there_setCells H.th _ _ _,
    World.rangeAt_setCells_apart H.rK _ _ _ (by simp [nI_length]; omega), World.rangeAt_setCells_apart H.rs _ _ _ (by simp [nI_length]; omega), World.rangeAt_setCells_apart H.rr _ _ _ (by simp [nI_length]; omega), World.cell?_setCell_same _ _ _ H.cn, lK, ls, lr⟩
theorem RunAt.setS {w : World} {h : Nat} {K s r : List Nat} {n : Nat} (H : RunAt w h K s r n) (L : List Nat) (hL : L.length = 8) : RunAt (w.setCells h 80 ((nI L).map (Value.int .u64))) h K L r n := by
  have lK := H.lK; have ls := H.ls; have lr := H.lr
  have hl : ((nI L).map (Value.int .u64)).length = 8 := by rw [List.length_map, nI_length, hL]
  exact ⟨Nat.lt_of_lt_of_le H.lt (turned_cells w h _ _).size, World.there_setCells H.th _ _ _,
    World.rangeAt_setCells_apart H.rK _ _ _ (by right; left; rw [List.length_map, nI_length, lK]; decide), World.rangeAt_setCells_same _ _ _ _ (by rw [hl]; exact there_part H.th 80 8 (by decide)), World.rangeAt_setCells_apart H.rr _ _ _ (by omega), (cells_same (by omega)).trans H.cn, lK, hL, lr⟩
/-- Bytes laid into the rest. -/
theorem RunAt.setR {w : World} {h : Nat} {K s r : List Nat} {n : Nat} (H : RunAt w h K s r n) (at_ : Nat) (L : List Nat) (hL : at_ + L.length ≤ 128) : RunAt (w.setCells h (88 + at_) ((nI L).map (Value.int .u8))) h K s (r.take at_ ++ (L ++ r.drop (at_ + L.length))) n := by
  have lK := H.lK; have ls := H.ls; have lr := H.lr
  have hl : ((nI L).map (Value.int .u8)).length = L.length := by rw [List.length_map, nI_length]
  refine ⟨Nat.lt_of_lt_of_le H.lt (turned_cells w h _ _).size, World.there_setCells H.th _ _ _, 
    World.rangeAt_setCells_apart H.rK _ _ _ (by right; left; rw [List.length_map, nI_length, lK]; omega), World.rangeAt_setCells_apart H.rs _ _ _ (by right; left; rw [List.length_map, nI_length, ls]; omega), ?_, (cells_same (by omega)).trans H.cn, lK, ls, by simp; omega⟩
  intro j v hv
  have hj : j < 128 := by have := (List.getElem?_eq_some_iff.1 hv).1; simp [nI_length] at this; omega
  by_cases h1 : j < at_
  · rw [cells_same (by omega)]
    apply H.rr j v
    rw [nI_append, List.map_append, List.getElem?_append_left (by rw [List.length_map, nI_length, List.length_take]; omega)] at hv
    rw [← hv, ← nI_take, List.map_take, List.getElem?_take, if_pos h1]
  · by_cases h2 : j < at_ + L.length
    · have hv2 : ((nI L).map (Value.int .u8))[j - at_]? = some v := by
        rw [nI_append, nI_append, List.map_append, List.map_append, List.getElem?_append_right (by rw [List.length_map, nI_length, List.length_take]; omega)] at hv
        rw [List.length_map, nI_length, List.length_take, Nat.min_eq_left (by omega), List.getElem?_append_left (by rw [List.length_map, nI_length]; omega)] at hv
        exact hv
      have := World.rangeAt_setCells_same w h (88 + at_) ((nI L).map (Value.int .u8)) (by rw [hl]; exact there_part H.th (88 + at_) L.length (by omega)) (j - at_) v hv2
      rwa [show 88 + at_ + (j - at_) = 88 + j from by omega] at this
    · rw [cells_same (by omega)]
      apply H.rr j v
      rw [nI_append, nI_append, List.map_append, List.map_append, List.getElem?_append_right (by rw [List.length_map, nI_length, List.length_take]; omega)] at hv
      rw [List.length_map, nI_length, List.length_take, Nat.min_eq_left (by omega), List.getElem?_append_right (by rw [List.length_map, nI_length]; omega), List.length_map, nI_length] at hv
      rw [← hv, ← nI_drop, List.map_drop, List.getElem?_drop]
      congr 1
      omega
/-- Of the bytes D those that no block is full of yet are the first of r. -/
def RestOk (D r : List Nat) : Prop := r.length = 128 ∧ r.take (D.length % 128) = D.drop (128 * (D.length / 128))
theorem rest_more (K : List Nat) (S : S8) {D r L : List Nat} (h : RestOk D r) (hm : D.length % 128 + L.length < 128) :
    RestOk (D ++ L) (r.take (D.length % 128) ++ (L ++ r.drop (D.length % 128 + L.length))) ∧ (D ++ L).length / 128 = D.length / 128 ∧ blocksTo K S (D ++ L) (D.length / 128) = blocksTo K S D (D.length / 128) := by
  have hq : (D ++ L).length / 128 = D.length / 128 := by rw [List.length_append]; omega
  have hr : (D ++ L).length % 128 = D.length % 128 + L.length := by rw [List.length_append]; omega
  obtain ⟨h1, h2⟩ := h
  refine ⟨⟨by simp; omega, ?_⟩, hq, ?_⟩
  · rw [hq, hr, ← List.append_assoc, List.take_append_of_le_length (by simp; omega), List.take_of_length_le (by simp; omega), h2, List.drop_append_of_le_length (by omega)]
  · apply blocksTo_same
    rw [List.take_append_of_le_length (by omega)]
theorem rest_full (K : List Nat) (S : S8) {D r L : List Nat} (h : RestOk D r) (hm : D.length % 128 + L.length = 128) :
    mixL K (blocksTo K S D (D.length / 128)) (r.take (D.length % 128) ++ (L ++ r.drop (D.length % 128 + L.length))) = blocksTo K S (D ++ L) ((D ++ L).length / 128) ∧ (D ++ L).length % 128 = 0 ∧ ∀ r' : List Nat, r'.length = 128 → RestOk (D ++ L) r' := by
  have hq : (D ++ L).length / 128 = D.length / 128 + 1 := by rw [List.length_append]; omega
  have hr : (D ++ L).length % 128 = 0 := by rw [List.length_append]; omega
  have hl : D.length + L.length = 128 * (D.length / 128 + 1) := by omega
  obtain ⟨h1, h2⟩ := h
  refine ⟨?_, hr, fun r' h' => ⟨h', ?_⟩⟩
  · rw [hq, blocksTo]
    have e1 : blocksTo K S (D ++ L) (D.length / 128) = blocksTo K S D (D.length / 128) := blocksTo_same K S _ _ _ (by rw [List.take_append_of_le_length (by omega)])
    rw [e1, h2, List.drop_of_length_le (show r.length ≤ D.length % 128 + L.length by omega), List.append_nil, List.drop_append_of_le_length (by omega), List.take_of_length_le (by rw [List.length_append, List.length_drop]; omega)]
  · rw [hr, hq, List.take_zero, List.drop_of_length_le (by rw [List.length_append]; omega)]
/-- A run of the bytes D. -/
def RunIs (w : World) (h : Nat) (K : List Nat) (S : S8) (D : List Nat) : Prop := ∃ r, RunAt w h K (blocksTo K S D (D.length / 128)).list r (D.length % 128) ∧ RestOk D r ∧ ∀ x ∈ r, x < 256
theorem RunIs.same {w w' : World} {h : Nat} {K : List Nat} {S : S8} {D : List Nat} (H : RunIs w h K S D) (e : w'.heap[h]? = w.heap[h]?) (hs : w.heap.size ≤ w'.heap.size) : RunIs w' h K S D := by
  obtain ⟨r, h1, h2⟩ := H
  exact ⟨r, h1.same e hs, h2⟩
theorem RunIs.lt {w : World} {h : Nat} {K : List Nat} {S : S8} {D : List Nat} (H : RunIs w h K S D) : h < w.heap.size := by obtain ⟨r, h1, _⟩ := H; exact h1.lt
theorem RunIs.below {w w' : World} {h B : Nat} {K : List Nat} {S : S8} {D : List Nat} (H : RunIs w h K S D) (q : Below B w w') (hB : h < B) : RunIs w' h K S D := H.same (q.block h hB) q.size
theorem RunAt.row {w : World} {h : Nat} {K s r : List Nat} {n : Nat} (H : RunAt w h K s r n) : Row .u8 w (some ⟨h, 88, none⟩) 128 128 (nI r) :=
  ⟨by rw [nI_length]; exact H.lr, Nat.le_refl _, by decide, by simp, fun _ => ⟨h, 88, rfl, H.lt, fun i hi => by
    have hl : i < (nI r).length := by rw [nI_length, H.lr]; exact hi
    apply H.rr i
    rw [List.getElem?_map, List.getElem?_eq_getElem hl]
    rfl⟩⟩
theorem exec_sliceL {P : Program} {a : Act} {o : Oper} {w : World} (ty : TypeId) (x lo : Operand) (ho : o.op = .slice ty x (some lo) none none) (vx vl v : Value) (hx : a.eval x = vx) (hl : a.eval lo = vl) (hr : (Instr.sliceAt ty vx (some vl) none none).run P w = .ok v w) : (execOp a.eval o).run P w = .ok (.value v) w := by
  unfold execOp
  simp only [ho, hx, hl, Option.map_some, Option.map_none, Sem.run_bind, Sem.run_pure, Result.andThen_ok, hr]
end Go.Proofs.Ythcnnglpncblaaa.B
