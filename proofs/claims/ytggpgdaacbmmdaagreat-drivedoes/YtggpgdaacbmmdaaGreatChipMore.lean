/-
  What layer 7's laws use besides: rows that are filled, and what deeds answer.
-/
import Derived.Test.YtggpgdaacbmmdaaGreatChipAwake
namespace Go.Proofs.YtggpgdaacbmmdaaGreat
open Go.RowKit Go.Maps
set_option linter.unusedVariables false
set_option maxRecDepth 8192

/-- So many of v, noughts behind them. -/
def fillZ (v : Int) (n L : Nat) : List Int := List.replicate n v ++ List.replicate (L - n) 0
theorem fillZ_zero (v : Int) (L : Nat) : fillZ v 0 L = List.replicate L 0 := by unfold fillZ; simp
theorem fillZ_len (v : Int) {n L : Nat} (h : n ≤ L) : (fillZ v n L).length = L := by unfold fillZ; simp; omega
theorem fillZ_all (v : Int) (L : Nat) : fillZ v L L = List.replicate L v := by unfold fillZ; simp
theorem fillZ_set (v : Int) {n L : Nat} (h : n < L) : (fillZ v n L).set n v = fillZ v (n + 1) L := by
  unfold fillZ
  obtain ⟨d, hd⟩ : ∃ d, L - n = d + 1 := ⟨L - n - 1, by omega⟩
  rw [List.set_append_right _ _ (by simp), List.length_replicate, Nat.sub_self, hd, List.replicate_succ, List.set_cons_zero, show L - (n + 1) = d by omega, List.replicate_succ', List.append_assoc]
  rfl

/-- The block r holds just these bytes. -/
def Blk (w : World) (r : Nat) (z : List Int) : Prop := w.heap[r]? = some (.cells (z.map (Value.int .u8)).toArray 5 (0, 0))
theorem Blk.cell {w : World} {r : Nat} {z : List Int} (h : Blk w r z) {i : Nat} (hi : i < z.length) : w.cell? ⟨r, i, none⟩ = some (.int .u8 (z[i]?.getD 0)) := by
  unfold Blk at h
  simp [World.cell?, h, hi]
theorem Blk.frozen {w : World} {r : Nat} {z : List Int} (h : Blk w r z) (i : Nat) : w.frozen? ⟨r, i, none⟩ = false := by
  unfold Blk at h
  simp [World.frozen?, h]
theorem Blk.set {w : World} {r : Nat} {z : List Int} (h : Blk w r z) (i : Nat) (v : Int) : Blk (w.setCell ⟨r, i, none⟩ (.int .u8 v)) r (z.set i v) := by
  have := block_setC (i := i) h (.int .u8 v)
  unfold Blk
  rw [this, List.map_set]
  simp
theorem Blk.row {w : World} {r : Nat} {z : List Int} {L : Nat} (h : Blk w r z) (hl : z.length = L) (hm : L ≤ maxLen) : Row .u8 w (some ⟨r, 0, none⟩) L L z := isB_rowA (owns_of_heap (base := 0) h (by rw [List.length_map, hl]) (Nat.zero_le _) hm)
theorem Blk.off {F : Nat → Prop} {w : World} {r : Nat} {z : List Int} {L : Nat} (h : Blk w r z) (hl : z.length = L) (hm : L ≤ maxLen) (hF : ¬ F r) : Off F .u8 w (some ⟨r, 0, none⟩) L L z := by
  refine ⟨h.row hl hm, fun _ x hx hf => ?_⟩
  have e : x.block = r := by cases hx; rfl
  exact hF (e ▸ hf)
theorem Blk.lt {w : World} {r : Nat} {z : List Int} (h : Blk w r z) : r < w.heap.size := (Array.getElem?_eq_some_iff.1 h).1
theorem Blk.same {w w' : World} {r : Nat} {z : List Int} (h : Blk w r z) (hb : w'.heap[r]? = w.heap[r]?) : Blk w' r z := hb.trans h
theorem isB_rep {v : Int} (h : 0 ≤ v ∧ v ≤ 255) (n : Nat) : IsB (List.replicate n v) := fun x hx => by rw [List.mem_replicate] at hx; rw [hx.2]; exact h
theorem padF_full {L : Nat} {z : List Int} (h : z.length = L) : padF L z = z := by unfold padF; rw [h]; simp

theorem fitsP_of {G : Geo} {x y : Int} {len : Nat} (hx : 0 ≤ x ∧ x < G.b) (hy : 0 ≤ y ∧ y < G.p) (hl : len = G.L) : fitsP G x y len = true := by
  unfold fitsP hasP inB0
  rw [decide_eq_true hx, decide_eq_true hy, decide_eq_true hl]; rfl
theorem hasP_of {G : Geo} {x y : Int} (hx : 0 ≤ x ∧ x < G.b) (hy : 0 ≤ y ∧ y < G.p) : hasP G x y = true := by
  unfold hasP inB0
  rw [decide_eq_true hx, decide_eq_true hy]; rfl
section
variable {G : Geo} {S : CS} {x y : Int} {z : List Int}
theorem program_down (hu : S.up = false) : S.doProgram G x y z = (70, S) := by unfold CS.doProgram; rw [if_pos hu]
theorem program_order (hu : S.up = true) (hf : fitsP G x y z.length = true) (ho : y ≠ S.nx x) : S.doProgram G x y z = (71, S) := by
  unfold CS.doProgram; rw [if_neg (by rw [hu]; simp), if_neg (by rw [hf]; simp), if_pos ho]
theorem program_cut (hu : S.up = true) (hf : fitsP G x y z.length = true) (ho : y = S.nx x) (ha : S.ah = 1) : S.doProgram G x y z = (70, S.counted.lay x y (padF G.L (z.take (keptN S.ke z.length)))) := by
  unfold CS.doProgram; rw [if_neg (by rw [hu]; simp), if_neg (by rw [hf]; simp), if_neg (fun h => h ho), if_pos ha]
theorem program_ok (hu : S.up = true) (hf : fitsP G x y z.length = true) (ho : y = S.nx x) (ha : S.ah ≠ 1) (hw : S.wk x = false) : S.doProgram G x y z = (0, S.counted.lay x y z) := by
  unfold CS.doProgram
  rw [if_neg (by rw [hu]; simp), if_neg (by rw [hf]; simp), if_neg (fun h => h ho), if_neg ha, if_neg (by rw [hw]; simp), padF_full (fitsP_yes hf).2]
theorem erase_ok (hu : S.up = true) (hx : 0 ≤ x ∧ x < G.b) (ha : S.ah ≠ 1) (hw : S.wk x = false) : S.doErase G x = (0, (S.counted.wipe G.L x G.p.toNat).next0 x) := by
  unfold CS.doErase
  rw [if_neg (by rw [hu]; simp), if_neg (by unfold inB0; rw [decide_eq_true hx]; simp), if_neg ha, if_neg (by rw [hw]; simp)]
theorem counted_zero (h : S.ah = 0) : S.counted = S := by unfold CS.counted; rw [if_pos h]
theorem counted_one (h : S.ah = 1) : S.counted = { S with ah := 0, up := false } := by unfold CS.counted; rw [if_neg (by omega), if_pos h]
theorem counted_more (h : 1 < S.ah) : S.counted = { S with ah := S.ah - 1 } := by unfold CS.counted; rw [if_neg (by omega), if_neg (by omega)]
theorem lay_pg (S : CS) (x y : Int) (z : List Int) : (S.lay x y z).pg x y = z := by unfold CS.lay; simp
theorem lay_pg_other (S : CS) (x y : Int) (z : List Int) {b p : Int} (h : ¬ (b = x ∧ p = y)) : (S.lay x y z).pg b p = S.pg b p := by unfold CS.lay; simp [h]
theorem lay_nx (S : CS) (x y : Int) (z : List Int) : (S.lay x y z).nx x = max (S.nx x) (y + 1) := by unfold CS.lay; simp
theorem lay_nx_other (S : CS) (x y : Int) (z : List Int) {b : Int} (h : b ≠ x) : (S.lay x y z).nx b = S.nx b := by unfold CS.lay; simp [h]
theorem wipe_pg (S : CS) (L : Nat) (x : Int) (k : Nat) {p : Int} (h : 0 ≤ p ∧ p < (k : Int)) : (S.wipe L x k).pg x p = List.replicate L 255 := by unfold CS.wipe; simp [h]
theorem wipe_wr (S : CS) (L : Nat) (x : Int) (k : Nat) {p : Int} (h : 0 ≤ p ∧ p < (k : Int)) : (S.wipe L x k).wr x p = fun _ => false := by unfold CS.wipe; simp [h]
theorem next0_nx (S : CS) (x : Int) : (S.next0 x).nx x = 0 := by unfold CS.next0; simp
end
end Go.Proofs.YtggpgdaacbmmdaaGreat
