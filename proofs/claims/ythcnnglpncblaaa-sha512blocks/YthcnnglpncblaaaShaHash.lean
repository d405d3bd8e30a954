/-
  The code of layer 13 (sha256): a Hash in memory: what is reckoned once, what is counted, its state and its rest.
-/
import Derived.Test.YthcnnglpncblaaaShaCode6
import Derived.Defers
import Derived.Laws.Pointers
import Derived.Laws.LoneSync
import Derived.RegionCalls
namespace Go.Proofs.Ythcnnglpncblaaa
open Go.RowKit
set_option linter.unusedVariables false
set_option maxRecDepth 8192

theorem turned_trans {a b c : World} {row : Option Nat} (h : a.grownBy b row) (k : b.grownBy c row) : a.grownBy c row :=
  ⟨k.os.trans h.os, k.tape.trans h.tape, k.output.trans h.output, Nat.le_trans h.size k.size, fun j hj hne => (k.block j (Nat.lt_of_lt_of_le hj h.size) hne).trans (h.block j hj hne)⟩
theorem turned_cell (w : World) (h j : Nat) (v : Value) : w.grownBy (w.setCell ⟨h, j, none⟩ v) (some h) :=
  ⟨rfl, rfl, rfl, by simp, fun k hk hne => Below.heap_setCell w _ v k (fun e => hne (by rw [e]))⟩
theorem turned_cells (w : World) (h : Nat) : ∀ (vs : List Value) (o : Nat), w.grownBy (w.setCells h o vs) (some h) := by
  intro vs
  induction vs generalizing w with
  | nil => exact fun _ => World.grownBy.refl _ _
  | cons v r ih => exact fun o => turned_trans (turned_cell w h o v) (ih _ (o + 1))
theorem turned_below {w w' : World} (h : Option Nat) (q : Below w.heap.size w w') : w.grownBy w' h := ⟨q.os, q.tape, q.output, q.size, fun k hk _ => q.block k hk⟩
theorem turned_drew {a w : World} {h : Option Nat} (g : a.grownBy w h) : a.grownBy w.drew h := ⟨g.os, g.tape, g.output, g.size, g.block⟩
theorem turned_drewN {a w : World} {h : Option Nat} (g : a.grownBy w h) (n : Nat) : a.grownBy (w.drewN n) h := ⟨g.os, g.tape, g.output, g.size, g.block⟩
/-- What a Hash that is new since a world does turns nothing of that world. -/
theorem turned_new {w0 w w' : World} {h B : Nat} (q : Below B w0 w) (g : w.grownBy w' (some h)) (hB : B ≤ w.heap.size) (hh : B ≤ h) : Below B w0 w' :=
  q.grown g hB (fun k hk => by simp only [Option.some.injEq] at hk; omega)
theorem Row.turned {k : IntKind} {w w' : World} {a : Option Addr} {len cap h : Nat} {zs : List Int} (hr : Row k w a len cap zs) (hg : w.grownBy w' (some h)) (hne : 0 < len → ∀ ad, a = some ad → ad.block ≠ h) : Row k w' a len cap zs := by
  refine ⟨hr.hlen, hr.hcap, hr.hmax, hr.hnil, fun h0 => ?_⟩
  obtain ⟨b, off, rfl, hbs, hcell⟩ := hr.hcell h0
  have hb : some b ≠ some h := fun e => hne h0 _ rfl (by simpa using e)
  refine ⟨b, off, rfl, Nat.lt_of_lt_of_le hbs hg.size, fun i hi => ?_⟩
  rw [World.cell?_of_block (w := w) (hg.block b hbs hb)]
  exact hcell i hi
theorem Arr.turned {w w' : World} {g h : Nat} {T : TypeId} {k : IntKind} {zs : List Int} (hA : Arr w g T k zs) (hg : w.grownBy w' (some h)) (hne : g ≠ h) : Arr w' g T k zs := by
  unfold Arr; rw [hg.block g hA.lt (fun e => hne (by simpa using e))]; exact hA

/-- A Hash in the block h: d: whether its constants were reckoned; m: its lock; then rounds, state, rest, count. -/
structure HashAt (w : World) (h : Nat) (d m : Int) (K s r : List Nat) (n : Nat) : Prop where
  lt : h < w.heap.size
  th : w.there h 0 140
  c0 : w.cell? ⟨h, 0, none⟩ = some (.int .u32 d)
  c1 : w.cell? ⟨h, 1, none⟩ = some (.int .i32 m)
  rK : w.rangeAt h 3 ((nI K).map (Value.int .u32))
  rs : w.rangeAt h 67 ((nI s).map (Value.int .u32))
  rr : w.rangeAt h 75 ((nI r).map (Value.int .u8))
  cn : w.cell? ⟨h, 139, none⟩ = some (.int .u64 (n : Int))
  lK : K.length = 64
  ls : s.length = 8
  lr : r.length = 64
theorem rangeAt_block {w w' : World} {b o : Nat} {cs : List Value} (h : w.rangeAt b o cs) (e : w'.heap[b]? = w.heap[b]?) : w'.rangeAt b o cs := fun j v hv => by
  rw [World.cell?_of_block (w := w) e]; exact h j v hv
theorem there_block {w w' : World} {b o n : Nat} (h : w.there b o n) (e : w'.heap[b]? = w.heap[b]?) : w'.there b o n := fun j hj => by
  rw [World.cell?_of_block (w := w) e, World.frozen?_of_block (w := w) e]; exact h j hj
theorem HashAt.same {w w' : World} {h : Nat} {d m : Int} {K s r : List Nat} {n : Nat} (H : HashAt w h d m K s r n) (e : w'.heap[h]? = w.heap[h]?) (hs : w.heap.size ≤ w'.heap.size) : HashAt w' h d m K s r n :=
  ⟨Nat.lt_of_lt_of_le H.lt hs, there_block H.th e, (World.cell?_of_block (w := w) e).trans H.c0, (World.cell?_of_block (w := w) e).trans H.c1, rangeAt_block H.rK e, rangeAt_block H.rs e, rangeAt_block H.rr e, (World.cell?_of_block (w := w) e).trans H.cn, H.lK, H.ls, H.lr⟩
theorem HashAt.below {w w' : World} {h : Nat} {d m : Int} {K s r : List Nat} {n : Nat} (H : HashAt w h d m K s r n) {B : Nat} (q : Below B w w') (hB : h < B) : HashAt w' h d m K s r n := H.same (q.block h hB) q.size
theorem HashAt.drew {w : World} {h : Nat} {d m : Int} {K s r : List Nat} {n : Nat} (H : HashAt w h d m K s r n) : HashAt w.drew h d m K s r n := H.same rfl (Nat.le_refl _)
theorem HashAt.turned {w w' : World} {h g : Nat} {d m : Int} {K s r : List Nat} {n : Nat} (H : HashAt w h d m K s r n) (q : w.grownBy w' (some g)) (hne : h ≠ g) : HashAt w' h d m K s r n := H.same (q.block h H.lt (fun e => hne (by simpa using e))) q.size
theorem setCells_one (w : World) (b o : Nat) (v : Value) : w.setCells b o [v] = w.setCell ⟨b, o, none⟩ v := rfl
theorem there_part {w : World} {b n : Nat} (h : w.there b 0 n) (o k : Nat) (hk : o + k ≤ n) : w.there b o k := fun j hj => by
  have := h (o + j) (by omega)
  rwa [Nat.zero_add] at this
theorem cells_same {w : World} {b o j : Nat} {vs : List Value} (h : j < o ∨ o + vs.length ≤ j) : (w.setCells b o vs).cell? ⟨b, j, none⟩ = w.cell? ⟨b, j, none⟩ := World.cell?_setCells_out b vs o w ⟨b, j, none⟩ (fun _ _ => h)
theorem HashAt.set0 {w : World} {h : Nat} {d m : Int} {K s r : List Nat} {n : Nat} (H : HashAt w h d m K s r n) (x : Int) : HashAt (w.setCell ⟨h, 0, none⟩ (.int .u32 x)) h x m K s r n := by
  rw [← setCells_one]
  have lK := H.lK; have ls := H.ls; have lr := H.lr
  exact ⟨Nat.lt_of_lt_of_le H.lt (turned_cells w h _ _).size, World.there_setCells H.th _ _ _, World.cell?_setCell_same _ _ _ H.c0, (cells_same (by simp)).trans H.c1,
    World.rangeAt_setCells_apart H.rK _ _ _ (by simp), World.rangeAt_setCells_apart H.rs _ _ _ (by simp), World.rangeAt_setCells_apart H.rr _ _ _ (by simp), (cells_same (by simp)).trans H.cn, lK, ls, lr⟩
theorem HashAt.set1 {w : World} {h : Nat} {d m : Int} {K s r : List Nat} {n : Nat} (H : HashAt w h d m K s r n) (x : Int) : HashAt (w.setCell ⟨h, 1, none⟩ (.int .i32 x)) h d x K s r n := by
  rw [← setCells_one]
  have lK := H.lK; have ls := H.ls; have lr := H.lr
  exact ⟨Nat.lt_of_lt_of_le H.lt (turned_cells w h _ _).size, World.there_setCells H.th _ _ _, (cells_same (by simp)).trans H.c0, World.cell?_setCell_same _ _ _ H.c1,
    World.rangeAt_setCells_apart H.rK _ _ _ (by simp), World.rangeAt_setCells_apart H.rs _ _ _ (by simp), World.rangeAt_setCells_apart H.rr _ _ _ (by simp), (cells_same (by simp)).trans H.cn, lK, ls, lr⟩
theorem HashAt.setN {w : World} {h : Nat} {d m : Int} {K s r : List Nat} {n : Nat} (H : HashAt w h d m K s r n) (x : Nat) : HashAt (w.setCell ⟨h, 139, none⟩ (.int .u64 (x : Int))) h d m K s r x := by
  rw [← setCells_one]
  have lK := H.lK; have ls := H.ls; have lr := H.lr
  exact ⟨Nat.lt_of_lt_of_le H.lt (turned_cells w h _ _).size, World.there_setCells H.th _ _ _, (cells_same (by simp)).trans H.c0, (cells_same (by simp)).trans H.c1,
    World.rangeAt_setCells_apart H.rK _ _ _ (by simp [nI_length]; omega), World.rangeAt_setCells_apart H.rs _ _ _ (by simp [nI_length]; omega), World.rangeAt_setCells_apart H.rr _ _ _ (by simp [nI_length]; omega), World.cell?_setCell_same _ _ _ H.cn, lK, ls, lr⟩
theorem HashAt.setK {w : World} {h : Nat} {d m : Int} {K s r : List Nat} {n : Nat} (H : HashAt w h d m K s r n) (L : List Nat) (hL : L.length = 64) : HashAt (w.setCells h 3 ((nI L).map (Value.int .u32))) h d m L s r n := by
  have lK := H.lK; have ls := H.ls; have lr := H.lr
  have hl : ((nI L).map (Value.int .u32)).length = 64 := by rw [List.length_map, nI_length, hL]
  exact ⟨Nat.lt_of_lt_of_le H.lt (turned_cells w h _ _).size, World.there_setCells H.th _ _ _, (cells_same (by omega)).trans H.c0, (cells_same (by omega)).trans H.c1,
    World.rangeAt_setCells_same _ _ _ _ (by rw [hl]; exact there_part H.th 3 64 (by decide)), World.rangeAt_setCells_apart H.rs _ _ _ (by omega), World.rangeAt_setCells_apart H.rr _ _ _ (by omega), (cells_same (by omega)).trans H.cn, hL, ls, lr⟩
theorem HashAt.setS {w : World} {h : Nat} {d m : Int} {K s r : List Nat} {n : Nat} (H : HashAt w h d m K s r n) (L : List Nat) (hL : L.length = 8) : HashAt (w.setCells h 67 ((nI L).map (Value.int .u32))) h d m K L r n := by
  have lK := H.lK; have ls := H.ls; have lr := H.lr
  have hl : ((nI L).map (Value.int .u32)).length = 8 := by rw [List.length_map, nI_length, hL]
  exact ⟨Nat.lt_of_lt_of_le H.lt (turned_cells w h _ _).size, World.there_setCells H.th _ _ _, (cells_same (by omega)).trans H.c0, (cells_same (by omega)).trans H.c1,
    World.rangeAt_setCells_apart H.rK _ _ _ (by right; left; rw [List.length_map, nI_length, lK]; decide), World.rangeAt_setCells_same _ _ _ _ (by rw [hl]; exact there_part H.th 67 8 (by decide)), World.rangeAt_setCells_apart H.rr _ _ _ (by omega), (cells_same (by omega)).trans H.cn, lK, hL, lr⟩
/-- Bytes laid into the rest. -/
theorem HashAt.setR {w : World} {h : Nat} {d m : Int} {K s r : List Nat} {n : Nat} (H : HashAt w h d m K s r n) (at_ : Nat) (L : List Nat) (hL : at_ + L.length ≤ 64) : HashAt (w.setCells h (75 + at_) ((nI L).map (Value.int .u8))) h d m K s (r.take at_ ++ (L ++ r.drop (at_ + L.length))) n := by
  have lK := H.lK; have ls := H.ls; have lr := H.lr
  have hl : ((nI L).map (Value.int .u8)).length = L.length := by rw [List.length_map, nI_length]
  refine ⟨Nat.lt_of_lt_of_le H.lt (turned_cells w h _ _).size, World.there_setCells H.th _ _ _, (cells_same (by omega)).trans H.c0, (cells_same (by omega)).trans H.c1,
    World.rangeAt_setCells_apart H.rK _ _ _ (by right; left; rw [List.length_map, nI_length, lK]; omega), World.rangeAt_setCells_apart H.rs _ _ _ (by right; left; rw [List.length_map, nI_length, ls]; omega), ?_, (cells_same (by omega)).trans H.cn, lK, ls, by simp; omega⟩
  intro j v hv
  have hj : j < 64 := by have := (List.getElem?_eq_some_iff.1 hv).1; simp [nI_length] at this; omega
  by_cases h1 : j < at_
  · rw [cells_same (by omega)]
    apply H.rr j v
    rw [nI_append, List.map_append, List.getElem?_append_left (by rw [List.length_map, nI_length, List.length_take]; omega)] at hv
    rw [← hv, ← nI_take, List.map_take, List.getElem?_take, if_pos h1]
  · by_cases h2 : j < at_ + L.length
    · have hv2 : ((nI L).map (Value.int .u8))[j - at_]? = some v := by
        rw [nI_append, nI_append, List.map_append, List.map_append, List.getElem?_append_right (by rw [List.length_map, nI_length, List.length_take]; omega)] at hv
        rw [List.length_map, nI_length, List.length_take, Nat.min_eq_left (by omega), List.getElem?_append_left (by rw [List.length_map, nI_length]; omega)] at hv
        exact hv
      have := World.rangeAt_setCells_same w h (75 + at_) ((nI L).map (Value.int .u8)) (by rw [hl]; exact there_part H.th (75 + at_) L.length (by omega)) (j - at_) v hv2
      rwa [show 75 + at_ + (j - at_) = 75 + j from by omega] at this
    · rw [cells_same (by omega)]
      apply H.rr j v
      rw [nI_append, nI_append, List.map_append, List.map_append, List.getElem?_append_right (by rw [List.length_map, nI_length, List.length_take]; omega)] at hv
      rw [List.length_map, nI_length, List.length_take, Nat.min_eq_left (by omega), List.getElem?_append_right (by rw [List.length_map, nI_length]; omega), List.length_map, nI_length] at hv
      rw [← hv, ← nI_drop, List.map_drop, List.getElem?_drop]
      congr 1
      omega
end Go.Proofs.Ythcnnglpncblaaa
