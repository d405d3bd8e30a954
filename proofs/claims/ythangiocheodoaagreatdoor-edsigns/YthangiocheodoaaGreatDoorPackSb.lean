/-
 The code of layer 13 (sha256): spread.
-/
import Derived.Test.YthangiocheodoaaGreatDoorPackSa
import Derived.Lib.AppendZeros
import Derived.Defers
import Derived.Laws.Pointers
import Derived.Laws.LoneSync
import Derived.RegionCalls
namespace Go.Proofs.YthangiocheodoaaGreatDoor
open Go.RowKit
set_option linter.unusedVariables false
set_option maxRecDepth 8192

/-- Of a word the first j bytes. -/
def pwr (z : List Nat) (i : Nat) : Nat → Nat
 | 0 => 0
 | j + 1 => pwr z i j * 256 + z[4 * i + j]?.getD 0
theorem pwr_lt (z : List Nat) (h : ∀ x ∈ z, x < 256) (i j : Nat) : pwr z i j < 256 ^ j := by
 induction j with
 | zero => simp [pwr]
 | succ j ih =>
  have := getD_lt (by decide) h (4 * i + j)
  simp only [pwr, Nat.pow_succ]
  omega
theorem pwr_four (z : List Nat) (i : Nat) : pwr z i 4 = word4 z i := by simp [pwr, word4]
/-- The array behind k bytes. -/
def wb (z : List Nat) (k : Nat) : List Nat := (List.range 64).map fun i => pwr z i (min 4 (k - 4 * i))
theorem wb_length (z : List Nat) (k : Nat) : (wb z k).length = 64 := by simp [wb]
theorem wb_zero (z : List Nat) : wb z 0 = List.replicate 64 0 := by
 apply List.ext_getElem (by simp [wb])
 intro i h1 h2
 rw [List.getElem_replicate]
 simp only [wb, List.getElem_map, List.getElem_range]
 rw [show min 4 (0 - 4 * i) = 0 from by omega, pwr]
theorem wb_get (z : List Nat) (k i : Nat) (hi : i < 64) : (wb z k)[i]?.getD 0 = pwr z i (min 4 (k - 4 * i)) := by simp [wb, hi]
theorem wb_at (z : List Nat) (k : Nat) (hk : k < 64) : (wb z k)[k / 4]?.getD 0 = pwr z (k / 4) (k % 4) := by
 rw [wb_get z k (k / 4) (by omega)]; congr 1; omega
theorem wb_next (z : List Nat) (k : Nat) (hk : k < 64) : (wb z k).set (k / 4) (pwr z (k / 4) (k % 4) * 256 + z[k]?.getD 0) = wb z (k + 1) := by
 apply List.ext_getElem (by simp [wb])
 intro i h1 h2
 simp only [wb, List.length_map, List.length_range] at h2
 rw [List.getElem_set]
 by_cases e : k / 4 = i
 ·rw [if_pos e]
  subst e
  simp only [wb, List.getElem_map, List.getElem_range]
  rw [show min 4 (k + 1 - 4 * (k / 4)) = k % 4 + 1 from by omega, pwr, show 4 * (k / 4) + k % 4 = k from by omega]
 ·rw [if_neg e]
  simp only [wb, List.getElem_map, List.getElem_range]
  congr 1
  omega
theorem wb_full (z : List Nat) : wb z 64 = words16 z ++ List.replicate 48 0 := by
 apply List.ext_getElem (by simp [wb, words16])
 intro i h1 h2
 simp only [wb, List.length_map, List.length_range] at h1
 rcases Nat.lt_or_ge i 16 with h | h
 ·rw [List.getElem_append_left (by simp [words16]; exact h)]
  simp only [wb, words16, List.getElem_map, List.getElem_range]
  rw [show min 4 (64 - 4 * i) = 4 from by omega, pwr_four]
 ·rw [List.getElem_append_right (by simp [words16]; exact h)]
  simp only [wb, List.getElem_map, List.getElem_range, List.getElem_replicate]
  rw [show min 4 (64 - 4 * i) = 0 from by omega, pwr]
theorem or_byte (a b : Nat) (hb : b < 256) : (a * 256) ||| b = a * 256 + b := by
 have := Nat.two_pow_add_eq_or_of_lt (i := 8) hb a
 rw [Nat.mul_comm, ← this]
/-- The array behind k words more. -/
def ws (z : List Nat) (k : Nat) : List Nat := moreW (words16 z) k ++ List.replicate (48 - k) 0
theorem ws_length (z : List Nat) (k : Nat) (hk : k ≤ 48) : (ws z k).length = 64 := by simp [ws, moreW_length, words16_length]; omega
theorem ws_zero (z : List Nat) : ws z 0 = wb z 64 := by rw [wb_full]; rfl
theorem ws_full (z : List Nat) : ws z 48 = spreadL z := by simp [ws, spreadL]
theorem ws_get (z : List Nat) (k i : Nat) (hi : i < 16 + k) : (ws z k)[i]?.getD 0 = (moreW (words16 z) k)[i]?.getD 0 := by
 unfold ws; rw [List.getElem?_append_left (by rw [moreW_length, words16_length]; exact hi)]
theorem ws_next (z : List Nat) (k : Nat) (hk : k < 48) : (ws z k).set (16 + k) (nextW (moreW (words16 z) k)) = ws z (k + 1) := by
 unfold ws
 have hl : (moreW (words16 z) k).length = 16 + k := by rw [moreW_length, words16_length]
 rw [List.set_append_right _ _ (by omega), hl, Nat.sub_self, show 48 - k = (48 - (k + 1)) + 1 from by omega, List.replicate_succ, List.set_cons_zero, moreW, List.append_assoc]
 rfl
end Go.Proofs.YthangiocheodoaaGreatDoor

/-
 The code of layer 13 (sha256): mix.
-/
namespace Go.Proofs.YthangiocheodoaaGreatDoor
open Go.RowKit
set_option linter.unusedVariables false
set_option maxRecDepth 8192

/-- A state whose first k words were added. -/
def plusTo (s q : S8) (k : Nat) : List Nat := (s.plus q).list.take k ++ s.list.drop k
theorem list8 (s : S8) : s.list.length = 8 := rfl
/-- 'a[i]' of an array of words by value. -/
theorem run_indexA {P : Program} {w : World} (ty e : TypeId) (m : Nat) (cs : Array Value) (k ek : IntKind) (i : Nat) (z : Int) (hu : P.underlying ty = some (.array m e)) (hue : P.underlying e = some (.int ek)) (he : (P.info? e).map (·.size) = some 1) (hi : i < m) (hv : cs[i]? = some (.int ek z)) :
  (Instr.index ty (.agg cs) (.int k (i : Int))).run P w = .ok (.int ek z) w := by
 have h1 : (0 : Int) ≤ (i : Int) ∧ (i : Int) < (m : Int) := by omega
 obtain ⟨inf, hq, hs⟩ := Option.map_eq_some_iff.1 he
 simp [Instr.index, asIntOf, run_underlying hu, run_underlying hue, sizeOf, typeInfo, hq, hs, h1, part, isAgg, hv, go_sem]
 omega
theorem wpList_indexA {P : Program} {ops : Array Oper} {rest : List Oper} {o : Oper} {a : Act} {w : World} {Q : Exit → Act → World → Prop} (hgd : o.guard = none) (ty : TypeId) (x y : Operand) (ho : o.op = .index ty x y)
  (cs : Array Value) (k : IntKind) (i : Nat) (hx : a.eval x = .agg cs) (hy : a.eval y = .int k (i : Int)) {e : TypeId} {m : Nat} {ek : IntKind} {z : Int} (hu : P.underlying ty = some (.array m e)) (hue : P.underlying e = some (.int ek)) (he : (P.info? e).map (·.size) = some 1) (hi : i < m) (hv : cs[i]? = some (.int ek z))
  (h : wpList P ops Q rest (a.put o.dst (.int ek z)) w) : wpList P ops Q (o :: rest) a w :=
 wpList_plain hgd fun _ hK => by
  unfold Oper.wp execOp
  simp only [ho, hx, hy, Sem.run_bind, Sem.run_pure, Result.andThen_ok, run_indexA ty e m cs k ek i z hu hue he hi hv]
  exact hK _ _ h
end Go.Proofs.YthangiocheodoaaGreatDoor

/-
 The code of layer 13 (sha256): put, padding, slices.Grow, slices.Concat, Pad.
-/
namespace Go.Proofs.YthangiocheodoaaGreatDoor
open Go.RowKit
set_option linter.unusedVariables false
set_option maxRecDepth 8192

/-- x in n bytes, the highest first. -/
def beN (n x : Nat) : List Nat := (List.range n).map fun j => x / 256 ^ (n - 1 - j) % 256
theorem beN_length (n x : Nat) : (beN n x).length = n := by simp [beN]
theorem beN_eight (x : Nat) : beN 8 x = be8 x := by simp [beN, be8, List.range, List.range.loop]
theorem beN_four (x : Nat) : beN 4 x = be4 x := by simp [beN, be4, List.range, List.range.loop]
theorem beN_get (n x k : Nat) (h : k < n) : (beN n x)[k]?.getD 0 = x / 256 ^ (n - 1 - k) % 256 := by simp [beN, h]
/-- l with what of b is laid from its end down to k, from off on. -/
def spL (l b : List Nat) (off n k : Nat) : List Nat := l.take (off + k) ++ (b.drop k ++ l.drop (off + n))
end Go.Proofs.YthangiocheodoaaGreatDoor

/-
 The code of layer 13 (sha256): told, Block.
-/
namespace Go.Proofs.YthangiocheodoaaGreatDoor
open Go.RowKit
set_option linter.unusedVariables false
set_option maxRecDepth 8192

section
variable {P : Program} {ops : Array Oper} {Q : Exit → Act → World → Prop} {md : Region.Mode} {S : World → Prop}
/-- A region that draws its order, under any condition. -/
theorem heldS_open (S : World → Prop) {id : Nat} {a : Act} {w : World} (hm : P.follows .mixedOrders = true)
  (h : wpAnyH P .any ops Q S ops.size (Array.replicate ops.size false) a w.drew) : (Code.region id ops true).wp P Q a w := wp_region_held hm h
/-- The one operation that may come up. -/
theorem heldS_op {i : Nat} {o : Oper} {fuel : Nat} {listed : Array Bool} {a : Act} {w : World} (hr : Region.ready md ops listed = [i]) (ho : ops[i]? = some o)
  (hw : Region.wanted o (yielded ops a.tmps) = true)
  (h : ∀ K' : Act → World → Prop, (∀ a w1, S w1 → wpAnyH P md ops Q S fuel (listed.setIfInBounds i true) a w1 → K' a w1) → Oper.wp P o a w K' Q) :
  wpAnyH P md ops Q S (fuel + 1) listed a w := by
 refine wpAnyH_all hr (by simp) fun j hj => ?_
 simp only [List.mem_singleton] at hj
 subst hj
 refine wpOp_step ho fun K' hK => ?_
 rw [if_pos hw]
 exact h K' fun a w1 hs hh => hK a w1 ⟨hs, hh⟩
end
theorem exec_loadA {P : Program} {a : Act} {o : Oper} {w : World} (ty : TypeId) (x : Operand) (ho : o.op = .load ty x) (g : Nat) (hx : a.eval x = .pointer (some ⟨g, 0, none⟩)) {T : TypeId} {k : IntKind} {zs : List Int} (hA : Arr w g T k zs) {n : Nat} {e : TypeId}
  (hu : P.underlying ty = some (.array n e)) {m : Nat} (hi : (P.info? ty).map (·.size) = some m) (hl : zs.length = m) : (execOp a.eval o).run P w = .ok (.value (.agg (zs.map (Value.int k)).toArray)) w := by
 unfold execOp
 simp only [ho, hx, Instr.loadAt, Instr.sureAddr, Sem.run_bind, Sem.run_pure, Result.andThen_ok, run_loadVar_row w g T ty _ (0, 0) _ hA hu rfl (show (P.info? ty).map (·.size) = some (zs.map (Value.int k)).toArray.size by rw [hi]; simp [hl])]
theorem wp_storeA {P : Program} {o : Oper} {a : Act} {w : World} {K : Act → World → Prop} {Q : Exit → Act → World → Prop} (ty : TypeId) (x y : Operand) (ho : o.op = .store ty x y)
  (g : Nat) {k : IntKind} (ys : List Int) (hx : a.eval x = .pointer (some ⟨g, 0, none⟩)) (hy : a.eval y = .agg (ys.map (Value.int k)).toArray) {T : TypeId} {zs : List Int} (hA : Arr w g T k zs) {m : Nat} (hi : (P.info? ty).map (·.size) = some m) (hl : zs.length = m) (hl2 : ys.length = m)
  (h : K (a.put o.dst undef) (w.setRow g (ys.map (Value.int k)).toArray)) : o.wp P a w K Q :=
 wp_store_row ty x y ho g _ hx hy T _ hA (by rw [hi]; simp [hl2]) (by simp [hl, hl2]) (ints_one k ys) h

/-- A part of an array of single cells, through its address. -/
theorem run_sliceAtA {P : Program} (t e : TypeId) (n : Nat) (hu : P.underlying t = some (.array n e)) (he : (P.info? e).map (·.size) = some 1) (b o : Nat) (kl kh : IntKind) (l h : Nat) (h1 : l ≤ h) (h2 : h ≤ n) (h3 : l < n) (w : World) :
  (Instr.sliceAt t (.pointer (some ⟨b, o, none⟩)) (some (.int kl (l : Int))) (some (.int kh (h : Int))) none).run P w = .ok (.slice (some ⟨b, o + l, none⟩) (h - l) (n - l)) w := by
 have hal : P.arrayLen t = n := by simp [Program.arrayLen, hu]
 have hel : P.elem t = e := by simp [Program.elem, hu]
 obtain ⟨inf, hq, hs⟩ := Option.map_eq_some_iff.1 he
 rw [run_sliceAt_array_lh w t ⟨b, o, none⟩ (by rw [hal, hel]; exact hu) kl kh (l : Int) (h : Int) (by omega) (by omega) (by rw [hal]; omega)]
 rw [hal, hel]
 simp [sizeOf, typeInfo, hq, hs, slicedAt, show ¬ n = l by omega, plain_add]
theorem run_sliceAtL {P : Program} (t e : TypeId) (n : Nat) (hu : P.underlying t = some (.array n e)) (he : (P.info? e).map (·.size) = some 1) (b o : Nat) (kl : IntKind) (l : Nat) (h3 : l < n) (w : World) :
  (Instr.sliceAt t (.pointer (some ⟨b, o, none⟩)) (some (.int kl (l : Int))) none none).run P w = .ok (.slice (some ⟨b, o + l, none⟩) (n - l) (n - l)) w := by
 have hal : P.arrayLen t = n := by simp [Program.arrayLen, hu]
 have hel : P.elem t = e := by simp [Program.elem, hu]
 obtain ⟨inf, hq, hs⟩ := Option.map_eq_some_iff.1 he
 rw [run_sliceAt_array_l w t ⟨b, o, none⟩ (by rw [hal, hel]; exact hu) kl (l : Int) (by omega) (by rw [hal]; omega)]
 rw [hal, hel]
 simp [sizeOf, typeInfo, hq, hs, slicedAt, show ¬ n = l by omega, plain_add]
theorem run_sliceAtAll {P : Program} (t e : TypeId) (n : Nat) (hu : P.underlying t = some (.array n e)) (he : (P.info? e).map (·.size) = some 1) (b o : Nat) (h3 : 0 < n) (w : World) :
  (Instr.sliceAt t (.pointer (some ⟨b, o, none⟩)) none none none).run P w = .ok (.slice (some ⟨b, o, none⟩) n n) w := by
 have hal : P.arrayLen t = n := by simp [Program.arrayLen, hu]
 have hel : P.elem t = e := by simp [Program.elem, hu]
 obtain ⟨inf, hq, hs⟩ := Option.map_eq_some_iff.1 he
 rw [run_sliceAt_array_all w t ⟨b, o, none⟩ (by rw [hal, hel]; exact hu)]
 rw [hal, hel]
 simp [sizeOf, typeInfo, hq, hs, slicedAt, show ¬ n = 0 by omega, plain_add]

/-- The state's first k words as bytes. -/
def toldTo (s : S8) (k : Nat) : List Nat := s.bytes.take (4 * k) ++ List.replicate (32 - 4 * k) 0
theorem bytes_length (s : S8) : s.bytes.length = 32 := rfl
theorem toldTo_length (s : S8) (k : Nat) (hk : k ≤ 8) : (toldTo s k).length = 32 := by simp [toldTo, bytes_length]; omega
theorem toldTo_next (s : S8) (k : Nat) (hk : k < 8) : spL (toldTo s k) (beN 4 (s.list[k]?.getD 0)) (4 * k) 4 0 = toldTo s (k + 1) := by
 rw [beN_four]
 rcases (show k = 0 ∨ k = 1 ∨ k = 2 ∨ k = 3 ∨ k = 4 ∨ k = 5 ∨ k = 6 ∨ k = 7 by omega) with rfl | rfl | rfl | rfl | rfl | rfl | rfl | rfl <;> rfl
end Go.Proofs.YthangiocheodoaaGreatDoor

/-
 The code of layer 13 (sha256): a Hash in memory: what is reckoned once, what is counted, its state and its rest.
-/
namespace Go.Proofs.YthangiocheodoaaGreatDoor
open Go.RowKit
set_option linter.unusedVariables false
set_option maxRecDepth 8192

theorem turned_trans {a b c : World} {row : Option Nat} (h : a.grownBy b row) (k : b.grownBy c row) : a.grownBy c row :=
 ⟨k.os.trans h.os, k.tape.trans h.tape, k.output.trans h.output, Nat.le_trans h.size k.size, fun j hj hne => (k.block j (Nat.lt_of_lt_of_le hj h.size) hne).trans (h.block j hj hne)⟩
theorem turned_cell (w : World) (h j : Nat) (v : Value) : w.grownBy (w.setCell ⟨h, j, none⟩ v) (some h) :=
 ⟨rfl, rfl, rfl, by simp, fun k hk hne => Below.heap_setCell w _ v k (fun e => hne (by rw [e]))⟩
theorem turned_cells (w : World) (h : Nat) : ∀ (vs : List Value) (o : Nat), w.grownBy (w.setCells h o vs) (some h) := by
 intro vs
 induction vs generalizing w with
 | nil => exact fun _ => World.grownBy.refl _ _
 | cons v r ih => exact fun o => turned_trans (turned_cell w h o v) (ih _ (o + 1))
theorem turned_below {w w' : World} (h : Option Nat) (q : Below w.heap.size w w') : w.grownBy w' h := ⟨q.os, q.tape, q.output, q.size, fun k hk _ => q.block k hk⟩
theorem turned_drew {a w : World} {h : Option Nat} (g : a.grownBy w h) : a.grownBy w.drew h := ⟨g.os, g.tape, g.output, g.size, g.block⟩
/-- What a Hash that is new since a world does turns nothing of that world. -/
theorem turned_new {w0 w w' : World} {h B : Nat} (q : Below B w0 w) (g : w.grownBy w' (some h)) (hB : B ≤ w.heap.size) (hh : B ≤ h) : Below B w0 w' :=
 q.grown g hB (fun k hk => by simp only [Option.some.injEq] at hk; omega)
theorem Row.turned {k : IntKind} {w w' : World} {a : Option Addr} {len cap h : Nat} {zs : List Int} (hr : Row k w a len cap zs) (hg : w.grownBy w' (some h)) (hne : 0 < len → ∀ ad, a = some ad → ad.block ≠ h) : Row k w' a len cap zs := by
 refine ⟨hr.hlen, hr.hcap, hr.hmax, hr.hnil, fun h0 => ?_⟩
 obtain ⟨b, off, rfl, hbs, hcell⟩ := hr.hcell h0
 have hb : some b ≠ some h := fun e => hne h0 _ rfl (by simpa using e)
 refine ⟨b, off, rfl, Nat.lt_of_lt_of_le hbs hg.size, fun i hi => ?_⟩
 rw [World.cell?_of_block (w := w) (hg.block b hbs hb)]
 exact hcell i hi
theorem Arr.turned {w w' : World} {g h : Nat} {T : TypeId} {k : IntKind} {zs : List Int} (hA : Arr w g T k zs) (hg : w.grownBy w' (some h)) (hne : g ≠ h) : Arr w' g T k zs := by
 unfold Arr; rw [hg.block g hA.lt (fun e => hne (by simpa using e))]; exact hA

/-- A Hash in the block h: d: whether its constants were reckoned; m: its lock; then rounds, state, rest, count. -/
structure HashAt (w : World) (h : Nat) (d m : Int) (K s r : List Nat) (n : Nat) : Prop where
 lt : h < w.heap.size
 th : w.there h 0 140
 c0 : w.cell? ⟨h, 0, none⟩ = some (.int .u32 d)
 c1 : w.cell? ⟨h, 1, none⟩ = some (.int .i32 m)
 rK : w.rangeAt h 3 ((nI K).map (Value.int .u32))
 rs : w.rangeAt h 67 ((nI s).map (Value.int .u32))
 rr : w.rangeAt h 75 ((nI r).map (Value.int .u8))
 cn : w.cell? ⟨h, 139, none⟩ = some (.int .u64 (n : Int))
 lK : K.length = 64
 ls : s.length = 8
 lr : r.length = 64
theorem rangeAt_block {w w' : World} {b o : Nat} {cs : List Value} (h : w.rangeAt b o cs) (e : w'.heap[b]? = w.heap[b]?) : w'.rangeAt b o cs := fun j v hv => by
 rw [World.cell?_of_block (w := w) e]; exact h j v hv
theorem there_block {w w' : World} {b o n : Nat} (h : w.there b o n) (e : w'.heap[b]? = w.heap[b]?) : w'.there b o n := fun j hj => by
 rw [World.cell?_of_block (w := w) e, World.frozen?_of_block (w := w) e]; exact h j hj
theorem HashAt.same {w w' : World} {h : Nat} {d m : Int} {K s r : List Nat} {n : Nat} (H : HashAt w h d m K s r n) (e : w'.heap[h]? = w.heap[h]?) (hs : w.heap.size ≤ w'.heap.size) : HashAt w' h d m K s r n :=
 ⟨Nat.lt_of_lt_of_le H.lt hs, there_block H.th e, (World.cell?_of_block (w := w) e).trans H.c0, (World.cell?_of_block (w := w) e).trans H.c1, rangeAt_block H.rK e, rangeAt_block H.rs e, rangeAt_block H.rr e, (World.cell?_of_block (w := w) e).trans H.cn, H.lK, H.ls, H.lr⟩
theorem HashAt.below {w w' : World} {h : Nat} {d m : Int} {K s r : List Nat} {n : Nat} (H : HashAt w h d m K s r n) {B : Nat} (q : Below B w w') (hB : h < B) : HashAt w' h d m K s r n := H.same (q.block h hB) q.size
theorem HashAt.drew {w : World} {h : Nat} {d m : Int} {K s r : List Nat} {n : Nat} (H : HashAt w h d m K s r n) : HashAt w.drew h d m K s r n := H.same rfl (Nat.le_refl _)
theorem HashAt.turned {w w' : World} {h g : Nat} {d m : Int} {K s r : List Nat} {n : Nat} (H : HashAt w h d m K s r n) (q : w.grownBy w' (some g)) (hne : h ≠ g) : HashAt w' h d m K s r n := H.same (q.block h H.lt (fun e => hne (by simpa using e))) q.size
theorem setCells_one (w : World) (b o : Nat) (v : Value) : w.setCells b o [v] = w.setCell ⟨b, o, none⟩ v := rfl
theorem there_part {w : World} {b n : Nat} (h : w.there b 0 n) (o k : Nat) (hk : o + k ≤ n) : w.there b o k := fun j hj => by
 have := h (o + j) (by omega)
 rwa [Nat.zero_add] at this
theorem cells_same {w : World} {b o j : Nat} {vs : List Value} (h : j < o ∨ o + vs.length ≤ j) : (w.setCells b o vs).cell? ⟨b, j, none⟩ = w.cell? ⟨b, j, none⟩ := World.cell?_setCells_out b vs o w ⟨b, j, none⟩ (fun _ _ => h)
theorem HashAt.setN {w : World} {h : Nat} {d m : Int} {K s r : List Nat} {n : Nat} (H : HashAt w h d m K s r n) (x : Nat) : HashAt (w.setCell ⟨h, 139, none⟩ (.int .u64 (x : Int))) h d m K s r x := by
 rw [← setCells_one]
 have lK := H.lK; have ls := H.ls; have lr := H.lr
 exact ⟨Nat.lt_of_lt_of_le H.lt (turned_cells w h _ _).size, World.there_setCells H.th _ _ _, (cells_same (by simp)).trans H.c0, (cells_same (by simp)).trans H.c1,
  World.rangeAt_setCells_apart H.rK _ _ _ (by simp [nI_length]; omega), World.rangeAt_setCells_apart H.rs _ _ _ (by simp [nI_length]; omega), World.rangeAt_setCells_apart H.rr _ _ _ (by simp [nI_length]; omega), World.cell?_setCell_same _ _ _ H.cn, lK, ls, lr⟩
theorem HashAt.setS {w : World} {h : Nat} {d m : Int} {K s r : List Nat} {n : Nat} (H : HashAt w h d m K s r n) (L : List Nat) (hL : L.length = 8) : HashAt (w.setCells h 67 ((nI L).map (Value.int .u32))) h d m K L r n := by
 have lK := H.lK; have ls := H.ls; have lr := H.lr
 have hl : ((nI L).map (Value.int .u32)).length = 8 := by rw [List.length_map, nI_length, hL]
 exact ⟨Nat.lt_of_lt_of_le H.lt (turned_cells w h _ _).size, World.there_setCells H.th _ _ _, (cells_same (by omega)).trans H.c0, (cells_same (by omega)).trans H.c1,
  World.rangeAt_setCells_apart H.rK _ _ _ (by right; left; rw [List.length_map, nI_length, lK]; decide), World.rangeAt_setCells_same _ _ _ _ (by rw [hl]; exact there_part H.th 67 8 (by decide)), World.rangeAt_setCells_apart H.rr _ _ _ (by omega), (cells_same (by omega)).trans H.cn, lK, hL, lr⟩
/-- Bytes laid into the rest. -/
theorem HashAt.setR {w : World} {h : Nat} {d m : Int} {K s r : List Nat} {n : Nat} (H : HashAt w h d m K s r n) (at_ : Nat) (L : List Nat) (hL : at_ + L.length ≤ 64) : HashAt (w.setCells h (75 + at_) ((nI L).map (Value.int .u8))) h d m K s (r.take at_ ++ (L ++ r.drop (at_ + L.length))) n := by
 have lK := H.lK; have ls := H.ls; have lr := H.lr
 have hl : ((nI L).map (Value.int .u8)).length = L.length := by rw [List.length_map, nI_length]
 refine ⟨Nat.lt_of_lt_of_le H.lt (turned_cells w h _ _).size, World.there_setCells H.th _ _ _, (cells_same (by omega)).trans H.c0, (cells_same (by omega)).trans H.c1,
  World.rangeAt_setCells_apart H.rK _ _ _ (by right; left; rw [List.length_map, nI_length, lK]; omega), World.rangeAt_setCells_apart H.rs _ _ _ (by right; left; rw [List.length_map, nI_length, ls]; omega), ?_, (cells_same (by omega)).trans H.cn, lK, ls, by simp; omega⟩
 intro j v hv
 have hj : j < 64 := by have := (List.getElem?_eq_some_iff.1 hv).1; simp [nI_length] at this; omega
 by_cases h1 : j < at_
 ·rw [cells_same (by omega)]
  apply H.rr j v
  rw [nI_append, List.map_append, List.getElem?_append_left (by rw [List.length_map, nI_length, List.length_take]; omega)] at hv
  rw [← hv, ← nI_take, List.map_take, List.getElem?_take, if_pos h1]
 ·by_cases h2 : j < at_ + L.length
  ·have hv2 : ((nI L).map (Value.int .u8))[j - at_]? = some v := by
    rw [nI_append, nI_append, List.map_append, List.map_append, List.getElem?_append_right (by rw [List.length_map, nI_length, List.length_take]; omega)] at hv
    rw [List.length_map, nI_length, List.length_take, Nat.min_eq_left (by omega), List.getElem?_append_left (by rw [List.length_map, nI_length]; omega)] at hv
    exact hv
   have := World.rangeAt_setCells_same w h (75 + at_) ((nI L).map (Value.int .u8)) (by rw [hl]; exact there_part H.th (75 + at_) L.length (by omega)) (j - at_) v hv2
   rwa [show 75 + at_ + (j - at_) = 75 + j from by omega] at this
  ·rw [cells_same (by omega)]
   apply H.rr j v
   rw [nI_append, nI_append, List.map_append, List.map_append, List.getElem?_append_right (by rw [List.length_map, nI_length, List.length_take]; omega)] at hv
   rw [List.length_map, nI_length, List.length_take, Nat.min_eq_left (by omega), List.getElem?_append_right (by rw [List.length_map, nI_length]; omega), List.length_map, nI_length] at hv
   rw [← hv, ← nI_drop, List.map_drop, List.getElem?_drop]
   congr 1
   omega
end Go.Proofs.YthangiocheodoaaGreatDoor

/-
 The code of layer 13 (sha256): what is done once (sync.Once, its lock), what is counted (sync/atomic), of a Hash.
-/
namespace Go.Proofs.YthangiocheodoaaGreatDoor
open Go.RowKit
set_option linter.unusedVariables false
set_option maxRecDepth 8192

end Go.Proofs.YthangiocheodoaaGreatDoor

/-
 The code of layer 13 (sha256): reckon, Once.Do, the count, New.
-/
namespace Go.Proofs.YthangiocheodoaaGreatDoor
open Go.RowKit
set_option linter.unusedVariables false
set_option maxRecDepth 8192

theorem wp_storeM {P : Program} {o : Oper} {a : Act} {w : World} {K : Act → World → Prop} {Q : Exit → Act → World → Prop} (ty : TypeId) (x y : Operand) (ho : o.op = .store ty x y)
  (b p : Nat) {k : IntKind} (ys : List Int) (hx : a.eval x = .pointer (some ⟨b, p, none⟩)) (hy : a.eval y = .agg (ys.map (Value.int k)).toArray) {m : Nat} (ht : w.there b p m) (hi : (P.info? ty).map (·.size) = some m) (hl : ys.length = m)
  (h : K (a.put o.dst undef) (w.setCells b p (ys.map (Value.int k)))) : o.wp P a w K Q :=
 wp_store_mid ty x y ho b p _ hx hy (by simpa [hl] using ht) (by rw [hi]; simp [hl]) (ints_one k ys) (by simpa using h)
theorem wpList_loadM {P : Program} {ops : Array Oper} {rest : List Oper} {o : Oper} {a : Act} {w : World} {Q : Exit → Act → World → Prop} (hgd : o.guard = none) (ty : TypeId) (x : Operand) (ho : o.op = .load ty x)
  (b p : Nat) (hx : a.eval x = .pointer (some ⟨b, p, none⟩)) {k : IntKind} {zs : List Int} (hA : w.rangeAt b p (zs.map (Value.int k))) {n : Nat} {e : TypeId} (hu : P.underlying ty = some (.array n e)) {m : Nat} (hi : (P.info? ty).map (·.size) = some m) (hl : zs.length = m)
  (h : wpList P ops Q rest (a.put o.dst (.agg (zs.map (Value.int k)).toArray)) w) : wpList P ops Q (o :: rest) a w :=
 wpList_load_mid hgd ty x ho b p hx _ _ hA hu rfl (by rw [hi]; simp [hl]) h

end Go.Proofs.YthangiocheodoaaGreatDoor

/-
 The code of layer 13 (sha256): New, and what a Hash of some bytes is.
-/
namespace Go.Proofs.YthangiocheodoaaGreatDoor
open Go.RowKit
set_option linter.unusedVariables false
set_option maxRecDepth 8192

/-- Of the bytes D those that no block is full of yet are the first of r. -/
def RestOk (D r : List Nat) : Prop := r.length = 64 ∧ r.take (D.length % 64) = D.drop (64 * (D.length / 64))
theorem rest_more (K : List Nat) (S : S8) {D r L : List Nat} (h : RestOk D r) (hm : D.length % 64 + L.length < 64) :
  RestOk (D ++ L) (r.take (D.length % 64) ++ (L ++ r.drop (D.length % 64 + L.length))) ∧ (D ++ L).length / 64 = D.length / 64 ∧ blocksTo K S (D ++ L) (D.length / 64) = blocksTo K S D (D.length / 64) := by
 have hq : (D ++ L).length / 64 = D.length / 64 := by rw [List.length_append]; omega
 have hr : (D ++ L).length % 64 = D.length % 64 + L.length := by rw [List.length_append]; omega
 obtain ⟨h1, h2⟩ := h
 refine ⟨⟨by simp; omega, ?_⟩, hq, ?_⟩
 ·rw [hq, hr, ← List.append_assoc, List.take_append_of_le_length (by simp; omega), List.take_of_length_le (by simp; omega), h2, List.drop_append_of_le_length (by omega)]
 ·apply blocksTo_same
  rw [List.take_append_of_le_length (by omega)]
theorem rest_full (K : List Nat) (S : S8) {D r L : List Nat} (h : RestOk D r) (hm : D.length % 64 + L.length = 64) :
  mixL K (blocksTo K S D (D.length / 64)) (r.take (D.length % 64) ++ (L ++ r.drop (D.length % 64 + L.length))) = blocksTo K S (D ++ L) ((D ++ L).length / 64) ∧ (D ++ L).length % 64 = 0 ∧ ∀ r' : List Nat, r'.length = 64 → RestOk (D ++ L) r' := by
 have hq : (D ++ L).length / 64 = D.length / 64 + 1 := by rw [List.length_append]; omega
 have hr : (D ++ L).length % 64 = 0 := by rw [List.length_append]; omega
 have hl : D.length + L.length = 64 * (D.length / 64 + 1) := by omega
 obtain ⟨h1, h2⟩ := h
 refine ⟨?_, hr, fun r' h' => ⟨h', ?_⟩⟩
 ·rw [hq, blocksTo]
  have e1 : blocksTo K S (D ++ L) (D.length / 64) = blocksTo K S D (D.length / 64) := blocksTo_same K S _ _ _ (by rw [List.take_append_of_le_length (by omega)])
  rw [e1, h2, List.drop_of_length_le (show r.length ≤ D.length % 64 + L.length by omega), List.append_nil, List.drop_append_of_le_length (by omega), List.take_of_length_le (by rw [List.length_append, List.length_drop]; omega)]
 ·rw [hr, hq, List.take_zero, List.drop_of_length_le (by rw [List.length_append]; omega)]
theorem rest_bytes {D r L : List Nat} (hr : ∀ x ∈ r, x < 256) (hL : ∀ x ∈ L, x < 256) (a b : Nat) : ∀ x ∈ r.take a ++ (L ++ r.drop b), x < 256 := fun x hx => by
 simp only [List.mem_append] at hx
 rcases hx with h | h | h
 ·exact hr x (List.mem_of_mem_take h)
 ·exact hL x h
 ·exact hr x (List.mem_of_mem_drop h)

/-- A Hash of the bytes D, its constants reckoned. -/
def OnAt (w : World) (h : Nat) (K : List Nat) (S : S8) (D : List Nat) : Prop := ∃ r, HashAt w h 1 0 K (blocksTo K S D (D.length / 64)).list r D.length ∧ RestOk D r ∧ ∀ x ∈ r, x < 256
/-- A Hash of the bytes D. -/
def HIs (w : World) (h : Nat) (K : List Nat) (S : S8) (D : List Nat) : Prop := OnAt w h K S D ∨ (D = [] ∧ HashAt w h 0 0 (List.replicate 64 0) (List.replicate 8 0) (List.replicate 64 0) 0)
theorem OnAt.same {w w' : World} {h : Nat} {K : List Nat} {S : S8} {D : List Nat} (H : OnAt w h K S D) (e : w'.heap[h]? = w.heap[h]?) (hs : w.heap.size ≤ w'.heap.size) : OnAt w' h K S D := by
 obtain ⟨r, h1, h2⟩ := H
 exact ⟨r, h1.same e hs, h2⟩
theorem OnAt.lt {w : World} {h : Nat} {K : List Nat} {S : S8} {D : List Nat} (H : OnAt w h K S D) : h < w.heap.size := by obtain ⟨r, h1, _⟩ := H; exact h1.lt
theorem OnAt.below {w w' : World} {h B : Nat} {K : List Nat} {S : S8} {D : List Nat} (H : OnAt w h K S D) (q : Below B w w') (hB : h < B) : OnAt w' h K S D := H.same (q.block h hB) q.size
theorem HIs.lt {w : World} {h : Nat} {K : List Nat} {S : S8} {D : List Nat} (H : HIs w h K S D) : h < w.heap.size := by
 rcases H with H | ⟨_, H⟩
 ·exact H.lt
 ·exact H.lt
theorem HIs.below {w w' : World} {h B : Nat} {K : List Nat} {S : S8} {D : List Nat} (H : HIs w h K S D) (q : Below B w w') (hB : h < B) : HIs w' h K S D := by
 rcases H with H | ⟨hd, H⟩
 ·exact .inl (H.below q hB)
 ·exact .inr ⟨hd, H.below q hB⟩
/-- A part of a row, as slicing makes it. -/
theorem row_rest {k : IntKind} {w : World} {a : Option Addr} {len cap : Nat} {zs : List Int} (hr : Row k w a len cap zs) (n : Nat) (hn : n ≤ len) : ∃ a' c', sliced a n len cap 1 = .slice a' (len - n) c' ∧ Row k w a' (len - n) c' (zs.drop n) ∧ ∀ ad', a' = some ad' → ∃ ad, a = some ad ∧ ad'.block = ad.block := by
 have hl := hr.hlen
 have hc := hr.hcap
 have hm := hr.hmax
 unfold sliced
 cases a with
 | none =>
  refine ⟨none, cap - n, by simp, ⟨by simp [hl], by omega, by omega, fun _ => by have := hr.hnil rfl; omega, fun h0 => ?_⟩, by simp⟩
  have := hr.hnil rfl
  omega
 | some ad =>
  by_cases e : cap = n
  ·refine ⟨some ad, cap - n, by simp [e], ⟨by simp [hl], by omega, by omega, by simp, fun h0 => by omega⟩, fun ad' h' => ⟨ad, rfl, by simp at h'; rw [h']⟩⟩
  ·by_cases h0 : 0 < len
   ·obtain ⟨b, off, hab, hbs, hcell⟩ := hr.hcell h0
    simp only [Option.some.injEq] at hab
    subst hab
    refine ⟨some ⟨b, off + n, none⟩, cap - n, by simp [e, plain_add], ⟨by simp [hl], by omega, by omega, by simp, fun h1 => ⟨b, off + n, rfl, hbs, fun i hi => ?_⟩⟩, fun ad' h' => ⟨_, rfl, by simp at h'; rw [← h']⟩⟩
    rw [Nat.add_assoc, hcell (n + i) (by omega), List.getElem?_drop]
   ·refine ⟨_, cap - n, by simp [e]; rfl, ⟨by simp [hl], by omega, by omega, by simp, fun h1 => by omega⟩, fun ad' h' => ⟨_, rfl, ?_⟩⟩
    simp only [Option.some.injEq] at h'
    rw [← h']
    obtain ⟨b, off, sp⟩ := ad
    unfold Addr.add
    split <;> simp_all
theorem run_restA {P : Program} (t e : TypeId) (hu : P.underlying t = some (.slice e)) (he : (P.info? e).map (·.size) = some 1) (a : Option Addr) (len cap n : Nat) (k : IntKind) (hn : n ≤ len) (hc : len ≤ cap) (w : World) :
  (Instr.sliceAt t (.slice a len cap) (some (.int k (n : Int))) none none).run P w = .ok (sliced a n len cap 1) w := by
 have hel : P.elem t = e := by simp [Program.elem, hu]
 obtain ⟨inf, hq, hs⟩ := Option.map_eq_some_iff.1 he
 have hu' : P.underlying t = some (.slice (P.elem t)) := by rw [hel]; exact hu
 rw [run_sliceAt_slice w t _ _ _ _ hu', run_slice_l w t a len cap hu' k (n : Int) (by omega) (by omega)]
 rw [hel]
 simp [sizeOf, typeInfo, hq, hs]
theorem wpList_sliceLo {P : Program} {ops : Array Oper} {rest : List Oper} {o : Oper} {a : Act} {w : World} {Q : Exit → Act → World → Prop} (hgd : o.guard = none) (ty : TypeId) (x lo : Operand) (ho : o.op = .slice ty x (some lo) none none)
  (vx vl v : Value) (hx : a.eval x = vx) (hl : a.eval lo = vl) (hr : (Instr.sliceAt ty vx (some vl) none none).run P w = .ok v w)
  (h : wpList P ops Q rest (a.put o.dst v) w) : wpList P ops Q (o :: rest) a w :=
 wpList_plain hgd fun _ hK => by
  unfold Oper.wp execOp
  simp only [ho, hx, hl, Option.map_some, Option.map_none, Sem.run_bind, Sem.run_pure, Result.andThen_ok, hr]
  exact hK _ _ h
end Go.Proofs.YthangiocheodoaaGreatDoor

/-
 The code of layer 13 (sha256): Write.
-/
namespace Go.Proofs.YthangiocheodoaaGreatDoor
open Go.RowKit
set_option linter.unusedVariables false
set_option maxRecDepth 8192

theorem exec_sliceAll {P : Program} {a : Act} {o : Oper} {w : World} (ty : TypeId) (x : Operand) (ho : o.op = .slice ty x none none none) (vx v : Value) (hx : a.eval x = vx) (hr : (Instr.sliceAt ty vx none none none).run P w = .ok v w) : (execOp a.eval o).run P w = .ok (.value v) w := by
 unfold execOp
 simp only [ho, hx, Option.map_none, Sem.run_bind, Sem.run_pure, Result.andThen_ok, hr]
theorem HashAt.row {w : World} {h : Nat} {d m : Int} {K s r : List Nat} {n : Nat} (H : HashAt w h d m K s r n) : Row .u8 w (some ⟨h, 75, none⟩) 64 64 (nI r) :=
 ⟨by rw [nI_length]; exact H.lr, Nat.le_refl _, by decide, by simp, fun _ => ⟨h, 75, rfl, H.lt, fun i hi => by
  have hl : i < (nI r).length := by rw [nI_length, H.lr]; exact hi
  apply H.rr i
  rw [List.getElem?_map, List.getElem?_eq_getElem hl]
  rfl⟩⟩
end Go.Proofs.YthangiocheodoaaGreatDoor

/-
 The code of layer 13 (sha256): Hash.Sum, Sum.
-/
namespace Go.Proofs.YthangiocheodoaaGreatDoor
open Go.RowKit
set_option linter.unusedVariables false
set_option maxRecDepth 8192

/-- A window of a row, as slicing makes it. -/
theorem row_window {k : IntKind} {w : World} {a : Option Addr} {len cap : Nat} {zs : List Int} (hr : Row k w a len cap zs) (l m : Nat) (hm : 0 < m) (hl : l + m ≤ len) : ∃ a', sliced a l (l + m) cap 1 = .slice a' m (cap - l) ∧ ∀ w', (∀ b off, a = some ⟨b, off, none⟩ → w'.heap[b]? = w.heap[b]? ∧ w.heap.size ≤ w'.heap.size) → Row k w' a' m (cap - l) ((zs.drop l).take m) := by
 obtain ⟨b, off, rfl, hbs, hcell⟩ := hr.hcell (by omega)
 have hc := hr.hcap
 have hx := hr.hmax
 have hlen := hr.hlen
 refine ⟨some ⟨b, off + l, none⟩, by simp [sliced, show ¬ cap = l by omega, plain_add], fun w' hw' => ?_⟩
 obtain ⟨h1, h2⟩ := hw' b off rfl
 refine ⟨by simp; omega, by omega, by omega, by simp, fun _ => ⟨b, off + l, rfl, by omega, fun i hi => ?_⟩⟩
 rw [World.cell?_of_block (w := w) h1, Nat.add_assoc, hcell (l + i) (by omega), List.getElem?_take, if_pos hi, List.getElem?_drop]
theorem run_windowA {P : Program} (t e : TypeId) (hu : P.underlying t = some (.slice e)) (he : (P.info? e).map (·.size) = some 1) (a : Option Addr) (len cap l h : Nat) (kl kh : IntKind) (hl : l ≤ h) (hc : h ≤ cap) (w : World) :
  (Instr.sliceAt t (.slice a len cap) (some (.int kl (l : Int))) (some (.int kh (h : Int))) none).run P w = .ok (sliced a l h cap 1) w := by
 have hel : P.elem t = e := by simp [Program.elem, hu]
 obtain ⟨inf, hq, hs⟩ := Option.map_eq_some_iff.1 he
 have hu' : P.underlying t = some (.slice (P.elem t)) := by rw [hel]; exact hu
 rw [run_sliceAt_slice w t _ _ _ _ hu', run_slice_lh w t a len cap hu' kl kh (l : Int) (h : Int) (by omega) (by omega) (by omega)]
 rw [hel]
 simp [sizeOf, typeInfo, hq, hs]
theorem exec_sliceLH {P : Program} {a : Act} {o : Oper} {w : World} (ty : TypeId) (x lo hi : Operand) (ho : o.op = .slice ty x (some lo) (some hi) none) (vx vl vh v : Value) (hx : a.eval x = vx) (hl : a.eval lo = vl) (hh : a.eval hi = vh) (hr : (Instr.sliceAt ty vx (some vl) (some vh) none).run P w = .ok v w) : (execOp a.eval o).run P w = .ok (.value v) w := by
 unfold execOp
 simp only [ho, hx, hl, hh, Option.map_some, Option.map_none, Sem.run_bind, Sem.run_pure, Result.andThen_ok, hr]
theorem exec_sliceH {P : Program} {a : Act} {o : Oper} {w : World} (ty : TypeId) (x hi : Operand) (ho : o.op = .slice ty x none (some hi) none) (vx vh v : Value) (hx : a.eval x = vx) (hh : a.eval hi = vh) (hr : (Instr.sliceAt ty vx none (some vh) none).run P w = .ok v w) : (execOp a.eval o).run P w = .ok (.value v) w := by
 unfold execOp
 simp only [ho, hx, hh, Option.map_some, Option.map_none, Sem.run_bind, Sem.run_pure, Result.andThen_ok, hr]
end Go.Proofs.YthangiocheodoaaGreatDoor
