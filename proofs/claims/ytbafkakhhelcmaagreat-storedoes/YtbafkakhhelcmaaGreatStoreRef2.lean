/-
 The document's answer of layer 11: Copy, Count; the law's healthy.
-/
import Derived.Test.YtbafkakhhelcmaaGreatStoreRef
namespace Go.Proofs.YtbafkakhhelcmaaGreat
open Go.RowKit Go.Maps
set_option linter.unusedVariables false
set_option maxRecDepth 8192

theorem append_row {P : Program} {t ty e : TypeId} {z : Value} {k : Nat} (ht : P.underlying t = some (.slice e)) (hi : (P.info? e).map (fun i => (i.zero, i.size, i.bytes)) = some (some z, 1, k)) (hk : k ≤ 16) {w : World} {hb L c : Nat} {V : Nat → Value} (h : VRow w hb e L V) (h0 : 0 < L) (hL : L ≤ 1000) :
  ∃ w' c', (Builtin.append_ #[t, t] ty #[.slice none 0 0, .slice (some ⟨hb, 0, none⟩) L c]).run P w = .ok (.slice (some ⟨w.heap.size, 0, none⟩) L c') w' ∧ VRow w' w.heap.size e L V ∧ Below w.heap.size w w' := by
 obtain ⟨i0, hi0, hz0, hz1, hz2⟩ := info_parts hi
 refine ⟨_, _, run_append_nil w t ty e i0 z ht hi0 hz0 ⟨hb, 0, none⟩ L c ((List.range L).map V) (by rw [hz1]; simp) (fun j u hj => ?_) h0 (by omega) (by rw [hz2]; exact Nat.le_trans (Nat.mul_le_mul hL hk) (by decide)), ?_, ?_⟩
 ·have hjl : j < L := by
   have := (List.getElem?_eq_some_iff.1 hj).1
   simpa using this
  have := h.at j hjl
  rw [plain_add, Nat.zero_add, this]
  simp [hjl] at hj
  rw [hj]
 ·refine ⟨_, by rw [Array.getElem?_eq_getElem (by simp)]; simp [World.alloc, World.drew, -World.alloc_eq, -World.drew_eq]; rfl, fun i hi => ?_⟩
  rw [Array.getElem?_append_left (by simpa using hi)]
  simp [hi]
 ·exact btrans ((Below.refl _ w).drew) (below_one w.drew _)
theorem wpList_append_row11 {P : Program} {w : World} {ops : Array Oper} {rest : List Oper} {o : Oper} {a : Act} {Q : Exit → Act → World → Prop} (hgd : o.guard = none) (s x : Operand) (t : TypeId)
  (ho : o.op = .call { callee := .builtin .append, args := #[s, x], argTypes := #[t, t] }) (e : TypeId) (z : Value) (k : Nat) (ht : P.underlying t = some (.slice e)) (hi : (P.info? e).map (fun i => (i.zero, i.size, i.bytes)) = some (some z, 1, k)) (hk : k ≤ 16)
  {hb L c : Nat} {V : Nat → Value} (h : VRow w hb e L V) (h0 : 0 < L) (hL : L ≤ 1000) (hs : a.eval s = .slice none 0 0) (hx : a.eval x = .slice (some ⟨hb, 0, none⟩) L c)
  (hn : ∀ g c' w', g = w.heap.size → VRow w' g e L V → Below w.heap.size w w' → wpList P ops Q rest (a.put o.dst (.slice (some ⟨g, 0, none⟩) L c')) w') : wpList P ops Q (o :: rest) a w := by
 refine wpList_plain hgd fun K hK => ?_
 obtain ⟨w', c', hrun, v, q⟩ := append_row (P := P) (t := t) (ty := o.type) (c := c) ht hi hk h h0 hL
 unfold Oper.wp
 simp [execOp, ho, resolve, invoke, builtin, hs, hx, hrun, Result.andThen]
 exact hK _ _ (hn _ c' w' rfl v q)
theorem vrow_box (w : World) (T : TypeId) (x y : Value) : VRow (w.alloc (.cells #[x, y] T)) w.heap.size T 2 (fun i => if i = 0 then x else y) := by
 refine ⟨#[x, y], by rw [Array.getElem?_eq_getElem (by simp)]; simp [World.alloc, -World.alloc_eq], fun i hi => ?_⟩
 rcases (show i = 0 ∨ i = 1 by omega) with rfl | rfl <;> rfl
theorem VRow.far {w : World} {hb : Nat} {T : TypeId} {L : Nat} {V : Nat → Value} (h : VRow w hb T L V) {p : Addr} (hp : hb ≠ p.block) (v : Value) : VRow (w.setCell p v) hb T L V := h.same (Below.heap_setCell w p v hb hp)
set_option maxHeartbeats 1600000 in
theorem refCopy11_any (hb db L c1 c2 : Nat) (M : Int → Option (List Int)) (hL0 : 0 < L) (hL : L ≤ 1000) (w : World) (h : MapAt w hb db L M) : Calls Tryz.prog 31 #[mapV hb db L c1 c2] w fun e w' => ∃ hb' db' c1' c2', (w.heap.size ≤ hb' ∧ w.heap.size ≤ db') ∧ e = .returned (mapV hb' db' L c1' c2') ∧ MapAt w' hb' db' L M ∧ Below w.heap.size w w' := by
 have q1 := below_one w (.cells #[.slice (some ⟨hb, 0, none⟩) L c1, .slice (some ⟨db, 0, none⟩) L c2] 40)
 have q2 := below_one (w.alloc (.cells #[.slice (some ⟨hb, 0, none⟩) L c1, .slice (some ⟨db, 0, none⟩) L c2] 40)) (.cells #[.slice none 0 0, .slice none 0 0] 40)
 have q3 := below_one ((w.alloc (.cells #[.slice (some ⟨hb, 0, none⟩) L c1, .slice (some ⟨db, 0, none⟩) L c2] 40)).alloc (.cells #[.slice none 0 0, .slice none 0 0] 40)) (.cells #[.slice none 0 0, .slice none 0 0] 40)
 have v0 := ((vrow_box w 40 (.slice (some ⟨hb, 0, none⟩) L c1) (.slice (some ⟨db, 0, none⟩) L c2)).below q2).below q3
 have v1 := (vrow_box (w.alloc (.cells #[.slice (some ⟨hb, 0, none⟩) L c1, .slice (some ⟨db, 0, none⟩) L c2] 40)) 40 (.slice none 0 0) (.slice none 0 0)).below q3
 have v2 := vrow_box ((w.alloc (.cells #[.slice (some ⟨hb, 0, none⟩) L c1, .slice (some ⟨db, 0, none⟩) L c2] 40)).alloc (.cells #[.slice none 0 0, .slice none 0 0] 40)) 40 (.slice none 0 0) (.slice none 0 0)
 have hlt := h.lt
 have h3 := h.below (btrans (btrans q1 q2) q3)
 have Q3 := btrans (btrans q1 q2) q3
 rw [show (w.alloc (.cells #[.slice (some ⟨hb, 0, none⟩) L c1, .slice (some ⟨db, 0, none⟩) L c2] 40)).heap.size = w.heap.size + 1 by simp] at v1
 rw [show ((w.alloc (.cells #[.slice (some ⟨hb, 0, none⟩) L c1, .slice (some ⟨db, 0, none⟩) L c2] 40)).alloc (.cells #[.slice none 0 0, .slice none 0 0] 40)).heap.size = w.heap.size + 1 + 1 by simp] at v2
 clear q1 q2 q3
 obtain ⟨E, e1, e2⟩ := h3.ds
 have vh := h3.hs
 have hne := h.ne
 have b0 := v0.at 0 (by omega)
 have b2 := v2.at 0 (by omega)
 simp only [if_true] at b0 b2
 clear h h3
 unfold mapV
 go_enter Tryz.func31, Tryz.ntmps31
 go_wp2_with (at_builtin; refine wpList_append_row11 rfl _ _ 37 rfl 4 (.bool false) 1 Tryz.underlying37 infoB11 (by decide) vh hL0 hL rfl rfl ?_)
 intro gA cA wA hgA vA qA
 have hs3 : (((w.alloc (.cells #[.slice (some ⟨hb, 0, none⟩) L c1, .slice (some ⟨db, 0, none⟩) L c2] 40)).alloc (.cells #[.slice none 0 0, .slice none 0 0] 40)).alloc (.cells #[.slice none 0 0, .slice none 0 0] 40)).heap.size = w.heap.size + 1 + 1 + 1 := by simp
 generalize ((w.alloc (.cells #[.slice (some ⟨hb, 0, none⟩) L c1, .slice (some ⟨db, 0, none⟩) L c2] 40)).alloc (.cells #[.slice none 0 0, .slice none 0 0] 40)).alloc (.cells #[.slice none 0 0, .slice none 0 0] 40) = w3 at *
 rw [← hs3] at qA
 have s2 := v2.lt
 have s1 := v1.lt
 replace v0 := v0.below qA
 replace v1 := v1.below qA
 replace v2 := v2.below qA
 replace e1 := e1.below qA
 have hA := vA.lt
 have hdb := e1.lt
 have QA := btrans Q3 qA
 have n1 : gA ≠ w.heap.size + 1 + 1 := by omega
 have n2 : db ≠ w.heap.size + 1 + 1 := by omega
 have n3 : gA ≠ w.heap.size + 1 := by omega
 have n4 : w.heap.size ≤ gA := by omega
 clear b0 b2 vh Q3 hs3 qA hgA hlt s1 s2 hA hdb
 have x0 := v2.at 0 (by omega)
 have y0 := v2.soft 0
 simp only [if_true] at x0
 replace v0 := v0.far (p := ⟨w.heap.size + 1 + 1, 0, none⟩) (by show w.heap.size ≠ w.heap.size + 1 + 1; omega) (.slice (some ⟨gA, 0, none⟩) L cA)
 replace v1 := v1.far (p := ⟨w.heap.size + 1 + 1, 0, none⟩) (by show w.heap.size + 1 ≠ w.heap.size + 1 + 1; omega) (.slice (some ⟨gA, 0, none⟩) L cA)
 replace e1 := e1.far (p := ⟨w.heap.size + 1 + 1, 0, none⟩) n2 (.slice (some ⟨gA, 0, none⟩) L cA)
 replace vA := vA.far (p := ⟨w.heap.size + 1 + 1, 0, none⟩) n1 (.slice (some ⟨gA, 0, none⟩) L cA)
 replace v2 := v2.set 0 (by omega) (.slice (some ⟨gA, 0, none⟩) L cA)
 replace QA := QA.setCell (p := ⟨w.heap.size + 1 + 1, 0, none⟩) (by show w.heap.size ≤ w.heap.size + 1 + 1; omega) (.slice (some ⟨gA, 0, none⟩) L cA)
 have x1 := v0.at 1 (by omega)
 have x2 := v2.at 1 (by omega)
 simp only [show ¬ (1 : Nat) = 0 by decide, if_false] at x1 x2
 go_wp2_with (at_builtin; refine wpList_append_row11 rfl _ _ 38 rfl 9 (.string ⟨#[]⟩) 16 Tryz.underlying38 infoS11 (by decide) e1 hL0 hL rfl rfl ?_)
 intro gB cB wB hgB vB qB
 clear x0 y0 x1 x2 v0
 have hs4 : (wA.setCell ⟨w.heap.size + 1 + 1, 0, none⟩ (.slice (some ⟨gA, 0, none⟩) L cA)).heap.size = wA.heap.size := by simp
 generalize wA.setCell ⟨w.heap.size + 1 + 1, 0, none⟩ (.slice (some ⟨gA, 0, none⟩) L cA) = w4 at *
 rw [← hs4] at qB hgB
 have s1 := v1.lt
 have s2 := v2.lt
 have sA := vA.lt
 replace v1 := v1.below qB
 replace v2 := v2.below qB
 replace vA := vA.below qB
 have QB := btrans QA qB
 have m1 : gB ≠ w.heap.size + 1 + 1 := by omega
 have m3 : gB ≠ w.heap.size + 1 := by omega
 have m4 : w.heap.size ≤ gB := by omega
 have m5 : gA ≠ gB := by omega
 clear e1 QA qB hgB hs4 s1 s2 sA
 have x0 := v2.at 1 (by omega)
 have y0 := v2.soft 1
 simp only [show ¬ (1 : Nat) = 0 by decide, if_false] at x0
 replace v1 := v1.far (p := ⟨w.heap.size + 1 + 1, 1, none⟩) (by show w.heap.size + 1 ≠ w.heap.size + 1 + 1; omega) (.slice (some ⟨gB, 0, none⟩) L cB)
 replace vA := vA.far (p := ⟨w.heap.size + 1 + 1, 1, none⟩) n1 (.slice (some ⟨gB, 0, none⟩) L cB)
 replace vB := vB.far (p := ⟨w.heap.size + 1 + 1, 1, none⟩) m1 (.slice (some ⟨gB, 0, none⟩) L cB)
 replace v2 := v2.set 1 (by omega) (.slice (some ⟨gB, 0, none⟩) L cB)
 replace QB := QB.setCell (p := ⟨w.heap.size + 1 + 1, 1, none⟩) (by show w.heap.size ≤ w.heap.size + 1 + 1; omega) (.slice (some ⟨gB, 0, none⟩) L cB)
 have x1 := v2.at 0 (by omega)
 have x2 := v2.at 1 (by omega)
 simp only [show ¬ (1 : Nat) = 0 by decide, show ¬ (0 : Nat) = 1 by decide, if_false, if_true] at x1 x2
 have z0 := v1.at 0 (by omega)
 have z1 := v1.at 1 (by omega)
 have t0 := v1.soft 0
 have t1 := v1.soft 1
 simp only [show ¬ (1 : Nat) = 0 by decide, if_false, if_true] at z0 z1
 generalize hW5 : wB.setCell ⟨w.heap.size + 1 + 1, 1, none⟩ (.slice (some ⟨gB, 0, none⟩) L cB) = w5 at *
 replace vA := (vA.far (p := ⟨w.heap.size + 1, 0, none⟩) n3 (.slice (some ⟨gA, 0, none⟩) L cA)).far (p := ⟨w.heap.size + 1, 1, none⟩) n3 (.slice (some ⟨gB, 0, none⟩) L cB)
 replace vB := (vB.far (p := ⟨w.heap.size + 1, 0, none⟩) m3 (.slice (some ⟨gA, 0, none⟩) L cA)).far (p := ⟨w.heap.size + 1, 1, none⟩) m3 (.slice (some ⟨gB, 0, none⟩) L cB)
 have HM : Hid (MapAt _ gA gB L M) := ⟨vA, ⟨E, vB, e2⟩, m5⟩
 have HB : Hid (Below w.heap.size w _) := (QB.setCell (p := ⟨w.heap.size + 1, 0, none⟩) (by show w.heap.size ≤ w.heap.size + 1; omega) (.slice (some ⟨gA, 0, none⟩) L cA)).setCell (p := ⟨w.heap.size + 1, 1, none⟩) (by show w.heap.size ≤ w.heap.size + 1; omega) (.slice (some ⟨gB, 0, none⟩) L cB)
 replace v1 := (v1.set 0 (by omega) (.slice (some ⟨gA, 0, none⟩) L cA)).set 1 (by omega) (.slice (some ⟨gB, 0, none⟩) L cB)
 have d0 := v1.at 0 (by omega)
 have d1 := v1.at 1 (by omega)
 simp only [show ¬ (1 : Nat) = 0 by decide, show ¬ (0 : Nat) = 1 by decide, if_false, if_true] at d0 d1
 have HE : Hid (w.heap.size ≤ gA ∧ w.heap.size ≤ gB) := ⟨n4, m4⟩
 clear v1 v2 vA vB QB
 go_wp2_with fail
 refine bodyPost_ret (v := .agg #[.slice (some ⟨gA, 0, none⟩) L cA, .slice (some ⟨gB, 0, none⟩) L cB]) (by simp [results, Tryz.results31, go_sem, d0, d1]) rfl ?_
 exact ⟨_, _, _, _, HE.out, rfl, HM.out, HB.out⟩
end Go.Proofs.YtbafkakhhelcmaaGreat
