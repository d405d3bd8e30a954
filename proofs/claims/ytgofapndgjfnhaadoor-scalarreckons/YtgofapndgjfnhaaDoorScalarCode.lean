/-
  The code of layer 18 (scalar), as it landed: the order in its variable, Is, Clamp; the steps: times, plus.
-/
import Derived.Test.YtgofapndgjfnhaaDoorScalarPlain
import Derived.Test.YtgofapndgjfnhaaDoorFieldSlice
import Derived.Test.YtgofapndgjfnhaaDoorNumCode6
import Derived.Deep.MidRow
import Derived.Deep.CutRange
namespace Go.Proofs.YtgofapndgjfnhaaDoor.N
open Go.RowKit
set_option linter.unusedVariables false
set_option maxRecDepth 8192

section
variable {P : Program} {ops : Array Oper} {rest : List Oper} {o : Oper} {a : Act} {w w0 : World} {Q : Exit → Act → World → Prop} {K : Act → World → Prop} {l : List AV}
/-- A slice of anything that is made. -/
theorem wp_sliceX (V : Vars w0 w l) (d : Tmp) (t : TypeId) (n : Nat) (ps : List (Nat × Operand)) (hd : o.dst = some d) (ho : o.op = .buildSlice t n ps.toArray) (T : TypeId) (X : Array Value)
    (hb : ∀ w, (Instr.buildSlice t n (ps.map fun p => (p.1, a.eval p.2)).toArray).run P w = .ok (.slice (some ⟨w.heap.size, 0, none⟩) n n) (w.alloc (.cells X T)))
    (h : ∀ w' g, Vars w0 w' (⟨g, T, X⟩ :: l) → K (a.put (some d) (.slice (some ⟨g, 0, none⟩) n n)) w') : o.wp P a w K Q := by
  have hm : (ps.toArray.map fun (p : Nat × Operand) => match p with | (i, x) => (i, a.eval x)) = (ps.map fun p => (p.1, a.eval p.2)).toArray := by
    rw [List.map_toArray]
  unfold Oper.wp execOp
  simp only [ho, hm, hb, Sem.run_bind, Sem.run_pure, Result.andThen_ok]
  have := h _ _ (V.new T X)
  rw [← hd] at this
  exact this
theorem wpList_sliceX (V : Vars w0 w l) (d : Tmp) (t : TypeId) (n : Nat) (ps : List (Nat × Operand)) (hgd : o.guard = none) (hd : o.dst = some d) (ho : o.op = .buildSlice t n ps.toArray) (T : TypeId) (X : Array Value)
    (hb : ∀ w, (Instr.buildSlice t n (ps.map fun p => (p.1, a.eval p.2)).toArray).run P w = .ok (.slice (some ⟨w.heap.size, 0, none⟩) n n) (w.alloc (.cells X T)))
    (h : ∀ w' g, Vars w0 w' (⟨g, T, X⟩ :: l) → wpList P ops Q rest (a.put (some d) (.slice (some ⟨g, 0, none⟩) n n)) w') : wpList P ops Q (o :: rest) a w :=
  wpList_plain hgd fun K hK => wp_sliceX V d t n ps hd ho T X hb fun w' g V' => hK _ _ (h w' g V')
end
/-- 'copy(out[:], b)', out an array of noughts. -/
theorem copy_out {P : Program} {w0 w : World} {B g n len cap : Nat} {dT elem ty T : TypeId} {a : Option Addr} {z : List Nat} (hu : P.underlying dT = some (.slice elem)) (hsz : (P.info? elem).map (·.size) = some 1)
    (hg : w.heap[g]? = some (.cells (arr .u8 (List.replicate n 0)) T (0, 0))) (hle : len ≤ n) (hr : Row .u8 w a len cap (nI z)) (dz : Dig z) :
    ∃ w2, Sem.run P (Builtin.copy_ #[dT, dT] ty #[.slice (some ⟨g, 0, none⟩) n n, .slice a len cap]) w = .ok (.int .i64 len) w2 ∧ w2.heap[g]? = some (.cells (arr .u8 (digL (vL z) n)) T (0, 0)) ∧ (∀ k, k ≠ g → w2.heap[k]? = w.heap[k]?) ∧ Below g w w2 := by
  have hl := hr.hlen
  rw [nI_length] at hl
  have e0 : z ++ List.replicate (n - len) 0 = digL (vL z) n := by
    have h := nI_front dz (n - len)
    have e : nI z ++ List.replicate (n - len) 0 = nI (z ++ List.replicate (n - len) 0) := by rw [nI_append]; simp [nI]
    rw [e] at h
    rw [nI_inj h, show z.length + (n - len) = n by omega]
  by_cases h0 : len = 0
  · subst h0
    have hz : z = [] := List.eq_nil_of_length_eq_zero hl
    refine ⟨w, ?_, ?_, fun k hk => rfl, Below.refl _ _⟩
    · exact run_copy_none (P := P) w dT dT ty elem _ a n n 0 cap hu hsz (by simp)
    · rw [← e0, hg, hz]
      simp
  · obtain ⟨b, off, rfl, hbs, hcell⟩ := hr.hcell (by omega)
    have hrun := run_copy_row (P := P) w dT dT ty elem g 0 n n ⟨b, off, none⟩ len cap (arr .u8 (List.replicate n 0)) T ((nI z).map (Value.int .u8)) hu hsz hg (by rw [List.length_map, nI_length, hl]; exact (Nat.min_eq_left hle).symm) (cells_row (by rw [nI_length, hl]) hcell) (by rw [List.length_map, nI_length, arr_size, List.length_replicate]; omega) (ints_oneCell _ _)
    have e1 : (((arr .u8 (List.replicate n 0)).toList.take 0) ++ (nI z).map (Value.int .u8) ++ (arr .u8 (List.replicate n 0)).toList.drop (0 + ((nI z).map (Value.int .u8)).length)) = (nI (z ++ List.replicate (n - len) 0)).map (Value.int .u8) := by
      simp [arr, nI, hl]
    rw [e1, e0] at hrun
    refine ⟨_, ?_, setRow_heap w g _ _ T _ hg, fun k hk => setRow_other w g k _ hk, below_setRow (Below.refl _ _) (Nat.le_refl _) _⟩
    rw [hrun]
    simp [goInt, nI_length, hl, arr]
theorem not7 : ∀ x : Fin 256, x.val &&& (255 - 7) = lowB x.val := by decide
theorem not128_or : ∀ x : Fin 256, (x.val &&& (255 - 128)) ||| 64 = topB x.val := by decide
theorem byte_low (x : Nat) (hx : x < 256) : bits .andNot .u8 (x : Int) 7 = ((lowB x : Nat) : Int) := by
  have h := u8_andNot_nat x 7 hx (by decide)
  rw [not7 ⟨x, hx⟩] at h
  exact h
theorem byte_top (x : Nat) (hx : x < 256) : ∃ y : Nat, y < 256 ∧ bits .andNot .u8 (x : Int) 128 = (y : Int) ∧ bits .or .u8 (y : Int) 64 = ((topB x : Nat) : Int) := by
  have h := u8_andNot_nat x 128 hx (by decide)
  have hy : x &&& (255 - 128) < 256 := Nat.lt_of_le_of_lt Nat.and_le_left hx
  refine ⟨x &&& (255 - 128), hy, h, ?_⟩
  have h2 := u8_or_nat (x &&& (255 - 128)) 64 hy (by decide)
  rw [not128_or ⟨x, hx⟩] at h2
  exact h2
/-- The order lies in its variable. -/
def OAt (w : World) : Prop := ∃ T fr, w.heap[0]? = some (.cells (bA oL) T fr)
theorem OAt.below {w w' : World} {B : Nat} (h : OAt w) (q : Below B w w') (hB : w.heap.size ≤ B) : OAt w' := by
  obtain ⟨T, fr, h⟩ := h
  exact ⟨T, fr, by rw [q.block _ (Nat.lt_of_lt_of_le (Array.getElem?_eq_some_iff.1 h).1 hB)]; exact h⟩
theorem OAt.of {w w' : World} {l : List AV} (h : OAt w) (V : Vars w w' l) : OAt w' := h.below V.bel (Nat.le_refl _)
theorem OAt.drew {w : World} (h : OAt w) : OAt w.drew := h
theorem exec_loadO {a : Act} {o : Oper} {w : World} (h : OAt w) (x : Operand) (ho : o.op = .load 23 x) (hx : a.eval x = .pointer (some ⟨0, 0, none⟩)) : (execOp a.eval o).run Tryd.prog w = .ok (.value (.agg (bA oL))) w := by
  obtain ⟨T, fr, h⟩ := h
  unfold execOp
  simp only [ho, hx, Instr.loadAt, Instr.sureAddr, Sem.run_bind, Sem.run_pure, Result.andThen_ok, run_loadVar_row w _ T 23 (bA oL) fr _ h Tryd.underlying23 rfl (by rw [Tryd.szB, bA_size])]
theorem exec_sliceG {a : Act} {o : Oper} {w : World} (g : Nat) (x : Operand) (ho : o.op = .slice 23 x none none none) (hx : a.eval x = .pointer (some ⟨g, 0, none⟩)) :
    (execOp a.eval o).run Tryd.prog w = .ok (.value (.slice (some ⟨g, 0, none⟩) 32 32)) w := by
  unfold execOp
  simp only [ho, hx, Option.map_none, run_sliceAll 23 5 32 Tryd.underlying23 Tryd.sz8 g 0 (by decide) w, Sem.run_bind, Sem.run_pure, Result.andThen_ok]
theorem order18_any (w : World) (ho : OAt w) : Calls Tryd.prog 7 #[] w fun e w' => e = .returned (.agg (bA oL)) ∧ Below w.heap.size w w' := by
  have V0 := Vars.start w
  go_enter Tryd.func7, Tryd.ntmps7
  go_wp2_with (first
    | (refine wpList_allocV V0 0 23 rfl rfl rfl (bA 0) zeroB ?_; intro w1 g2 V3)
    | (refine wpList_exec rfl (exec_loadO (ho.of V3) _ rfl rfl) ?_)
    | (refine wpList_storeV V3 0 rfl _ (.tmp 1) rfl rfl rfl (bA oL) rfl rfl Tryd.szB (bA_size _) (bA_size _) (bA_one _) ?_; intro w4 V5))
  exact bodyPost_ret (resV1 rfl _ V5 0 rfl rfl Tryd.underlying23 Tryd.szB (bA_size _)) rfl ⟨rfl, V5.bel⟩
set_option maxHeartbeats 800000 in
theorem is18_any (a : Nat) (w : World) (ho : OAt w) (ha : a < 2 ^ 256) : Calls Tryd.prog 12 #[.agg (bA a)] w fun e w' => e = .returned (.bool (decide (a < oL))) ∧ Below w.heap.size w w' := by
  have HC : Hid (∀ (w : World) (g h : Nat), w.heap[g]? = some (.cells (bA a) 23 (0, 0)) → w.heap[h]? = some (.cells (bA oL) 23 (0, 0)) → Calls Tryd.prog 26 #[.slice (some ⟨g, 0, none⟩) 32 32, .slice (some ⟨h, 0, none⟩) 32 32] w fun e w' => e = .returned (.int .i64 (cmpN a oL)) ∧ Below w.heap.size w w') := by
    intro w g h hg hh
    have := cmp_any (digL a 32) (digL oL 32) (some ⟨g, 0, none⟩) (some ⟨h, 0, none⟩) 32 32 32 32 w (digL_dig _ _) (digL_dig _ _) (row_bA hg) (row_bA hh) (by decide) (by decide)
    rwa [vB ha, vB oL_lt256] at this
  have hcb := cmp_bounds a oL
  have hcc : decide (cmpN a oL < 0) = decide (a < oL) := by
    rw [Bool.eq_iff_iff, decide_eq_true_iff, decide_eq_true_iff]
    unfold cmpN
    split
    · omega
    · split <;> omega
  have HO : Hid (∀ w, OAt w → Calls Tryd.prog 7 #[] w fun e w' => e = .returned (.agg (bA oL)) ∧ Below w.heap.size w w') := fun w h => order18_any w h
  generalize cmpN a oL = cc at *
  generalize decide (a < oL) = b at *
  clear ha
  have V0 := Vars.start w
  go_enter Tryd.func12, Tryd.ntmps12
  go_wp2_with (refine wpList_boxV V0 1 23 _ rfl rfl rfl (bA a) rfl ?_; intro w1 g2 V3)
  refine (HO.out w1 (ho.of V3)).mono ?_
  rintro e w4 ⟨rfl, q6⟩
  have V5 := V3.call q6
  clear q6 V3
  go_wp2_with (first
    | (refine wpList_allocV V5 3 23 rfl rfl rfl (bA 0) zeroB ?_; intro w7 g8 V9)
    | (refine wpList_storeV V9 0 rfl _ (.tmp 4) rfl rfl rfl (bA oL) rfl rfl Tryd.szB (bA_size _) (bA_size _) (bA_one _) ?_; intro w10 V11))
  refine av_open (fun w' => Vars w w' [⟨g8, 23, bA oL⟩, ⟨g2, 23, bA a⟩]) (by kernel_rfl) ?_
  have V12 := V11.drew
  refine held_reads (rs := [0, 1]) (fuel := 3) (by kernel_rfl) (fun c d v a w h => by cases d <;> exact h) (by kernel_rfl) (V12) (fun K hK => ?_)
  refine calm_do (.slice (some ⟨g2, 0, none⟩) 32 32) rfl (by rfl) (fun w' hw' => exec_sliceB hw' 1 rfl _ rfl rfl) ?_
  go_simp
  refine calm_do (.slice (some ⟨g8, 0, none⟩) 32 32) rfl (by rfl) (fun w' hw' => exec_sliceB hw' 0 rfl _ rfl rfl) ?_
  go_simp
  refine calm_nil (hK.out _ ?_)
  clear hK K
  refine av_op (i := 2) (fuel := 2) (by kernel_rfl) rfl (by rfl) (fun K hK => ?_)
  go_simp
  refine (HC.out w10.drew g2 g8 (V12.at 1 rfl) (V12.at 0 rfl)).mono ?_
  rintro e w13 ⟨rfl, q15⟩
  have V14 := V12.call q15
  refine hK _ _ (V14) ?_
  clear hK K q15
  refine held_reads (rs := [3, 4]) (fuel := 0) (by kernel_rfl) (fun c d v a w h => by cases d <;> exact h) (by kernel_rfl) (V14) (fun K hK => ?_)
  go_simp
  refine calm_do (.bool b) rfl (by rfl) (fun w' hw' => ?_) ?_
  · have h9 := hcc
    go_simp
  go_simp
  refine calm_assign _ rfl (by rfl) rfl ?_
  go_simp
  refine calm_nil (hK.out _ ?_)
  clear hK K
  refine wpAnyH_done (by kernel_rfl) ?_ _
  go_wp2_with fail
  go_ret
  exact ⟨rfl, V14.bel⟩
set_option maxHeartbeats 1600000 in
theorem clamp_gen (v b0 b31 x0 y z : Nat) (w : World) (HB0 : Hid ((bA v)[0]? = some (.int .u8 (b0 : Int)))) (HB31 : Hid ((bA (setN v 0 x0))[31]? = some (.int .u8 (b31 : Int)))) (h0 : b0 < 256) (h31 : b31 < 256) (hy : y < 256) (e0 : bits .andNot .u8 (b0 : Int) 7 = (x0 : Int)) (e1 : bits .andNot .u8 (b31 : Int) 128 = (y : Int)) (e2 : bits .or .u8 (y : Int) 64 = (z : Int))
    (HBY : Hid ((bA (setN (setN v 0 x0) 31 y))[31]? = some (.int .u8 (y : Int)))) (H0 : Hid ((digL v 32).set 0 x0 = digL (setN v 0 x0) 32)) (H1 : Hid ((digL (setN v 0 x0) 32).set 31 y = digL (setN (setN v 0 x0) 31 y) 32)) (r : Nat) (H2 : Hid ((digL (setN (setN v 0 x0) 31 y) 32).set 31 z = digL r 32)) :
    Calls Tryd.prog 16 #[.agg (bA v)] w fun e w' => e = .returned (.agg (bA r)) ∧ Below w.heap.size w w' := by
  generalize setN (setN v 0 x0) 31 y = v2 at *
  generalize setN v 0 x0 = v1 at *
  have V0 := Vars.start w
  go_enter Tryd.func16, Tryd.ntmps16
  go_upto_region 1 with (first
    | (refine wpList_boxV V0 1 23 _ rfl rfl rfl (bA v) rfl ?_; intro w1 g2 V3)
    | (refine wpList_allocV V3 2 23 rfl rfl rfl (bA 0) zeroB ?_; intro w4 g5 V6))
  have hc1 := cell_byte V6 1 rfl 0 HB0.out
  have hf1 := arr_unfrozen (V6.at 1 rfl) 0
  have V7 : Vars w (w4.setCell ⟨g2, 0, none⟩ (.int .u8 (x0 : Int))) [⟨g5, 23, bA 0⟩, ⟨g2, 23, bA v1⟩] := V6.setB 1 rfl 0 x0 v1 H0.out
  clear V6
  go_upto_region 2 with fail
  generalize w4.setCell ⟨g2, 0, none⟩ (.int .u8 (x0 : Int)) = wa at *
  clear hc1 hf1
  have hc2 := cell_byte V7 1 rfl 31 HB31.out
  have hf2 := arr_unfrozen (V7.at 1 rfl) 31
  have V9 : Vars w (wa.setCell ⟨g2, 31, none⟩ (.int .u8 (y : Int))) [⟨g5, 23, bA 0⟩, ⟨g2, 23, bA v2⟩] := V7.setB 1 rfl 31 y v2 H1.out
  clear V7
  go_upto_region 3 with fail
  generalize wa.setCell ⟨g2, 31, none⟩ (.int .u8 (y : Int)) = wb at *
  clear hc2 hf2
  have hc3 := cell_byte V9 1 rfl 31 HBY.out
  have hf3 := arr_unfrozen (V9.at 1 rfl) 31
  have V11 : Vars w (wb.setCell ⟨g2, 31, none⟩ (.int .u8 (z : Int))) [⟨g5, 23, bA 0⟩, ⟨g2, 23, bA r⟩] := V9.setB 1 rfl 31 z r H2.out
  clear V9
  go_upto_region 4 with fail
  generalize wb.setCell ⟨g2, 31, none⟩ (.int .u8 (z : Int)) = wc at *
  clear hc3 hf3
  go_wp2_with (first
    | (refine wpList_loadV V11 1 rfl 15 _ rfl rfl rfl rfl Tryd.underlying23 Tryd.szB (bA_size _) ?_)
    | (refine wpList_storeV V11 0 rfl _ (.tmp 15) rfl rfl rfl (bA r) rfl rfl Tryd.szB (bA_size _) (bA_size _) (bA_one _) ?_; intro w13 V14))
  exact bodyPost_ret (resV1 rfl _ V14 0 rfl rfl Tryd.underlying23 Tryd.szB (bA_size _)) rfl ⟨rfl, V14.bel⟩
theorem clamp_any (v : Nat) (hv : v < 2 ^ 256) (w : World) : Calls Tryd.prog 16 #[.agg (bA v)] w fun e w' => e = .returned (.agg (bA (clampN v))) ∧ Below w.heap.size w w' := by
  have h0 := mod256 (v / 256 ^ 0)
  have h31 := mod256 (v / 256 ^ 31)
  obtain ⟨y, hy, e1, e2⟩ := byte_top _ h31
  have hl := lowB_lt h0
  refine clamp_gen v _ (v / 256 ^ 31 % 256) _ y _ w (bA_get v 0 (by decide)) ?_ h0 h31 hy (byte_low _ h0) e1 e2 ?_ (set_num v 0 hl) (set_num _ 31 hy) _ ?_
  · show _ = _
    rw [bA_get _ 31 (by decide), set_byte _ 31 (by decide) (by decide) hl, if_neg (by decide)]
  · show _ = _
    rw [bA_get _ 31 (by decide), set_byte _ 31 (by decide) (by decide) hy, if_pos rfl]
  · show _ = _
    have h := set_num (setN (setN v 0 (lowB (v / 256 ^ 0 % 256))) 31 y) 31 (topB_lt (v / 256 ^ 31 % 256))
    rw [set_again _ _ hy (topB_lt _)] at h
    exact h
theorem times18_any (b : Nat) (w : World) : Calls Tryd.prog 29 #[.agg (bA b)] w fun e w' => ∃ g, e = .returned (.func (.func 46) #[] #[.pointer (some ⟨g, 0, none⟩)]) ∧ w.heap.size ≤ g ∧ w'.heap[g]? = some (.cells (bA b) 23 (0, 0)) ∧ Below w.heap.size w w' := by
  have V0 := Vars.start w
  go_enter Tryd.func29, Tryd.ntmps29
  go_wp2_with (refine wpList_boxV V0 1 23 _ rfl rfl rfl (bA b) rfl ?_; intro w1 g1 V1)
  go_ret
  exact ⟨g1, rfl, V1.low ⟨g1, 23, bA b⟩ (by simp), V1.at 0 rfl, V1.bel⟩
set_option maxHeartbeats 800000 in
theorem times18_step (y : List Nat) (dy : Dig y) (a : Option Addr) (len cap g b : Nat) (w : World) (hr : Row .u8 w a len cap (nI y)) (hl : len ≤ 100000) (hb : b < 2 ^ 256) (hg : w.heap[g]? = some (.cells (bA b) 23 (0, 0))) :
    Calls Tryd.prog 46 #[.slice a len cap, .pointer (some ⟨g, 0, none⟩)] w (Gives w (nb (vL y * b))) := by
  have HC : Hid (Calls Tryd.prog 47 #[.slice a len cap, .slice (some ⟨g, 0, none⟩) 32 32] w (Gives w (nb (vL y * b)))) := by
    have := mul_any y (digL b 32) a (some ⟨g, 0, none⟩) len cap 32 32 w dy (digL_dig _ _) hr (row_bA hg) hl (by decide)
    rwa [vB hb] at this
  generalize nb (vL y * b) = r at *
  clear hr hg hb dy
  go_enter Tryd.func46, Tryd.ntmps46
  go_wp2_with (refine wpList_exec rfl (exec_sliceG g _ rfl rfl) ?_)
  refine HC.out.mono ?_
  rintro e w1 ⟨a1, c1, rfl, r1, q1⟩
  go_wp2_with fail
  go_ret
  exact ⟨a1, c1, rfl, r1, q1⟩
theorem plus18_any (b : Nat) (w : World) : Calls Tryd.prog 30 #[.agg (bA b)] w fun e w' => ∃ g, e = .returned (.func (.func 48) #[] #[.pointer (some ⟨g, 0, none⟩)]) ∧ w.heap.size ≤ g ∧ w'.heap[g]? = some (.cells (bA b) 23 (0, 0)) ∧ Below w.heap.size w w' := by
  have V0 := Vars.start w
  go_enter Tryd.func30, Tryd.ntmps30
  go_wp2_with (refine wpList_boxV V0 1 23 _ rfl rfl rfl (bA b) rfl ?_; intro w1 g1 V1)
  go_ret
  exact ⟨g1, rfl, V1.low ⟨g1, 23, bA b⟩ (by simp), V1.at 0 rfl, V1.bel⟩
set_option maxHeartbeats 800000 in
theorem plus18_step (y : List Nat) (dy : Dig y) (a : Option Addr) (len cap g b : Nat) (w : World) (hr : Row .u8 w a len cap (nI y)) (hl : len ≤ 100000) (hb : b < 2 ^ 256) (hg : w.heap[g]? = some (.cells (bA b) 23 (0, 0))) :
    Calls Tryd.prog 48 #[.slice a len cap, .pointer (some ⟨g, 0, none⟩)] w (Gives w (nb (vL y + b))) := by
  have HC : Hid (Calls Tryd.prog 49 #[.slice a len cap, .slice (some ⟨g, 0, none⟩) 32 32] w (Gives w (nb (vL y + b)))) := by
    have := add_any y (digL b 32) a (some ⟨g, 0, none⟩) len cap 32 32 w dy (digL_dig _ _) hr (row_bA hg) hl (by decide)
    rwa [vB hb] at this
  generalize nb (vL y + b) = r at *
  clear hr hg hb dy
  go_enter Tryd.func48, Tryd.ntmps48
  go_wp2_with (refine wpList_exec rfl (exec_sliceG g _ rfl rfl) ?_)
  refine HC.out.mono ?_
  rintro e w1 ⟨a1, c1, rfl, r1, q1⟩
  go_wp2_with fail
  go_ret
  exact ⟨a1, c1, rfl, r1, q1⟩
end Go.Proofs.YtgofapndgjfnhaaDoor.N
