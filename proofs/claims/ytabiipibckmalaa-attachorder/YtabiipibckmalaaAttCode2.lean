/-
  The code of layer 10 (attach), as it landed: slices.MinFunc over found blocks; by; stands; next.
-/
import Derived.Test.YtabiipibckmalaaAttCode
import Derived.RangeFuncRecord
namespace Go.Proofs.Ytabiipibckmalaa
open Go.RowKit
set_option linter.unusedVariables false
set_option maxRecDepth 8192

/-- The block g is a box that holds what was found. -/
def BoxIs (w : World) (g : Nat) (T : TypeId) (f : Fnd) : Prop := w.heap[g]? = some (.cells #[.int .i64 f.block, .int .i64 f.leb, .int .i64 f.bytes, .int .i64 f.number, .bool f.whole] T (0, 0))
theorem boxIs_new (w : World) (T : TypeId) (f : Fnd) : BoxIs (w.alloc (.cells #[.int .i64 f.block, .int .i64 f.leb, .int .i64 f.bytes, .int .i64 f.number, .bool f.whole] T)) w.heap.size T f := heap_alloc_new w _
theorem BoxIs.lt {w : World} {g : Nat} {T : TypeId} {f : Fnd} (h : BoxIs w g T f) : g < w.heap.size := by
  rcases Nat.lt_or_ge g w.heap.size with h' | h'
  · exact h'
  · unfold BoxIs at h; rw [Array.getElem?_eq_none h'] at h; simp at h
theorem BoxIs.below {w w' : World} {g B : Nat} {T : TypeId} {f : Fnd} (h : BoxIs w g T f) (q : Below B w w') (hB : w.heap.size ≤ B) : BoxIs w' g T f := by
  have := h.lt
  unfold BoxIs
  rw [q.block g (by omega)]; exact h
theorem BoxIs.fat {w : World} {g : Nat} {T : TypeId} {f : Fnd} (h : BoxIs w g T f) : FAt w g 0 f := by
  unfold BoxIs at h
  refine ⟨?_, ?_, ?_, ?_, ?_⟩ <;> simp [World.cell?, h]
theorem BoxIs.soft {w : World} {g : Nat} {T : TypeId} {f : Fnd} (h : BoxIs w g T f) : w.frozen? ⟨g, 0, none⟩ = false ∧ w.frozen? ⟨g, 1, none⟩ = false ∧ w.frozen? ⟨g, 2, none⟩ = false ∧ w.frozen? ⟨g, 3, none⟩ = false ∧ w.frozen? ⟨g, 4, none⟩ = false := by
  unfold BoxIs at h
  refine ⟨?_, ?_, ?_, ?_, ?_⟩ <;> simp [World.frozen?, h]
theorem setCell_block {w : World} {g : Nat} {cs : Array Value} {T : TypeId} {fr : Nat × Nat} (h : w.heap[g]? = some (.cells cs T fr)) (i : Nat) (v : Value) : (w.setCell ⟨g, i, none⟩ v).heap[g]? = some (.cells (cs.setIfInBounds i v) T fr) := by
  rw [setCell_eq_setRow w g i cs T fr v h]
  exact setRow_heap w g _ _ T _ h
/-- Another one is stored into a box. -/
theorem BoxIs.store {w : World} {g : Nat} {T : TypeId} {f : Fnd} (h : BoxIs w g T f) (k : Fnd) : BoxIs (((((w.setCell ⟨g, 0, none⟩ (.int .i64 k.block)).setCell ⟨g, 1, none⟩ (.int .i64 k.leb)).setCell ⟨g, 2, none⟩ (.int .i64 k.bytes)).setCell ⟨g, 3, none⟩ (.int .i64 k.number)).setCell ⟨g, 4, none⟩ (.bool k.whole)) g T k := by
  have := setCell_block (setCell_block (setCell_block (setCell_block (setCell_block h 0 (.int .i64 k.block)) 1 (.int .i64 k.leb)) 2 (.int .i64 k.bytes)) 3 (.int .i64 k.number)) 4 (.bool k.whole)
  simpa [BoxIs] using this
theorem below_store {B g : Nat} {w wr : World} (q : Below B w wr) (hB : B ≤ g) (a b c d e : Value) : Below B w (((((wr.setCell ⟨g, 0, none⟩ a).setCell ⟨g, 1, none⟩ b).setCell ⟨g, 2, none⟩ c).setCell ⟨g, 3, none⟩ d).setCell ⟨g, 4, none⟩ e) :=
  ((((q.setCell hB a).setCell hB b).setCell hB c).setCell hB d).setCell hB e
theorem BoxIs.other {w : World} {g h : Nat} {T : TypeId} {f : Fnd} (hb : BoxIs w h T f) (hne : h ≠ g) (a b c d e : Value) : BoxIs (((((w.setCell ⟨g, 0, none⟩ a).setCell ⟨g, 1, none⟩ b).setCell ⟨g, 2, none⟩ c).setCell ⟨g, 3, none⟩ d).setCell ⟨g, 4, none⟩ e) h T f := by
  have e1 : ∀ (w : World) (i : Nat) (v : Value), (w.setCell ⟨g, i, none⟩ v).heap[h]? = w.heap[h]? := fun w i v => Below.heap_setCell w ⟨g, i, none⟩ v h hne
  unfold BoxIs
  rw [e1, e1, e1, e1, e1]; exact hb
set_option maxHeartbeats 3200000 in
theorem minFunc_any (nf : Int → Int → Int) (fn : Nat) (hbody : ∀ args w, Sem.run Try.prog (callFunc fn args) w = .ok (.enter fn args) w)
    (hcall : ∀ (a b : Int) (w : World), Calls Try.prog fn #[.int .i64 a, .int .i64 b] w fun e w' => e = .returned (.int .i64 (nf a b)) ∧ w = w')
    (bx : Nat) (a : Option Addr) (len cap : Nat) (fs : List Fnd) (w : World) (hb : w.cell? ⟨bx, 0, none⟩ = some (.func (.func fn) #[] #[])) (hr : FRow w a len cap fs) (h0 : 0 < len) :
    Calls Try.prog 22 #[.slice a len cap, .func (.func 25) #[] #[.pointer (some ⟨bx, 0, none⟩)]] w
      fun e w' => e = .returned (.agg #[.int .i64 (minTo nf fs (len - 1)).block, .int .i64 (minTo nf fs (len - 1)).leb, .int .i64 (minTo nf fs (len - 1)).bytes, .int .i64 (minTo nf fs (len - 1)).number, .bool (minTo nf fs (len - 1)).whole]) ∧ Below w.heap.size w w' := by
  have hm := hr.hmax
  have hcp := hr.hcap
  unfold maxLen at hm
  have hbl := lt_of_cell hb
  simp only at hbl
  obtain ⟨b, off, rfl, hb0, hc⟩ := hr.hcell h0
  have HC : Hid (∀ i, i < len → FAt w b (off + i * 5) (fs[i]?.getD default)) := hc
  obtain ⟨c0, c1, c2, c3, c4⟩ := hc 0 h0
  rw [Nat.zero_mul, Nat.add_zero] at c0 c1 c2 c3 c4
  have H0 : Hid (fs[0]?.getD default = minTo nf fs 0) := rfl
  have h1 : ¬ (len : Int) < 1 := by omega
  have h2 : (0 : Int) < (len : Int) := by omega
  clear hc hr
  generalize fs[0]?.getD default = f0 at *
  go_enter Try.func22, Try.ntmps22
  go_wp2_with fail
  have B4 := (boxIs_new w 26 ⟨0, 0, 0, 0, false⟩).below (below_one _ (.cells #[.int .i64 f0.block, .int .i64 f0.leb, .int .i64 f0.bytes, .int .i64 f0.number, .bool f0.whole] 26)) (Nat.le_refl _)
  have B5 := boxIs_new (w.alloc (.cells #[.int .i64 0, .int .i64 0, .int .i64 0, .int .i64 0, .bool false] 26)) 26 f0
  have Q1 := below_two w (.cells #[.int .i64 0, .int .i64 0, .int .i64 0, .int .i64 0, .bool false] 26) (.cells #[.int .i64 f0.block, .int .i64 f0.leb, .int .i64 f0.bytes, .int .i64 f0.number, .bool f0.whole] 26)
  rw [show (w.alloc (.cells #[.int .i64 0, .int .i64 0, .int .i64 0, .int .i64 0, .bool false] 26)).heap.size = w.heap.size + 1 by simp] at B5
  simp only at B4 B5
  have hne : w.heap.size ≠ w.heap.size + 1 := by omega
  have hg5 : w.heap.size ≤ w.heap.size + 1 := by omega
  generalize ((w.alloc (.cells #[.int .i64 0, .int .i64 0, .int .i64 0, .int .i64 0, .bool false] 26)).alloc (.cells #[.int .i64 f0.block, .int .i64 f0.leb, .int .i64 f0.bytes, .int .i64 f0.number, .bool f0.whole] 26)) = w2 at *
  generalize w.heap.size + 1 = g5 at *
  generalize hg4 : w.heap.size = g4 at *
  go_loopw [6] (fun i wr => ∃ k : Nat, 1 ≤ k ∧ k ≤ len ∧ i = .int .i64 (k : Int) ∧ Hid (BoxIs wr g5 26 (minTo nf fs (k - 1))) ∧ Hid (BoxIs wr g4 26 ⟨0, 0, 0, 0, false⟩) ∧ Hid (Below g4 w wr)) (fun i _ => len - (intOf i).toNat)
  case atStart => exact ⟨1, by omega, by omega, rfl, by show BoxIs _ _ _ _; rw [← H0.out]; exact B5, B4, Q1⟩
  case round =>
    clear B4 B5 Q1 c0 c1 c2 c3 c4 H0
    obtain ⟨k, hk1, hk2, rfl, B5, B4, Q⟩ := hrel
    by_cases hlt : k < len
    · have hlt' : (k : Int) < (len : Int) := by omega
      have HX := (HC.out k hlt).below Q.out (by omega)
      have hbr := (Q.out.cell (p := ⟨bx, 0, none⟩) (by show bx < g4; omega)).trans hb
      have HM1 : Hid (cmpF nf (fs[k]?.getD default) (minTo nf fs (k - 1)) < 0 → minTo nf fs (k + 1 - 1) = fs[k]?.getD default) := fun h => by
        obtain ⟨t, rfl⟩ : ∃ t, k = t + 1 := ⟨k - 1, by omega⟩
        exact minTo_yes h
      have HM2 : Hid (¬ cmpF nf (fs[k]?.getD default) (minTo nf fs (k - 1)) < 0 → minTo nf fs (k + 1 - 1) = minTo nf fs (k - 1)) := fun h => by
        obtain ⟨t, rfl⟩ : ∃ t, k = t + 1 := ⟨k - 1, by omega⟩
        exact minTo_no h
      obtain ⟨m2, HE0⟩ : ∃ m2, minTo nf fs (k + 1 - 1) = m2 := ⟨_, rfl⟩
      have HE : Hid (minTo nf fs (k + 1 - 1) = m2) := HE0
      rw [HE0] at HM1 HM2
      clear HE0
      generalize minTo nf fs (k - 1) = m at *
      generalize fs[k]?.getD default = x at *
      go_wp2_with fail
      refine held_begin (by kernel_rfl) ?_
      refine held_reads (rs := [0, 1, 2, 3, 4, 5]) (fuel := 2) (by kernel_rfl) (fun c d v a w h => by cases d <;> exact h) (by kernel_rfl) (Since.drew _) (fun K hK => ?_)
      refine calm_move _ rfl (by rfl) rfl ?_
      go_simp
      refine calm_move _ rfl (by rfl) rfl ?_
      go_simp
      refine calm_move _ rfl (by rfl) rfl ?_
      go_simp
      refine calm_do (.pointer (some ⟨b, off + k * 5, none⟩)) rfl (by rfl) (fun w' hw' => ?_) ?_
      · go_simp
      go_simp
      refine calm_do (.agg #[.int .i64 x.block, .int .i64 x.leb, .int .i64 x.bytes, .int .i64 x.number, .bool x.whole]) rfl (by rfl) (fun w' hw' => ?_) ?_
      · obtain ⟨c0, c1, c2, c3, c4⟩ := HX.below hw' (Nat.le_refl _)
        go_simp
      go_simp
      refine calm_do (.agg #[.int .i64 m.block, .int .i64 m.leb, .int .i64 m.bytes, .int .i64 m.number, .bool m.whole]) rfl (by rfl) (fun w' hw' => ?_) ?_
      · obtain ⟨c0, c1, c2, c3, c4⟩ := B5.out.fat.below hw' (Nat.le_refl _)
        go_simp
      go_simp
      refine calm_nil (hK.out _ ?_)
      clear hK K
      refine held_call (i := 6) (fuel := 1) (by kernel_rfl) rfl (by rfl) (fun K hK => ?_)
      go_simp
      refine (by1_any nf fn hbody hcall x m bx wr.drew hbr).mono ?_
      rintro e w3 ⟨rfl, qq0⟩
      have qd : Since _ w3 := Since.trans (Since.drew _) qq0
      refine hK _ _ qd ?_
      clear hK K qq0
      have B5' : Hid (BoxIs w3 g5 26 m) := B5.out.below qd (Nat.le_refl _)
      have B4' : Hid (BoxIs w3 g4 26 ⟨0, 0, 0, 0, false⟩) := B4.out.below qd (Nat.le_refl _)
      have Q' : Hid (Below g4 w w3) := Q.out.trans (qd.mono (by have := Q.out.size; omega))
      replace HX := HX.below qd (Nat.le_refl _)
      clear B5 B4 Q hbr qd
      refine held_reads (rs := [7]) (fuel := 0) (by kernel_rfl) (fun c d v a w h => by cases d <;> exact h) (by kernel_rfl) (Since.refl _) (fun K hK => ?_)
      go_simp
      refine calm_do (.bool (decide (cmpF nf x m < 0))) rfl (by rfl) (fun w' hw' => ?_) ?_
      · go_simp
      go_simp
      refine calm_nil (hK.out _ ?_)
      clear hK K
      refine wpAnyH_done (by kernel_rfl) ?_ _
      cases hcm : decide (cmpF nf x m < 0)
      · have hm2 := HM2.out (by simpa using hcm)
        subst hm2
        clear hcm HM1 HM2
        go_wp2_with fail
        go_roundw
        case rel => exact ⟨k + 1, by omega, by omega, by go_num, by show BoxIs _ _ _ _; rw [HE.out]; exact B5'.out, B4', Q'⟩
        case measure => simp [intOf]; omega
      · have hm2 := HM1.out (by simpa using hcm)
        subst hm2
        clear hcm HM1 HM2
        obtain ⟨c0, c1, c2, c3, c4⟩ := HX
        obtain ⟨d0, d1, d2, d3, d4⟩ := B5'.out.fat
        obtain ⟨f0, f1, f2, f3, f4⟩ := B5'.out.soft
        go_wp2_with fail
        go_roundw
        case rel => exact ⟨k + 1, by omega, by omega, by go_num, by show BoxIs _ _ _ _; rw [HE.out]; exact B5'.out.store _, B4'.out.other hne _ _ _ _ _, below_store Q'.out hg5 _ _ _ _ _⟩
        case measure => simp [intOf]; omega
    · obtain rfl : k = len := by omega
      obtain ⟨c0, c1, c2, c3, c4⟩ := B5.out.fat
      obtain ⟨d0, d1, d2, d3, d4⟩ := B4.out.fat
      obtain ⟨f0, f1, f2, f3, f4⟩ := B4.out.soft
      obtain ⟨m, HE0⟩ : ∃ m, minTo nf fs (k - 1) = m := ⟨_, rfl⟩
      have HE : Hid (minTo nf fs (k - 1) = m) := HE0
      rw [HE0] at B5 c0 c1 c2 c3 c4
      clear HE0
      have HB : Hid (BoxIs _ g4 26 m) := B4.out.store m
      have HQ : Hid _ := below_store Q.out (Nat.le_refl g4) (.int .i64 m.block) (.int .i64 m.leb) (.int .i64 m.bytes) (.int .i64 m.number) (.bool m.whole)
      go_wp2_with fail
      generalize (((((wr.setCell ⟨g4, 0, none⟩ (.int .i64 m.block)).setCell ⟨g4, 1, none⟩ (.int .i64 m.leb)).setCell ⟨g4, 2, none⟩ (.int .i64 m.bytes)).setCell ⟨g4, 3, none⟩ (.int .i64 m.number)).setCell ⟨g4, 4, none⟩ (.bool m.whole)) = wf at *
      clear c0 c1 c2 c3 c4 d0 d1 d2 d3 d4 f0 f1 f2 f3 f4
      obtain ⟨c0, c1, c2, c3, c4⟩ := HB.out.fat
      refine bodyPost_ret (v := .agg #[.int .i64 m.block, .int .i64 m.leb, .int .i64 m.bytes, .int .i64 m.number, .bool m.whole]) ?_ rfl ?_
      · simp [results, Try.results22, go_sem, c0, c1, c2, c3, c4]
      · exact ⟨by rw [HE.out], HQ.out⟩
theorem Try.makeF10 (fn : Fn) (first cap : Array Value) (w : World) : (Instr.makeFunc fn first cap).run Try.prog w = .ok (.func fn first cap) w := rfl
theorem by_any (fn : Nat) (w : World) : Calls Try.prog 17 #[.func (.func fn) #[] #[]] w fun e w' => e = .returned (.func (.func 25) #[] #[.pointer (some ⟨w.heap.size, 0, none⟩)]) ∧ Below w.heap.size w w' ∧ w'.cell? ⟨w.heap.size, 0, none⟩ = some (.func (.func fn) #[] #[]) := by
  have hmf := Try.makeF10
  go_enter Try.func17, Try.ntmps17
  go_wp2_with fail
  go_ret
  exact ⟨rfl, below_one _ _, by rw [World.cell?_alloc_at _ _ _ _ rfl]; rfl⟩
theorem fndField0 (f : Fnd) (w : World) : (Instr.field 26 (.agg #[.int .i64 f.block, .int .i64 f.leb, .int .i64 f.bytes, .int .i64 f.number, .bool f.whole]) 0).run Try.prog w = .ok (.int .i64 f.block) w := by rfl
theorem stands_any (a : Option Addr) (len cap : Nat) (fs : List Fnd) (w : World) (hr : FRow w a len cap fs) : Calls Try.prog 14 #[.slice a len cap] w fun e w' => e = .returned (.int .i64 (standsL fs)) ∧ Below w.heap.size w w' := by
  have hl := hr.hlen
  by_cases h0 : len = 0
  · subst h0
    obtain rfl : fs = [] := List.eq_nil_of_length_eq_zero hl
    clear hr
    go_enter Try.func14, Try.ntmps14
    go_wp2_with fail
    go_ret
    exact ⟨rfl, Below.refl _ _⟩
  · have hz : ((len : Int) == 0) = false := by simp; omega
    have hz2 : ¬ (len : Int) = 0 := by omega
    have HS : Hid ((minTo fallI fs (len - 1)).block = standsL fs) := by
      show _ = _
      unfold standsL
      rw [if_neg (by intro e; rw [e] at hl; simp at hl; omega), hl]
    go_enter Try.func14, Try.ntmps14
    go_wp2_with fail
    refine (by_any 23 _).mono ?_
    rintro e w1 ⟨rfl, q1, hb⟩
    go_wp2_with fail
    refine (minFunc_any fallI 23 (fun _ _ => rfl) falling_any _ a len cap fs _ hb (hr.below q1 (Nat.le_refl _)) (by omega)).mono ?_
    rintro e w2 ⟨rfl, q2⟩
    have hf0 := fndField0 (minTo fallI fs (len - 1)) w2
    go_wp2_with fail
    go_ret
    exact ⟨ret_int HS.out, btrans q1 q2⟩
end Go.Proofs.Ytabiipibckmalaa
