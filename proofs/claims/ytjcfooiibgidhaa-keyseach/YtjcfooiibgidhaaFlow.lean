/-
  A region that draws its order, in which variables are made ('floats': allocs that may come up at any time) beside calls that turn nothing old: each call is walked ONCE, in whatever world; the variables are handed over at the end.
-/
import Derived.Test.YtjcfooiibgidhaaAvBase
namespace Go.Proofs.Ytjcfooiibgidhaa.N
open Go.RowKit
set_option linter.unusedVariables false
set_option maxRecDepth 8192

section
variable {P : Program} {ops : Array Oper} {Q : Exit → Act → World → Prop} {md : Region.Mode}
/-- What is made between two worlds. -/
structure Fresh (nw : List AV) (w w' : World) : Prop where
  low : ∀ v ∈ nw, w.heap.size ≤ v.g
  holds : ∀ v ∈ nw, w'.heap[v.g]? = some (.cells v.X v.T (0, 0))
  apart : nw.Pairwise (fun u v => u.g ≠ v.g)
theorem Fresh.nil (w w' : World) : Fresh [] w w' := ⟨fun v hv => absurd hv (List.not_mem_nil), fun v hv => absurd hv (List.not_mem_nil), .nil⟩
theorem Vars.fresh {w0 w w' : World} {l nw : List AV} (h : Vars w0 w l) (q : Below w.heap.size w w') (f : Fresh nw w w') : Vars w0 w' (nw ++ l) := by
  have h1 := h.call q
  refine ⟨h1.bel, fun v hv => ?_, fun v hv => ?_, List.pairwise_append.2 ⟨f.apart, h.apart, fun u hu v hv => ?_⟩⟩
  · rcases List.mem_append.1 hv with h2 | h2
    · exact Nat.le_trans h.size (f.low v h2)
    · exact h1.low v h2
  · rcases List.mem_append.1 hv with h2 | h2
    · exact f.holds v h2
    · exact h1.holds v h2
  · exact (Nat.ne_of_lt (Nat.lt_of_lt_of_le (lt_of_heap (h.holds v hv)) (f.low u hu))).symm
theorem Vars.perm {w0 w : World} {l l' : List AV} (h : Vars w0 w l) (p : l.Perm l') : Vars w0 w l' :=
  ⟨h.bel, fun v hv => h.low v (p.mem_iff.2 hv), fun v hv => h.holds v (p.mem_iff.2 hv), p.pairwise h.apart (fun {x y} hxy => Ne.symm hxy)⟩

/-- The walk in whatever world: till 'stop' is listed; then R. -/
def wpFl (P : Program) (md : Region.Mode) (ops : Array Oper) (Q : Exit → Act → World → Prop) (w0 : World) (stop : Array Bool) (R : List AV → Act → World → Prop) : Nat → Array Bool → List AV → Act → World → Prop
  | 0, listed, l, a, w => listed = stop ∧ ∀ w', Since w w' → Vars w0 w' l → R l a w'
  | fuel + 1, listed, l, a, w => (Region.ready md ops listed ≠ [] ∧ ∀ j ∈ Region.ready md ops listed, stop.getD j true = true) ∧ ∀ i ∈ Region.ready md ops listed, ∀ w', Since w w' → Vars w0 w' l →
      wpOp P ops Q i (fun a1 w1 => Since w' w1 ∧ ∃ nw, Fresh nw w' w1 ∧ wpFl P md ops Q w0 stop R fuel (listed.setIfInBounds i true) (nw ++ l) a1 w1) a w'
variable {w0 : World} {stop : Array Bool} {R : List AV → Act → World → Prop}
theorem wpFl_since : ∀ {fuel : Nat} {listed : Array Bool} {l : List AV} {a : Act} {w w' : World}, wpFl P md ops Q w0 stop R fuel listed l a w → Since w w' → wpFl P md ops Q w0 stop R fuel listed l a w'
  | 0, _, _, _, _, _, h, q => ⟨h.1, fun w2 q2 V => h.2 w2 (q.trans q2) V⟩
  | _ + 1, _, _, _, _, _, h, q => ⟨h.1, fun i hi w2 q2 V => h.2 i hi w2 (q.trans q2) V⟩
/-- What comes behind 'stop' waits for i. -/
def lateB (md : Region.Mode) (ops : Array Oper) (stop : Array Bool) (i : Nat) : Bool :=
  (List.range ops.size).all fun j => stop.getD j true || match ops[j]? with
    | some oj => oj.after.any fun e => Region.binds md e && e.on == i
    | none => true
theorem late_spec {i : Nat} (h : lateB md ops stop i = true) {listed : Array Bool} {j : Nat} (hj : j ∈ Region.ready md ops listed) (hi : listed.getD i false = false) : stop.getD j true = true := by
  obtain ⟨_, oj, hoj, hall⟩ := mem_ready.1 hj
  have h1 := List.all_eq_true.1 h j (List.mem_range.2 (Array.getElem?_eq_some_iff.1 hoj).1)
  rw [hoj] at h1
  rcases Bool.or_eq_true _ _ ▸ h1 with h2 | h2
  · exact h2
  · obtain ⟨e, he, hb⟩ := Array.any_eq_true'.1 h2
    simp only [Bool.and_eq_true, beq_iff_eq] at hb
    have := hall e he hb.1
    rw [hb.2, hi] at this
    cases this
theorem unlisted_false {listed : Array Bool} {i : Nat} (h : listed.getD i true = false) : listed.getD i false = false := by
  rcases Nat.lt_or_ge i listed.size with h' | h'
  · simpa [h'] using h
  · simp [Array.getElem?_eq_none h'] at h
/-- A read may be taken first. -/
theorem wpFl_first {i : Nat} {oi : Oper} {v : Value} (hi : ops[i]? = some oi) (hsel : ∀ (j : Nat) (o : Oper) cs b, ops[j]? = some o → o.op ≠ .select cs b)
    (hQ : ∀ c a w, Q (.panic c) (a.put oi.dst v) w → Q (.panic c) a w) (hst : lateB md ops stop i = true) :
    ∀ (fuel : Nat) (listed : Array Bool) (l : List AV) (a : Act) (w : World),
      (∀ j oj, ops[j]? = some oj → j ≠ i → listed.getD j true = false → (∀ e ∈ oj.after, Region.binds md e = true → e.on ≠ i) → oi.apart ops oj = true) →
      i ∈ Region.ready md ops listed → YieldsIf P ops (Since w) oi v a →
      wpFl P md ops Q w0 stop R fuel (listed.setIfInBounds i true) l (a.put oi.dst v) w → wpFl P md ops Q w0 stop R (fuel + 1) listed l a w := by
  intro fuel
  induction fuel with
  | zero =>
    intro listed l a w _ hr hy H
    refine ⟨⟨fun h => (by rw [h] at hr; cases hr), fun j hj => late_spec hst hj (unlisted_false (mem_ready.1 hr).1)⟩, fun j hj w' q V => ?_⟩
    by_cases hji : j = i
    · subst hji; exact hy.wpOp hi q ⟨Since.refl _, [], Fresh.nil _ _, wpFl_since (fuel := 0) H q⟩
    · have h1 := (mem_ready.1 hj).1
      rw [← getD_set_ne true (Ne.symm hji), H.1, late_spec hst hj (unlisted_false (mem_ready.1 hr).1)] at h1
      cases h1
  | succ fuel ih =>
    intro listed l a w hfree hr hy H
    refine ⟨⟨fun h => (by rw [h] at hr; cases hr), fun j hj => late_spec hst hj (unlisted_false (mem_ready.1 hr).1)⟩, fun j hj w' q V => ?_⟩
    by_cases hji : j = i
    · subst hji; exact hy.wpOp hi q ⟨Since.refl _, [], Fresh.nil _ _, wpFl_since (fuel := fuel + 1) H q⟩
    · have h1 := H.2 j (ready_mono hj hji) w' q V
      obtain ⟨hjun, oj, hoj, hall⟩ := mem_ready.1 hj
      have hnot : ∀ e ∈ oj.after, Region.binds md e = true → e.on ≠ i := fun e he hb heq => by
        have h1 := hall e he hb
        rw [heq, unlisted_false (mem_ready.1 hr).1] at h1
        cases h1
      have hy' : YieldsIf P ops (Since w') oi v a := hy.imp (fun h => ⟨h.1, fun w2 q2 => h.2 w2 (q.trans q2)⟩) id
      have h2 := wpOp_putIf hoj (hfree j oj hoj hji hjun hnot) (fun cs b => hsel i oi cs b hi) (fun cs b => hsel j oj cs b hoj) hQ hy' h1
      have hfree' : ∀ k ok, ops[k]? = some ok → k ≠ i → (listed.setIfInBounds j true).getD k true = false →
          (∀ e ∈ ok.after, Region.binds md e = true → e.on ≠ i) → oi.apart ops ok = true := fun k ok hk hki hun hno => by
        refine hfree k ok hk hki ?_ hno
        by_cases hjk : j = k
        · subst hjk; exact hjun
        · rw [getD_set_ne true hjk] at hun; exact hun
      refine wpOp_mono (fun a' w1 h3 => ?_) h2
      obtain ⟨hya, q1, nw, fr, h4⟩ := h3
      refine ⟨q1, nw, fr, ih (listed.setIfInBounds j true) (nw ++ l) a' w1 hfree' (ready_mono hr (Ne.symm hji)) (hya.imp (fun h => ⟨h.1, fun w2 q2 => h.2 w2 (q1.trans q2)⟩) id) ?_⟩
      rw [Array.setIfInBounds_comm _ _ hji]
      exact h4
def batchF (md : Region.Mode) (ops : Array Oper) (stop : Array Bool) : List Nat → Array Bool → Bool
  | [], _ => true
  | i :: rs, listed => (lateB md ops stop i && Region.free md ops listed i) && ((Region.ready md ops listed).contains i && batchF md ops stop rs (listed.setIfInBounds i true))
theorem wpFl_batch (hs : Region.noSelect ops = true) (hQ : ∀ c d v a w, Q (.panic c) (Act.put a d v) w → Q (.panic c) a w) {l : List AV} {w : World} :
    ∀ (rs : List Nat) (fuel : Nat) (listed : Array Bool) (a : Act), batchF md ops stop rs listed = true →
      wpCalm P ops (Since w) (fun a' => wpFl P md ops Q w0 stop R fuel (marked rs listed) l a' w) rs a → wpFl P md ops Q w0 stop R (fuel + rs.length) listed l a w
  | [], fuel, listed, a, _, h => h
  | i :: rs, fuel, listed, a, hb, h => by
    simp only [batchF, Bool.and_eq_true] at hb
    obtain ⟨o, v, ho, hy, hk⟩ := h
    exact wpFl_first ho (Region.noSelect_spec hs) (fun c a w => hQ c _ _ a w) hb.1.1 (fuel + rs.length) listed l a w (Region.free_spec ho hb.1.2) (by simpa using hb.2.1) hy (wpFl_batch hs hQ rs fuel _ _ hb.2.2 hk)
/-- A batch of reads: each yields its value in every world that comes of this one. -/
theorem fl_reads {rs : List Nat} {fuel : Nat} {listed : Array Bool} {l : List AV} {a : Act} {w : World} (hs : Region.noSelect ops = true) (hQ : ∀ c d v a w, Q (.panic c) (Act.put a d v) w → Q (.panic c) a w)
    (hb : batchF md ops stop rs listed = true) (h : ∀ K : Act → Prop, Hid (∀ a', wpFl P md ops Q w0 stop R fuel (marked rs listed) l a' w → K a') → wpCalm P ops (Since w) K rs a) :
    wpFl P md ops Q w0 stop R (fuel + rs.length) listed l a w :=
  wpFl_batch hs hQ rs fuel listed a hb (h _ (fun _ h => h))
/-- The one operation that may come up. -/
theorem fl_op {i : Nat} {o : Oper} {fuel : Nat} {listed : Array Bool} {l : List AV} {a : Act} {w : World} (hr : Region.ready md ops listed = [i]) (hst : stop.getD i true = true) (ho : ops[i]? = some o) (hw : Region.wanted o (yielded ops a.tmps) = true)
    (h : ∀ w', Since w w' → Vars w0 w' l → ∀ K' : Act → World → Prop, (∀ nw a1 w1, Since w' w1 → Fresh nw w' w1 → wpFl P md ops Q w0 stop R fuel (listed.setIfInBounds i true) (nw ++ l) a1 w1 → K' a1 w1) → Oper.wp P o a w' K' Q) :
    wpFl P md ops Q w0 stop R (fuel + 1) listed l a w := by
  refine ⟨⟨by rw [hr]; simp, fun j hj => by rw [hr, List.mem_singleton] at hj; rw [hj]; exact hst⟩, fun j hj w' q V => ?_⟩
  rw [hr, List.mem_singleton] at hj
  subst hj
  refine wpOp_step ho fun K' hK => ?_
  rw [if_pos hw]
  exact h w' q V K' fun nw a1 w1 q1 fr hh => hK a1 w1 ⟨q1, nw, fr, hh⟩
theorem fl_done {listed : Array Bool} {l : List AV} {a : Act} {w : World} (hs : listed = stop) (h : ∀ w', Since w w' → Vars w0 w' l → R l a w') : wpFl P md ops Q w0 stop R 0 listed l a w := ⟨hs, h⟩

/-- An operation, where a temporary that it does not touch holds something. -/
theorem wpOp_add {j : Nat} {oj : Oper} {d : Tmp} {v : Value} (hj : ops[j]? = some oj) (h1 : d ∉ oj.looksAt ops) (h2 : oj.dst ≠ some d) (hsj : ∀ cs b, oj.op ≠ .select cs b)
    (hQ : ∀ c a w, Q (.panic c) a w → Q (.panic c) (a.put (some d) v) w) {K : Act → World → Prop} {a : Act} {w : World} (h : wpOp P ops Q j K a w) :
    wpOp P ops Q j (fun a' w' => ∃ a1, a' = a1.put (some d) v ∧ K a1 w') (a.put (some d) v) w := by
  have k1 : ∀ e, some d = some e → e ∉ oj.looksAt ops := fun e he => by cases he; exact h1
  have k2 : ∀ e, some d = some e → oj.dst ≠ some e := fun e he => by cases he; exact h2
  have pc : ∀ (a : Act) u, ((a.put (some d) v).put oj.dst u) = (a.put oj.dst u).put (some d) v := fun a u => Act.put_comm a v u k2
  unfold wpOp at *
  simp only [hj] at *
  rw [wanted_put oj a (some d) v k1]
  split
  · rename_i hw
    simp only [hw, if_true] at h
    rcases h with h | ⟨hasks, hlets⟩
    case inr => exact .inr ⟨by unfold Oper.asks at *; rw [execOp_put oj hsj a (some d) v k1]; exact hasks, hlets⟩
    refine .inl ?_
    unfold Oper.wp at *
    rw [execOp_put oj hsj a (some d) v k1]
    generalize (execOp a.eval oj).run P w = r at *
    cases r with
    | ok n w' =>
      cases n <;> simp only [Oper.upon] at h ⊢
      case value u => exact ⟨_, pc a u, h⟩
      case skip => exact ⟨_, pc a undef, h⟩
      case defer e => exact ⟨_, by rw [Act.put_defers]; exact pc _ undef, h⟩
      case enter f args =>
        refine Calls.mono h fun e w'' he => ?_
        cases e with
        | returned u => exact ⟨_, pc a u, he⟩
        | panicked c => exact hQ _ _ _ he
        | outgrown => exact he
      case row row args => exact Rows.mono h fun u w'' he => ⟨_, pc a u, he⟩
    | halt x w' =>
      cases x <;> simp only [Oper.upon] at h ⊢
      case panic u => exact hQ _ _ _ h
  · rename_i hw
    simp only [hw] at h
    exact ⟨_, pc a undef, h⟩
/-- A variable that may be made at any time: its operation, its temporary, its type, its cells. -/
def floatB (md : Region.Mode) (ops : Array Oper) (stop : Array Bool) (i : Nat) (d : Tmp) (T : TypeId) : Bool :=
  (lateB md ops stop i && match ops[i]? with
    | some o => (match o.op with | .alloc T' => T' == T | _ => false) && ((o.dst == some d && o.guard.isNone) && (o.after.all fun e => !Region.binds md e))
    | none => false) &&
  ((List.range ops.size).all fun j => j == i || (!stop.getD j true || match ops[j]? with
    | some o => !(o.looksAt ops).contains d && o.dst != some d
    | none => true))
theorem float_spec {i : Nat} {d : Tmp} {T : TypeId} (h : floatB md ops stop i d T = true) : lateB md ops stop i = true ∧ (∃ o, ops[i]? = some o ∧ o.op = .alloc T ∧ o.dst = some d ∧ o.guard = none ∧ ∀ e ∈ o.after, Region.binds md e = false) ∧
    ∀ j o, ops[j]? = some o → j ≠ i → stop.getD j true = true → d ∉ o.looksAt ops ∧ o.dst ≠ some d := by
  unfold floatB at h
  simp only [Bool.and_eq_true, List.all_eq_true, List.mem_range] at h
  obtain ⟨⟨h1, h2⟩, h3⟩ := h
  refine ⟨h1, ?_, fun j o hj hne hst => ?_⟩
  · cases ho : ops[i]? with
    | none => rw [ho] at h2; cases h2
    | some o =>
      rw [ho] at h2
      simp only [Bool.and_eq_true, beq_iff_eq, Array.all_eq_true_iff_forall_mem, Bool.not_eq_true', Option.isNone_iff_eq_none] at h2
      refine ⟨o, rfl, ?_, h2.2.1.1, h2.2.1.2, h2.2.2⟩
      have h4 := h2.1
      split at h4
      · rename_i T' e; rw [e]; congr 1; exact eq_of_beq h4
      · cases h4
  · have h4 := h3 j (Array.getElem?_eq_some_iff.1 hj).1
    rw [hj] at h4
    simp only [Bool.or_eq_true, beq_iff_eq, hne, false_or, hst, Bool.not_true, Bool.false_eq_true, Bool.and_eq_true, Bool.not_eq_true', bne_iff_ne] at h4
    exact ⟨by simpa using h4.1, h4.2⟩
/-- What is shown at the end, the variable handed over. -/
def withV (w0 : World) (d : Tmp) (T : TypeId) (X : Array Value) (R : List AV → Act → World → Prop) (l : List AV) (a : Act) (w : World) : Prop :=
  ∀ g la, la.Perm (⟨g, T, X⟩ :: l) → Vars w0 w la → R la (a.put (some d) (.pointer (some ⟨g, 0, none⟩))) w
/-- Behind its alloc. -/
theorem float_made {i : Nat} {d : Tmp} {T : TypeId} {X : Array Value} (hf : floatB md ops stop i d T = true) (hsel : ∀ (j : Nat) (o : Oper) cs b, ops[j]? = some o → o.op ≠ .select cs b)
    (hQ : ∀ c v a w, Q (.panic c) a w → Q (.panic c) (Act.put a (some d) v) w) {g : Nat} :
    ∀ {fuel : Nat} {listed : Array Bool} {l la : List AV} {a : Act} {w : World}, listed.getD i false = true → la.Perm (⟨g, T, X⟩ :: l) → wpFl P md ops Q w0 stop (withV w0 d T X R) fuel listed l a w →
      wpFl P md ops Q w0 stop R fuel listed la (a.put (some d) (.pointer (some ⟨g, 0, none⟩))) w
  | 0, _, _, _, _, _, _, p, h => ⟨h.1, fun w' q V => h.2 w' q ((V.perm p).tail) g _ p V⟩
  | fuel + 1, listed, l, la, a, w, hl, p, h => by
    refine ⟨h.1, fun j hj w' q V => ?_⟩
    obtain ⟨_, oj, hoj, _⟩ := mem_ready.1 hj
    have hne : j ≠ i := by
      rintro rfl
      rw [unlisted_false (mem_ready.1 hj).1] at hl
      cases hl
    have hap := (float_spec hf).2.2 j oj hoj hne (h.1.2 j hj)
    refine wpOp_mono (fun a' w1 h3 => ?_) (wpOp_add hoj hap.1 hap.2 (fun cs b => hsel j oj cs b hoj) (fun c a w => hQ c _ a w) (h.2 j hj w' q (V.perm p).tail))
    obtain ⟨a1, rfl, q1, nw, fr, h4⟩ := h3
    exact ⟨q1, nw, fr, float_made hf hsel hQ (getD_set_true hl) ((p.append_left nw).trans List.perm_middle) h4⟩
/-- It may come up at any time. -/
theorem fl_float {i : Nat} (d : Tmp) (T : TypeId) (X : Array Value) (hf : floatB md ops stop i d T = true) (hs : Region.noSelect ops = true)
    (hQ : ∀ c d v a w, Q (.panic c) a w → Q (.panic c) (Act.put a d v) w) (hz : ∀ w, (zeroValue T).run P w = .ok (.agg X) w) :
    ∀ {fuel : Nat} {listed : Array Bool} {l : List AV} {a : Act} {w : World}, listed.getD i true = false → wpFl P md ops Q w0 stop (withV w0 d T X R) fuel (listed.setIfInBounds i true) l a w → wpFl P md ops Q w0 stop R (fuel + 1) listed l a w := by
  intro fuel
  obtain ⟨hlate, ⟨o, ho, hop, hod, hog, hoa⟩, hap⟩ := float_spec hf
  have hsel := Region.noSelect_spec hs
  have key : ∀ {fuel : Nat} {listed : Array Bool} {l : List AV} {a : Act} {w w' : World}, listed.getD i true = false → Since w w' → Vars w0 w' l → wpFl P md ops Q w0 stop (withV w0 d T X R) fuel (listed.setIfInBounds i true) l a w →
      wpOp P ops Q i (fun a1 w1 => Since w' w1 ∧ ∃ nw, Fresh nw w' w1 ∧ wpFl P md ops Q w0 stop R fuel (listed.setIfInBounds i true) (nw ++ l) a1 w1) a w' := fun {fuel listed l a w w'} hl q V H => by
    refine wpOp_step ho fun K' hK => ?_
    rw [if_pos (by unfold Region.wanted; rw [hog])]
    have hr : (Instr.alloc T true (.tuple #[])).run P w' = .ok (.pointer (some ⟨w'.heap.size, 0, none⟩)) (w'.alloc (.cells X T)) := by simp [Instr.alloc, hz, newVar, newRow, Value.cells]
    unfold Oper.wp execOp
    simp only [hop, hr, Sem.run_bind, Sem.run_pure, Result.andThen_ok]
    refine hK _ _ ⟨below_one w' _, [⟨w'.heap.size, T, X⟩], ⟨fun v hv => ?_, fun v hv => ?_, List.pairwise_singleton _ _⟩, ?_⟩
    · rw [List.mem_singleton.1 hv]; exact Nat.le_refl _
    · rw [List.mem_singleton.1 hv]; exact heap_alloc_last w' _
    · rw [hod]
      have hlt : i < listed.size := by
        rcases Nat.lt_or_ge i listed.size with h' | h'
        · exact h'
        · simp [Array.getElem?_eq_none h'] at hl
      exact float_made hf hsel (fun c v a w => hQ c _ v a w) (by simp [hlt]) (List.Perm.refl _) (wpFl_since H (q.trans (below_one w' _)))
  have rdy : ∀ {listed : Array Bool}, listed.getD i true = false → i ∈ Region.ready md ops listed := fun hl => mem_ready.2 ⟨hl, o, ho, fun e he hb => by rw [hoa e he] at hb; cases hb⟩
  induction fuel with
  | zero =>
    intro listed l a w hl H
    refine ⟨⟨fun h => (by have := rdy hl; rw [h] at this; cases this), fun j hj => late_spec hlate hj (unlisted_false hl)⟩, fun j hj w' q V => ?_⟩
    by_cases hji : j = i
    · subst hji; exact key hl q V H
    · have h1 := (mem_ready.1 hj).1
      rw [← getD_set_ne true (Ne.symm hji), H.1, late_spec hlate hj (unlisted_false hl)] at h1
      cases h1
  | succ fuel ih =>
    intro listed l a w hl H
    refine ⟨⟨fun h => (by have := rdy hl; rw [h] at this; cases this), fun j hj => late_spec hlate hj (unlisted_false hl)⟩, fun j hj w' q V => ?_⟩
    by_cases hji : j = i
    · subst hji; exact key hl q V H
    · refine wpOp_mono (fun a' w1 h3 => ?_) (H.2 j (ready_mono hj hji) w' q V)
      obtain ⟨q1, nw, fr, h4⟩ := h3
      refine ⟨q1, nw, fr, ih (by rw [getD_set_ne true hji]; exact hl) ?_⟩
      rw [Array.setIfInBounds_comm _ _ hji]
      exact h4
/-- From here on in whatever world. -/
theorem fl_begin {S : World → Prop} {m : Nat} (hS : ∀ w', Vars w0 w' [] → S w') : ∀ {fuel : Nat} {listed : Array Bool} {l : List AV} {a : Act} {w : World}, Vars w0 w l → wpFl P md ops Q w0 stop (fun _ a w => wpAnyH P md ops Q S m stop a w) fuel listed l a w → wpAnyH P md ops Q S (fuel + m) listed a w
  | 0, _, l, a, w, V, h => by
    rw [Nat.zero_add, h.1]
    exact h.2 w (Since.refl w) V
  | fuel + 1, listed, l, a, w, V, h => by
    rw [show fuel + 1 + m = (fuel + m) + 1 by omega]
    refine ⟨fun h0 => absurd h0 h.1.1, fun i hi => wpOp_mono (fun a1 w1 h3 => ?_) (h.2 i hi w (Since.refl w) V)⟩
    obtain ⟨q1, nw, fr, h4⟩ := h3
    have V1 := V.fresh q1 fr
    exact ⟨hS _ (V1.sub (List.nil_sublist _)), fl_begin hS V1 h4⟩
/-- Its end, one variable made. -/
theorem fl_end1 {listed : Array Bool} {l : List AV} {a : Act} {w : World} {d : Tmp} {T : TypeId} {X : Array Value} {R : Act → World → Prop} (hs : listed = stop)
    (h : ∀ w' g, Since w w' → Vars w0 w' (⟨g, T, X⟩ :: l) → R (a.put (some d) (.pointer (some ⟨g, 0, none⟩))) w') : wpFl P md ops Q w0 stop (withV w0 d T X (fun _ => R)) 0 listed l a w :=
  ⟨hs, fun w' q _ g _ p V => h w' g q (V.perm p)⟩
/-- Its end, two made: the first that was named stands first. -/
theorem fl_end2 {listed : Array Bool} {l : List AV} {a : Act} {w : World} {d d' : Tmp} {T T' : TypeId} {X X' : Array Value} {R : Act → World → Prop} (hs : listed = stop)
    (h : ∀ w' g g', Since w w' → Vars w0 w' (⟨g, T, X⟩ :: ⟨g', T', X'⟩ :: l) → R ((a.put (some d') (.pointer (some ⟨g', 0, none⟩))).put (some d) (.pointer (some ⟨g, 0, none⟩))) w') :
    wpFl P md ops Q w0 stop (withV w0 d' T' X' (withV w0 d T X (fun _ => R))) 0 listed l a w :=
  ⟨hs, fun w' q _ g' _ p' _ g _ p V => h w' g g' q (V.perm (p.trans (p'.cons _)))⟩
end
end Go.Proofs.Ytjcfooiibgidhaa.N
