/-
  Layer 21: lists of keys that grow: one key made, a row of keys appended; slices.Clone, bytes.Equal.
-/
import Derived.Test.YtjcfooiibgidhaaKeyCode3
import Derived.Lib.Strings
import Derived.Great.BuildSlice
namespace Go.Proofs.Ytjcfooiibgidhaa.N
open Go.RowKit
set_option linter.unusedVariables false
set_option maxRecDepth 8192

theorem str_beqK {x y : List Int} (hx : IsB x) (hy : IsB y) : ((strOfNums x).toList == (strOfNums y).toList) = decide (x = y) := by
  rw [Lib.toList_data, Lib.toList_data]
  by_cases e : x = y
  · subst e; simp
  · rw [decide_eq_false e, beq_eq_false_iff_ne]
    exact fun h => e (strOfNums_inj hx hy (WideShapes.bytes_inj h))
theorem wpList_madeK {P : Program} {ops : Array Oper} {rest : List Oper} {o : Oper} {a : Act} {w : World} {Q : Exit → Act → World → Prop} (d : Tmp) (t : TypeId) (n : Nat) (ps : List (Nat × Operand)) (hgd : o.guard = none) (hd : o.dst = some d) (ho : o.op = .buildSlice t n ps.toArray) (T : TypeId) (X : Array Value)
    (hb : ∀ w, (Instr.buildSlice t n (ps.map fun p => (p.1, a.eval p.2)).toArray).run P w = .ok (.slice (some ⟨w.heap.size, 0, none⟩) n n) (w.alloc (.cells X T)))
    (h : wpList P ops Q rest (a.put (some d) (.slice (some ⟨w.heap.size, 0, none⟩) n n)) (w.alloc (.cells X T))) : wpList P ops Q (o :: rest) a w := by
  have hm : (ps.toArray.map fun (p : Nat × Operand) => match p with | (i, x) => (i, a.eval x)) = (ps.map fun p => (p.1, a.eval p.2)).toArray := by
    rw [List.map_toArray]
  refine wpList_plain hgd fun K hK => ?_
  unfold Oper.wp execOp
  simp only [ho, hm, hb, Sem.run_bind, Sem.run_pure, Result.andThen_ok]
  rw [← hd] at h
  exact hK _ _ h
/-- Fails at once where the next operation is no '[]T{..}' (with_reducible). -/
theorem at_slice {P : Program} {ops : Array Oper} {rest : List Oper} {a : Act} {w : World} {Q : Exit → Act → World → Prop} {d : Option Tmp} {t n : Nat} {ps : Array (Nat × Operand)} {ty : TypeId} {ps' : _} {af : _} {g : _}
    (h : wpList P ops Q ({ dst := d, op := .buildSlice t n ps, type := ty, pos := ps', after := af, guard := g } :: rest) a w) : wpList P ops Q ({ dst := d, op := .buildSlice t n ps, type := ty, pos := ps', after := af, guard := g } :: rest) a w := h
/-- 'append(v, x...)', v a list of keys of the call's own, x a row of keys (nil too). -/
theorem wpList_append_krow {P : Program} (w : World) {ops : Array Oper} {rest : List Oper} {o : Oper} {a : Act} {Q : Exit → Act → World → Prop} (hgd : o.guard = none) (s x : Operand) (t : TypeId)
    (ho : o.op = .call { callee := .builtin .append, args := #[s, x], argTypes := #[t, t] })
    (base : Nat) (e : TypeId) (i : TypeInfo) (z : Value) (ht : P.underlying t = some (.slice e)) (hi : P.info? e = some i) (hz : i.zero = some z) (hsize : i.size = 34) (hby : i.bytes = 48) (hzs : z.cells.size = 34)
    (v : Value) (n : Nat) (xs : List Value) (hs : a.eval s = v) (hown : w.ownsRow base e 34 v n xs)
    (sa : Option Addr) (m c : Nat) (l : List Ky) (hx : a.eval x = .slice sa m c) (hr : KRow w sa m c l) (ok : ∀ s ∈ l, s.Ok)
    (hsm : n + m ≤ 100000) (hbase : base ≤ w.heap.size)
    (h : ∀ v' w', w'.ownsRow base e 34 v' (n + m) (xs ++ kCs l) → Below base w w' → wpList P ops Q rest (a.put o.dst v') w') : wpList P ops Q (o :: rest) a w := by
  cases sa with
  | none =>
    obtain rfl : c = 0 := hr.hnil rfl
    obtain rfl : m = 0 := by have := hr.hcap; omega
    have hz0 : l = [] := List.eq_nil_of_length_eq_zero hr.hlen
    refine wpList_append_own_none hgd s x t ho base e i 34 ht hi v n xs hs hown hx ?_
    exact h v w (by rw [hz0]; simpa [kCs] using hown) (Below.refl _ _)
  | some ad =>
    refine wpList_append_own w hgd s x t ho base e i z 34 48 ht hi hz hsize hby hzs (by decide) v n xs hs hown ad m c (kCs l) hx (by rw [kCs_len ok, hr.hlen]) ?_ (kCs_one l) (by unfold maxLen; omega) (by omega) hbase fun v' w' h1 h2 _ => h v' w' h1 ((Below.refl _ _).grown h2 hbase (fun j hj => (hown.lt j hj).1))
    intro j u hj
    by_cases h0 : 0 < m
    · obtain ⟨b, off, hab, _, hcell⟩ := hr.hcell h0
      simp only [Option.some.injEq] at hab
      subst hab
      exact KRow.cells ok hr.hlen hcell j u hj
    · have hz0 : l = [] := List.eq_nil_of_length_eq_zero (by rw [hr.hlen]; omega)
      rw [hz0] at hj
      simp [kCs] at hj
theorem kCs_app (l m : List Ky) : kCs l ++ kCs m = kCs (l ++ m) := by simp [kCs]
theorem made_ky {s : Ky} (h : s.Ok) (w : World) : (Instr.buildSlice 22 1 [(0, .agg (kA s))].toArray).run Try.prog w = .ok (.slice (some ⟨w.heap.size, 0, none⟩) 1 1) (w.alloc (.cells (kA s) 39)) := by
  obtain ⟨i, hi, hz, hs, _⟩ := ky_info
  obtain ⟨r, hr, hsz, hk⟩ := Great.fill_dense (s := 34) (by decide) [.agg (kA s)] 0 ((Array.range (1 * 34)).map ((Value.agg (kA ky0)).cells[· % (Value.agg (kA ky0)).cells.size]!)) (by
    intro v hv
    rw [List.mem_singleton.1 hv]
    exact kA_size h) (by simp)
  have e : r = kA s := by
    apply Array.ext_getElem?
    intro k
    rw [hk k]
    have e34 : (kA s).size = 34 := kA_size h
    by_cases hk34 : k < 34
    · rw [if_pos (by simp; omega), show k / 34 - 0 = 0 by omega, Nat.mod_eq_of_lt hk34]
      rfl
    · rw [if_neg (by simp; omega), Array.getElem?_eq_none (by simp; omega), Array.getElem?_eq_none (by omega)]
  rw [e] at hr
  refine run_buildSlice w _ _ 1 _ (kA s) i (.agg (kA ky0)) Try.underlying22 hi hz (by rw [hs]; decide) (by rw [hs]; decide) ?_
  rw [hs]
  exact hr
/-- The key that was just made, as a row. -/
theorem kRow_one (w : World) {s : Ky} (h : s.Ok) (e : TypeId) : KRow (w.alloc (.cells (kA s) e)) (some ⟨w.heap.size, 0, none⟩) 1 1 [s] :=
  ⟨rfl, Nat.le_refl _, by unfold maxLen; omega, by simp, fun _ => ⟨w.heap.size, 0, rfl, by simp, fun i hi => by
    obtain rfl : i = 0 := by omega
    exact range_all (heap_alloc_last w _)⟩⟩
theorem kEqual_any {a c : Option Addr} {len cap len' cap' : Nat} {x y : List Int} {w : World} (hr : Row .u8 w a len cap x) (hr' : Row .u8 w c len' cap' y) (hx : IsB x) (hy : IsB y) :
    Calls Try.prog 26 #[.slice a len cap, .slice c len' cap'] w fun e w' => e = .returned (.bool (decide (x = y))) ∧ w = w' := by
  have k1 := conv_row (P := Try.prog) Try.underlying24 Try.underlying5 Try.underlying9 hr
  have k2 := conv_row (P := Try.prog) Try.underlying24 Try.underlying5 Try.underlying9 hr'
  have HE : Hid (((strOfNums x).toList == (strOfNums y).toList) = decide (x = y)) := str_beqK hx hy
  go_enter Try.func26, Try.ntmps26
  go_wp2
  go_ret
  exact ⟨ret_bool HE.out, rfl⟩
theorem nil_nilK (w : World) : Sem.run Try.prog (binOp BinOp.eql 22 (.slice none 0 0) (.slice none 0 0)) w = .ok (.bool true) w := by kernel_rfl
theorem some_nilK (a : Addr) (l c : Nat) (w : World) : Sem.run Try.prog (binOp BinOp.eql 22 (.slice (some a) l c) (.slice none 0 0)) w = .ok (.bool false) w := by kernel_rfl
theorem kClone_any {w : World} {a : Option Addr} {n c : Nat} {l : List Ky} (hr : KRow w a n c l) (ok : ∀ s ∈ l, s.Ok) (hn : n ≤ 1000) :
    Calls Try.prog 23 #[.slice a n c] w fun e w' => ∃ v, e = .returned v ∧ w'.ownsRow w.heap.size 39 34 v n (kCs l) ∧ Below w.heap.size w w' := by
  obtain ⟨i0, hi0, hz0, hz1, hz2⟩ := ky_info
  cases a with
  | none =>
    obtain rfl : c = 0 := hr.hnil rfl
    obtain rfl : n = 0 := by have := hr.hcap; omega
    have hD : l = [] := List.eq_nil_of_length_eq_zero hr.hlen
    have hq := nil_nilK w
    subst hD
    go_enter Try.func23, Try.ntmps23
    go_wp2
    go_ret
    exact ⟨_, rfl, World.ownsRow_nil _ _ _ _, Below.refl _ _⟩
  | some ad =>
    have hq := some_nilK ad n c w
    have q1 := below_one w (.cells #[] 39)
    have hown0 := World.ownsRow_lit (base := w.heap.size) (e := 39) (size := 34) w #[] 0 (Nat.le_refl _) (Nat.zero_le _) rfl
    have rd := hr.below q1 (Nat.le_refl _)
    go_enter Try.func23, Try.ntmps23
    go_wp2_with (at_builtin; refine wpList_append_krow _ rfl _ _ 22 rfl w.heap.size 39 i0 (.agg (kA ky0)) Try.underlying22 hi0 hz0 hz1 hz2 (kA_size ky0_ok) _ 0 [] rfl hown0 (some ad) n c l rfl rd ok (by omega) (by simp) ?_; intro v1 wo own1 qo)
    rw [List.nil_append, Nat.zero_add] at own1
    go_ret
    exact ⟨_, rfl, own1, q1.trans qo⟩
end Go.Proofs.Ytjcfooiibgidhaa.N
