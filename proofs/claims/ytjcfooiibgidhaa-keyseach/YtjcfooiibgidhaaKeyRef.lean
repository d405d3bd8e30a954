/-
  The document's answer of layer 21 (casemateref21): May, Place, Same.
-/
import Derived.Test.YtjcfooiibgidhaaKeyOwn
import Derived.Test.YtjcfooiibgidhaaManRef3
namespace Go.Proofs.Ytjcfooiibgidhaa.N
open Go.RowKit
set_option linter.unusedVariables false
set_option maxRecDepth 8192

theorem kOkTo_last {l : List Ky} : ∀ {k : Nat}, kOkTo l k = true → -1 ≤ lastAt l k
  | 0, _ => Int.le_refl _
  | k + 1, h => by
    rw [kOkTo_succ, Bool.and_eq_true] at h
    have h1 := of_decide_eq_true h.2
    have := kOkTo_last h.1
    show -1 ≤ (kyI l k).num
    omega
set_option maxHeartbeats 1600000 in
theorem refMay21_any {a : Option Addr} {n cap : Nat} {l : List Ky} {w : World} (hr : KRow w a n cap l) : Calls Try.prog 13 #[.slice a n cap] w fun e w' => e = .returned (.bool (mayK l)) ∧ w = w' := by
  have hm := hr.hmax
  have hc := hr.hcap
  unfold maxLen at hm
  have HM : Hid (mayK l = (decide (n ≤ 8) && kOkTo l n)) := by show _ = _; unfold mayK; rw [hr.hlen]
  go_enter Try.func13, Try.ntmps13
  go_wp2
  go_loop [3] (fun i => ∃ k : Nat, k ≤ n ∧ i = .int .i64 (k : Int) ∧ Hid (kOkTo l k = true)) (fun i => n - (RowKit.intOf i).toNat)
  case atStart => exact ⟨0, Nat.zero_le _, rfl, rfl⟩
  case round =>
    obtain ⟨k, hk, rfl, HO⟩ := hrel
    by_cases hlt : k < n
    · obtain ⟨b, off, rfl, hbs, hcell⟩ := hr.hcell (by omega)
      have c0 := kr_num (hcell k hlt)
      have HS : Hid (kOkTo l (k + 1) = decide (lastAt l k < (kyI l k).num ∧ (kyI l k).num ≤ 2147483647)) := by
        show _ = _
        rw [kOkTo_succ, HO.out, Bool.true_and]
        rfl
      have HF : Hid (kOkTo l (k + 1) = false → mayK l = false) := fun h => by
        rw [kOkTo_succ, HO.out, Bool.true_and] at h
        rw [HM.out, kOkTo_of_no h hlt, Bool.and_false]
      have hla := kOkTo_last HO.out
      have hlt' : (k : Int) < (n : Int) := by omega
      rcases Nat.eq_zero_or_pos k with rfl | hpos
      · have e0 : lastAt l 0 = -1 := rfl
        rw [e0] at HS
        rw [Nat.zero_mul, Nat.add_zero] at c0
        clear hcell hla e0
        generalize (kyI l 0).num = x at *
        by_cases h1 : x < 0
        · have HN : Hid (mayK l = false) := HF.out (by rw [HS.out, decide_eq_false_iff_not]; omega)
          clear HS HF
          go_wp2_with fail
          go_ret
          exact ⟨ret_bool HN.out.symm, rfl⟩
        by_cases h2 : 2147483647 < x
        · have HN : Hid (mayK l = false) := HF.out (by rw [HS.out, decide_eq_false_iff_not]; omega)
          clear HS HF
          go_wp2_with fail
          go_ret
          exact ⟨ret_bool HN.out.symm, rfl⟩
        have HN : Hid (kOkTo l (0 + 1) = true) := by show _ = _; rw [HS.out]; exact decide_eq_true (by omega)
        clear HS HF
        go_wp2_with fail
        go_round
        case rel => exact ⟨0 + 1, by omega, by go_num, HN⟩
        case measure => simp [RowKit.intOf]; omega
      · obtain ⟨j, rfl⟩ : ∃ j, k = j + 1 := ⟨k - 1, by omega⟩
        have c1 := kr_num (hcell j (by omega))
        have e0 : lastAt l (j + 1) = (kyI l j).num := rfl
        rw [e0] at HS hla
        have ej : ((j + 1 : Nat) : Int) - 1 = (j : Int) := by omega
        have hjn : (j : Int) < (n : Int) := by omega
        clear hcell e0
        generalize (kyI l (j + 1)).num = x at *
        generalize (kyI l j).num = y at *
        by_cases h1 : x < 0
        · have HN : Hid (mayK l = false) := HF.out (by rw [HS.out, decide_eq_false_iff_not]; omega)
          clear HS HF
          go_wp2_with fail
          go_ret
          exact ⟨ret_bool HN.out.symm, rfl⟩
        by_cases h2 : 2147483647 < x
        · have HN : Hid (mayK l = false) := HF.out (by rw [HS.out, decide_eq_false_iff_not]; omega)
          clear HS HF
          go_wp2_with fail
          go_ret
          exact ⟨ret_bool HN.out.symm, rfl⟩
        by_cases h3 : x ≤ y
        · have HN : Hid (mayK l = false) := HF.out (by rw [HS.out, decide_eq_false_iff_not]; omega)
          clear HS HF
          go_wp2_with fail
          go_ret
          exact ⟨ret_bool HN.out.symm, rfl⟩
        have HN : Hid (kOkTo l (j + 1 + 1) = true) := by show _ = _; rw [HS.out]; exact decide_eq_true (by omega)
        clear HS HF
        go_wp2_with fail
        go_round
        case rel => exact ⟨j + 1 + 1, by omega, by go_num, HN⟩
        case measure => simp [RowKit.intOf]; omega
    · obtain rfl : k = n := by omega
      by_cases h8 : k ≤ 8
      · have HN : Hid (mayK l = true) := by show _ = _; rw [HM.out, HO.out, decide_eq_true h8]; rfl
        have h8' : (k : Int) ≤ 8 := by omega
        go_wp2_with fail
        go_ret
        exact ⟨ret_bool HN.out.symm, rfl⟩
      · have HN : Hid (mayK l = false) := by show _ = _; rw [HM.out, decide_eq_false h8]; rfl
        have h8' : ¬ (k : Int) ≤ 8 := by omega
        go_wp2_with fail
        go_ret
        exact ⟨ret_bool HN.out.symm, rfl⟩
/-- Place's answer as a number. -/
def plI (l : List Ky) (x : Int) : Int := match placeK l x with | some i => (i : Int) | none => -1
theorem placeK_first {l : List Ky} {x : Int} {k : Nat} (hk : k < l.length) (h : ∀ i, i < k → (kyI l i).num ≠ x) (hx : (kyI l k).num = x) : placeK l x = some k := by
  cases hp : placeK l x with
  | none => exact absurd hx (placeK_none hp hk)
  | some j =>
    have h1 := placeK_some hp
    congr 1
    rcases Nat.lt_or_ge j k with h2 | h2
    · exact absurd h1.2 (h j h2)
    · rcases Nat.lt_or_ge k j with h3 | h3
      · have h4 := (List.find?_range_eq_some.1 hp).2.2 k h3
        simp [hx] at h4
      · omega
theorem placeK_all {l : List Ky} {x : Int} (h : ∀ i, i < l.length → (kyI l i).num ≠ x) : placeK l x = none := by
  cases hp : placeK l x with
  | none => rfl
  | some j => exact absurd (placeK_some hp).2 (h j (placeK_some hp).1)
theorem refPlace21_any {a : Option Addr} {n cap : Nat} {l : List Ky} {x : Int} {w : World} (hr : KRow w a n cap l) : Calls Try.prog 16 #[.slice a n cap, .int .i64 x] w fun e w' => e = .returned (.int .i64 (plI l x)) ∧ w = w' := by
  have hm := hr.hmax
  have hc := hr.hcap
  unfold maxLen at hm
  have HL : Hid (l.length = n) := hr.hlen
  go_enter Try.func16, Try.ntmps16
  go_wp2
  go_loop [5] (fun i => ∃ k : Nat, k ≤ n ∧ i = .int .i64 (k : Int) ∧ Hid (∀ i, i < k → (kyI l i).num ≠ x)) (fun i => n - (RowKit.intOf i).toNat)
  case atStart => exact ⟨0, Nat.zero_le _, rfl, fun i hi => absurd hi (Nat.not_lt_zero _)⟩
  case round =>
    obtain ⟨k, hk, rfl, HO⟩ := hrel
    by_cases hlt : k < n
    · obtain ⟨b, off, rfl, hbs, hcell⟩ := hr.hcell (by omega)
      have c0 := kr_num (hcell k hlt)
      have hlt' : (k : Int) < (n : Int) := by omega
      have HY : Hid ((kyI l k).num = x → plI l x = (k : Int)) := fun h => by unfold plI; rw [placeK_first (by rw [HL.out]; exact hlt) HO.out h]
      have HN : Hid ((kyI l k).num ≠ x → ∀ i, i < k + 1 → (kyI l i).num ≠ x) := fun h i hi => by
        rcases Nat.lt_or_ge i k with h1 | h1
        · exact HO.out i h1
        · obtain rfl : i = k := by omega
          exact h
      clear hcell
      generalize (kyI l k).num = y at *
      by_cases hy : y = x
      · have HZ : Hid (plI l x = (k : Int)) := HY.out hy
        subst hy
        clear HY HN
        go_wp2_with fail
        go_ret
        exact ⟨ret_int HZ.out.symm, rfl⟩
      · have HZ : Hid (∀ i, i < k + 1 → (kyI l i).num ≠ x) := HN.out hy
        clear HY HN
        go_wp2_with fail
        go_round
        case rel => exact ⟨k + 1, by omega, by go_num, HZ⟩
        case measure => simp [RowKit.intOf]; omega
    · obtain rfl : k = n := by omega
      have HZ : Hid (plI l x = -1) := by show _ = _; unfold plI; rw [placeK_all (by rw [HL.out]; exact HO.out)]
      go_wp2_with fail
      go_ret
      exact ⟨ret_int HZ.out.symm, rfl⟩
theorem Try.szU8k : (Try.prog.info? 5).map (·.size) = some 1 := by kernel_rfl
theorem dA_arr {d : List Int} (h : IsB d) : dA d = arr .u8 (d.map Int.toNat) := dig_arr h
theorem eqIntK (D : Nat) (hD : 1 ≤ D) (x : Int) (w : World) : (Op.equalIn D 3 (.int .i64 x) (.int .i64 x)).run Try.prog w = .ok true w := by
  obtain ⟨d, rfl⟩ : ∃ d, D = d + 1 := ⟨D - 1, by omega⟩
  rw [run_equalIn_int (d := d) w 3 .i64 .i64 _ _ Try.underlying3]
  simp
theorem eqDigK (D : Nat) (hD : 2 ≤ D) {d : List Int} (h : IsB d) (hl : d.length = 32) (w : World) : (Op.equalIn D 28 (.agg (dA d)) (.agg (dA d))).run Try.prog w = .ok true w := by
  obtain ⟨e, rfl⟩ : ∃ e, D = e + 2 := ⟨D - 2, by omega⟩
  rw [dA_arr h, run_equalV Try.underlying28 Try.underlying5 Try.szU8k _ _ (by rw [List.length_map, hl]) (by rw [List.length_map, hl]), decide_eq_true rfl]
theorem eqBoolK (D : Nat) (hD : 1 ≤ D) (x : Bool) (w : World) : (Op.equalIn D 4 (.bool x) (.bool x)).run Try.prog w = .ok true w := by
  obtain ⟨d, rfl⟩ : ∃ d, D = d + 1 := ⟨D - 1, by omega⟩
  simp [Op.equalIn, run_underlying Try.underlying4]
theorem part_digK {k : Ky} (h : k.Ok) (w : World) : (part 28 (kA k) 1).run Try.prog w = .ok (.agg (dA k.dig)) w := by
  obtain ⟨inf, hq, hs⟩ := Option.map_eq_some_iff.1 Try.szDg
  have e : (kA k).extract 1 (1 + 32) = dA k.dig := by
    have hl := dC_len h.len
    unfold kA kC dA
    rw [List.extract_toArray]
    congr 1
    show List.take (1 + 32 - 1) (dC k.dig ++ [Value.bool k.rev]) = dC k.dig
    rw [show 1 + 32 - 1 = (dC k.dig).length by omega, List.take_left']
    rfl
  simp [part, isAgg, run_underlying Try.underlying28, sizeOf, typeInfo, hq, hs, e]
theorem part_revK {k : Ky} (h : k.Ok) (w : World) : (part 4 (kA k) 33).run Try.prog w = .ok (.bool k.rev) w := by
  have e : (kA k)[33]? = some (.bool k.rev) := by rw [kA, List.getElem?_toArray]; exact kC_33 h
  simp [part, isAgg, run_underlying Try.underlying4, e]
theorem run_equalKy {k : Ky} (h : k.Ok) (w : World) : (Op.equalIn 10000 39 (.agg (kA k)) (.agg (kA k))).run Try.prog w = .ok true w := by
  obtain ⟨fs, hfs⟩ : ∃ fs, Try.prog.underlying 39 = some (.struct fs) := ⟨_, Try.underlying39⟩
  have hf : Try.prog.fieldsOf 39 = fs := by unfold Program.fieldsOf; rw [hfs]
  rw [run_equalIn_agg (d := 9999) w _ _ _ (by rw [hf]; exact hfs) (by kernel_rfl), hf]
  rw [Try.underlying39] at hfs
  cases hfs
  have p0 : (part 3 (kA k) 0).run Try.prog w = .ok (.int .i64 k.num) w := by simp [part, isAgg, run_underlying Try.underlying3, kA, kC]
  exact eqFields_three (by decide) (by decide) (by decide) p0 (part_digK h w) (part_revK h w) (eqIntK 9999 (by decide) _ w) (eqDigK 9999 (by decide) h.byt h.len w) (eqBoolK 9999 (by decide) _ w)
theorem exec_neqKy {a : Act} {o : Oper} {w : World} {T' : TypeId} {k : Ky} (h : k.Ok) (u v : Operand) (ho : o.op = .binOp .neq 39 u v T') (hu : a.eval u = .agg (kA k)) (hv : a.eval v = .agg (kA k)) : (execOp a.eval o).run Try.prog w = .ok (.value (.bool false)) w := by
  unfold execOp
  simp only [ho, hu, hv, Sem.run_bind, Sem.run_pure, run_eqGuard_agg w .neq _ u v _ _ (show Try.prog.eqGuardType Try.prog.depth 39 = false by kernel_rfl), Result.andThen_ok, run_neq_struct, run_equalKy h w, Bool.not_true]
theorem exec_loadKy {a : Act} {o : Oper} {w : World} {k : Ky} (hs : k.Ok) (x : Operand) (ho : o.op = .load 39 x) (b off : Nat) (hx : a.eval x = .pointer (some ⟨b, off, none⟩)) (hc : w.rangeAt b off (kC k)) : (execOp a.eval o).run Try.prog w = .ok (.value (.agg (kA k))) w := by
  unfold execOp
  simp only [ho, hx, Instr.loadAt, Instr.sureAddr, Sem.run_bind, Sem.run_pure, Result.andThen_ok, run_loadVar_mid w b off 39 (kC k) _ hc Try.underlying39 rfl (by rw [kC_len hs]; exact Try.szKy)]
  rfl
set_option maxHeartbeats 1600000 in
theorem refSame21_any {a a' : Option Addr} {n cap cap' : Nat} {l : List Ky} {w : World} (hr : KRow w a n cap l) (hr' : KRow w a' n cap' l) (ho : ∀ s ∈ l, s.Ok) :
    Calls Try.prog 12 #[.slice a n cap, .slice a' n cap'] w fun e' w' => e' = .returned (.bool true) ∧ Below w.heap.size w w' := by
  have hm := hr.hmax
  have hc := hr.hcap
  have hc' := hr'.hcap
  unfold maxLen at hm
  go_enter Try.func12, Try.ntmps12
  go_wp2_with fail
  go_loopw [5] (fun y wr => ∃ j : Nat, j ≤ n ∧ y = .int .i64 (j : Int) ∧ Below w.heap.size w wr) (fun y _ => n - (intOf y).toNat)
  case atStart => exact ⟨0, Nat.zero_le _, rfl, Below.refl _ _⟩
  case round =>
    obtain ⟨j, hj, rfl, q⟩ := hrel
    by_cases hlt : j < n
    · obtain ⟨b, off, rfl, hbs, hcell⟩ := (hr.below q (Nat.le_refl _)).hcell (by omega)
      obtain ⟨b', off', rfl, hbs', hcell'⟩ := (hr'.below q (Nat.le_refl _)).hcell (by omega)
      have hx := hcell j hlt
      have hx' := hcell' j hlt
      have hs := kyI_ok ho j
      clear hcell hcell'
      generalize kyI l j = x at *
      have hlt' : (j : Int) < (n : Int) := by omega
      go_wp2_with fail
      refine av_open (fun w' => Below wr.heap.size wr w') (by kernel_rfl) ?_
      refine held_reads (rs := [0, 1, 2, 3, 4, 5, 6, 7, 8]) (fuel := 0) (by kernel_rfl) (fun c d v a w h => by cases d <;> exact h) (by kernel_rfl) ((Below.refl _ _).drew) (fun K hK => ?_)
      refine calm_move _ rfl (by rfl) rfl ?_
      go_simp
      refine calm_move _ rfl (by rfl) rfl ?_
      go_simp
      refine calm_do (.pointer (some ⟨b, off + j * 34, none⟩)) rfl (by rfl) (fun w' hw' => ?_) ?_
      · go_simp
      go_simp
      refine calm_do (.agg (kA x)) rfl (by rfl) (fun w' hw' => exec_loadKy hs _ rfl b (off + j * 34) rfl (range_block hx (hw'.block b hbs))) ?_
      go_simp
      refine calm_move _ rfl (by rfl) rfl ?_
      go_simp
      refine calm_move _ rfl (by rfl) rfl ?_
      go_simp
      refine calm_do (.pointer (some ⟨b', off' + j * 34, none⟩)) rfl (by rfl) (fun w' hw' => ?_) ?_
      · go_simp
      go_simp
      refine calm_do (.agg (kA x)) rfl (by rfl) (fun w' hw' => exec_loadKy hs _ rfl b' (off' + j * 34) rfl (range_block hx' (hw'.block b' hbs'))) ?_
      go_simp
      refine calm_do (.bool false) rfl (by rfl) (fun w' hw' => exec_neqKy hs _ _ rfl rfl rfl) ?_
      go_simp
      refine calm_nil (hK.out _ ?_)
      clear hK K
      refine wpAnyH_done (by kernel_rfl) ?_ _
      have q2 := q.drew
      clear hx hx'
      go_wp2_with fail
      go_roundw
      case rel => exact ⟨j + 1, by omega, by go_num, q2⟩
      case measure => simp [RowKit.intOf]; omega
    · obtain rfl : j = n := by omega
      go_wp2_with fail
      go_ret
      exact ⟨rfl, q⟩
end Go.Proofs.Ytjcfooiibgidhaa.N
