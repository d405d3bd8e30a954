/-
  The document's answer of layer 20 (casemateref20): Same, of two manifests that are one.
-/
import Derived.Test.YtennmhenlhaliaaManBase
namespace Go.Proofs.Ytennmhenlhaliaa.N
open Go.RowKit
set_option linter.unusedVariables false
set_option maxRecDepth 8192

theorem dig_arr {d : List Int} (h : IsB d) : (d.map (Value.int .u8)).toArray = arr .u8 (d.map Int.toNat) := by
  unfold arr nI
  rw [List.map_map, List.map_map]
  congr 1
  apply List.map_congr_left
  intro x hx
  have := h x hx
  simp only [Function.comp_apply]
  congr 1
  omega
theorem Try.szU8s : (Try.prog.info? 5).map (·.size) = some 1 := by kernel_rfl
theorem Try.szD : (Try.prog.info? 43).map (·.size) = some 32 := by kernel_rfl
theorem part_dig {s : Sg} (h : s.Ok) (w : World) : (part 43 (sA s) 2).run Try.prog w = .ok (.agg (arr .u8 (s.dig.map Int.toNat))) w := by
  rw [← dig_arr h.byt]
  obtain ⟨inf, hq, hs⟩ := Option.map_eq_some_iff.1 Try.szD
  have e : (sA s).extract 2 (2 + 32) = (s.dig.map (Value.int .u8)).toArray := by
    apply Array.ext_getElem?
    intro j
    rw [Array.getElem?_extract]
    have e34 := sA_size h
    by_cases hj : j < 32
    · rw [if_pos (by omega), sA_dig h j hj]
      have hd : j < s.dig.length := by rw [h.len]; exact hj
      simp [List.getElem?_eq_getElem hd]
    · rw [if_neg (by omega), Array.getElem?_eq_none (by simp [h.len]; omega)]
  simp [part, isAgg, run_underlying Try.underlying43, sizeOf, typeInfo, hq, hs, e]
theorem eqIntD (D : Nat) (hD : 1 ≤ D) (x : Int) (w : World) : (Op.equalIn D 3 (.int .i64 x) (.int .i64 x)).run Try.prog w = .ok true w := by
  obtain ⟨d, rfl⟩ : ∃ d, D = d + 1 := ⟨D - 1, by omega⟩
  rw [run_equalIn_int (d := d) w 3 .i64 .i64 _ _ Try.underlying3]
  simp
theorem eqDigD (D : Nat) (hD : 2 ≤ D) {s : Sg} (h : s.Ok) (w : World) : (Op.equalIn D 43 (.agg (arr .u8 (s.dig.map Int.toNat))) (.agg (arr .u8 (s.dig.map Int.toNat)))).run Try.prog w = .ok true w := by
  obtain ⟨d, rfl⟩ : ∃ d, D = d + 2 := ⟨D - 2, by omega⟩
  rw [run_equalV Try.underlying43 Try.underlying5 Try.szU8s _ _ (by rw [List.length_map, h.len]) (by rw [List.length_map, h.len]), decide_eq_true rfl]
theorem eqFields_three {P : Program} {D : Nat} {X : Array Value} {x y z : Value} {f g k : Field} {w : World} (hf : f.name ≠ "_") (hg : g.name ≠ "_") (hk : k.name ≠ "_") (p0 : (part f.type X f.offset).run P w = .ok x w) (p1 : (part g.type X g.offset).run P w = .ok y w) (p2 : (part k.type X k.offset).run P w = .ok z w)
    (e0 : (Op.equalIn D f.type x x).run P w = .ok true w) (e1 : (Op.equalIn D g.type y y).run P w = .ok true w) (e2 : (Op.equalIn D k.type z z).run P w = .ok true w) :
    (Op.eqFields D X X [f, g, k]).run P w = .ok true w := by
  simp [Op.eqFields, hf, hg, hk, p0, p1, p2, e0, e1, e2]
theorem run_equalSg {s : Sg} (h : s.Ok) (w : World) : (Op.equalIn 10000 45 (.agg (sA s)) (.agg (sA s))).run Try.prog w = .ok true w := by
  obtain ⟨fs, hfs⟩ : ∃ fs, Try.prog.underlying 45 = some (.struct fs) := ⟨_, Try.underlying45⟩
  have hf : Try.prog.fieldsOf 45 = fs := by unfold Program.fieldsOf; rw [hfs]
  rw [run_equalIn_agg (d := 9999) w _ _ _ (by rw [hf]; exact hfs) (by kernel_rfl), hf]
  rw [Try.underlying45] at hfs
  cases hfs
  have p0 : (part 3 (sA s) 0).run Try.prog w = .ok (.int .i64 s.load) w := by simp [part, isAgg, run_underlying Try.underlying3, sA_0]
  have p1 : (part 3 (sA s) 1).run Try.prog w = .ok (.int .i64 s.size) w := by simp [part, isAgg, run_underlying Try.underlying3, sA_1]
  have p2 := part_dig h w
  exact eqFields_three (by decide) (by decide) (by decide) p0 p1 p2 (eqIntD 9999 (by decide) _ w) (eqIntD 9999 (by decide) _ w) (eqDigD 9999 (by decide) h w)
theorem exec_neqSg {a : Act} {o : Oper} {w : World} {T' : TypeId} {s : Sg} (h : s.Ok) (u v : Operand) (ho : o.op = .binOp .neq 45 u v T') (hu : a.eval u = .agg (sA s)) (hv : a.eval v = .agg (sA s)) : (execOp a.eval o).run Try.prog w = .ok (.value (.bool false)) w := by
  unfold execOp
  simp only [ho, hu, hv, Sem.run_bind, Sem.run_pure, run_eqGuard_agg w .neq _ u v _ _ (show Try.prog.eqGuardType Try.prog.depth 45 = false by kernel_rfl), Result.andThen_ok, run_neq_struct, run_equalSg h w, Bool.not_true]
theorem exec_loadSg {a : Act} {o : Oper} {w : World} {s : Sg} (hs : s.Ok) (x : Operand) (ho : o.op = .load 45 x) (b off : Nat) (hx : a.eval x = .pointer (some ⟨b, off, none⟩)) (hc : w.rangeAt b off (sC s)) : (execOp a.eval o).run Try.prog w = .ok (.value (.agg (sA s))) w := by
  unfold execOp
  simp only [ho, hx, Instr.loadAt, Instr.sureAddr, Sem.run_bind, Sem.run_pure, Result.andThen_ok, run_loadVar_mid w b off 45 (sC s) _ hc Try.underlying45 rfl (by rw [sC_len hs]; exact Try.szSg)]
  rfl
set_option maxHeartbeats 1600000 in
theorem same_any {v s k e : Int} {a a' : Option Addr} {n cap cap' : Nat} {l : List Sg} {w : World} (hr : SegRow w a n cap l) (hr' : SegRow w a' n cap' l) (ho : ∀ s ∈ l, s.Ok) :
    Calls Try.prog 14 #[.agg #[.int .i64 v, .int .i64 s, .int .i64 k, .int .i64 e, .slice a n cap], .agg #[.int .i64 v, .int .i64 s, .int .i64 k, .int .i64 e, .slice a' n cap']] w fun e' w' => e' = .returned (.bool true) ∧ Below w.heap.size w w' := by
  have hm := hr.hmax
  have hc := hr.hcap
  unfold maxLen at hm
  have V2 := ((Vars.start w).new 24 #[.int .i64 v, .int .i64 s, .int .i64 k, .int .i64 e, .slice a n cap]).new 24 #[.int .i64 v, .int .i64 s, .int .i64 k, .int .i64 e, .slice a' n cap']
  simp only [World.size_alloc] at V2
  go_enter Try.func14, Try.ntmps14
  go_wp2_with fail
  generalize (w.alloc (.cells #[.int .i64 v, .int .i64 s, .int .i64 k, .int .i64 e, .slice a n cap] 24)).alloc (.cells #[.int .i64 v, .int .i64 s, .int .i64 k, .int .i64 e, .slice a' n cap'] 24) = w2 at *
  go_loopw [5] (fun y wr => ∃ j : Nat, j ≤ n ∧ y = .int .i64 (j : Int) ∧ Below w2.heap.size w2 wr) (fun y _ => n - (intOf y).toNat)
  case atStart => exact ⟨0, Nat.zero_le _, rfl, Below.refl _ _⟩
  case round =>
    obtain ⟨j, hj, rfl, q⟩ := hrel
    have V3 := Vars.call V2 q
    have hg := V3.at 1 rfl
    have hg' := V3.at 0 rfl
    have c4 : wr.cell? ⟨w.heap.size, 4, none⟩ = some (.slice a n cap) := man_c hg 4
    by_cases hlt : j < n
    · obtain ⟨b, off, rfl, hbs, hcell⟩ := (hr.below V3.bel (Nat.le_refl _)).hcell (by omega)
      obtain ⟨b', off', rfl, hbs', hcell'⟩ := (hr'.below V3.bel (Nat.le_refl _)).hcell (by omega)
      have hx := hcell j hlt
      have hx' := hcell' j hlt
      have hs := sgI_ok ho j
      clear hcell hcell'
      generalize sgI l j = x at *
      have hlt' : (j : Int) < (n : Int) := by omega
      go_wp2_with fail
      refine av_open (fun w' => Below wr.heap.size wr w') (by kernel_rfl) ?_
      refine held_reads (rs := [0, 1, 2, 3, 4, 5, 6, 7, 8, 9, 10]) (fuel := 0) (by kernel_rfl) (fun c d v a w h => by cases d <;> exact h) (by kernel_rfl) ((Below.refl _ _).drew) (fun K hK => ?_)
      refine calm_do (.pointer (some ⟨w.heap.size, 4, none⟩)) rfl (by rfl) (fun w' hw' => ?_) ?_
      · go_simp
      go_simp
      refine calm_do (.slice (some ⟨b, off, none⟩) n cap) rfl (by rfl) (fun w' hw' => ?_) ?_
      · have d4 : w'.cell? ⟨w.heap.size, 4, none⟩ = some (.slice (some ⟨b, off, none⟩) n cap) := man_c ((hw'.block _ (lt_of_heap hg)).trans hg) 4
        go_simp
      go_simp
      refine calm_move _ rfl (by rfl) rfl ?_
      go_simp
      refine calm_do (.pointer (some ⟨b, off + j * 34, none⟩)) rfl (by rfl) (fun w' hw' => ?_) ?_
      · go_simp
      go_simp
      refine calm_do (.agg (sA x)) rfl (by rfl) (fun w' hw' => exec_loadSg hs _ rfl b (off + j * 34) rfl (range_block hx (hw'.block b hbs))) ?_
      go_simp
      refine calm_do (.pointer (some ⟨w.heap.size + 1, 4, none⟩)) rfl (by rfl) (fun w' hw' => ?_) ?_
      · go_simp
      go_simp
      refine calm_do (.slice (some ⟨b', off', none⟩) n cap') rfl (by rfl) (fun w' hw' => ?_) ?_
      · have d4 : w'.cell? ⟨w.heap.size + 1, 4, none⟩ = some (.slice (some ⟨b', off', none⟩) n cap') := man_c ((hw'.block _ (lt_of_heap hg')).trans hg') 4
        go_simp
      go_simp
      refine calm_move _ rfl (by rfl) rfl ?_
      go_simp
      refine calm_do (.pointer (some ⟨b', off' + j * 34, none⟩)) rfl (by rfl) (fun w' hw' => ?_) ?_
      · go_simp
      go_simp
      refine calm_do (.agg (sA x)) rfl (by rfl) (fun w' hw' => exec_loadSg hs _ rfl b' (off' + j * 34) rfl (range_block hx' (hw'.block b' hbs'))) ?_
      go_simp
      refine calm_do (.bool false) rfl (by rfl) (fun w' hw' => exec_neqSg hs _ _ rfl rfl rfl) ?_
      go_simp
      refine calm_nil (hK.out _ ?_)
      clear hK K
      refine wpAnyH_done (by kernel_rfl) ?_ _
      have q2 := q.drew
      clear hx hx' hg hg' c4 V3
      go_wp2_with fail
      go_roundw
      case rel => exact ⟨j + 1, by omega, by go_num, q2⟩
      case measure => simp [RowKit.intOf]; omega
    · obtain rfl : j = n := by omega
      go_wp2_with fail
      go_ret
      exact ⟨rfl, V3.bel⟩
end Go.Proofs.Ytennmhenlhaliaa.N
