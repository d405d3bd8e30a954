/-
  The code of layer 22 (slots): Bytes, Parse.
-/
import Derived.Test.YtagppgdigabbmaaSlotCode2
import Derived.Test.YtagppgdigabbmaaSlotCode3
namespace Go.Proofs.Ytagppgdigabbmaa.N
open Go.RowKit
set_option linter.unusedVariables false
set_option maxRecDepth 8192

theorem row_at {w : World} {g : Nat} {T : TypeId} {x : List Int} {n : Nat} (h : w.heap[g]? = some (.cells (x.map (Value.int .u8)).toArray T (0, 0))) (hl : x.length = n) (hn : n ≤ 1000 := by decide) : Row .u8 w (some ⟨g, 0, none⟩) n n x :=
  ⟨hl, Nat.le_refl _, by unfold maxLen; omega, by simp, fun _ => ⟨g, 0, rfl, lt_of_heap h, fun i hi => by
    rw [Nat.zero_add, man_c h i]
    have hi : i < x.length := by omega
    simp [hi]⟩⟩
theorem exec_toArr {P : Program} {a : Act} {o : Oper} {w : World} {T e : TypeId} {n len cap : Nat} {ad : Option Addr} (x : Operand) (ho : o.op = .sliceToArrayPointer T x) (hu : P.underlying T = some (.array n e)) (hl : n ≤ len) (hx : a.eval x = .slice ad len cap) :
    (execOp a.eval o).run P w = .ok (.value (.pointer ad)) w := by
  unfold execOp
  have h : ¬ len < n := by omega
  simp [ho, hx, Instr.arrayAt, run_underlying hu, h]
section
variable {P : Program} {a : Act} {o : Oper} {w w0 : World} {l : List AV}
theorem exec_loadT (V : Vars w0 w l) (i : Nat) {g : Nat} {T : TypeId} {X : Array Value} (hi : l[i]? = some ⟨g, T, X⟩) (x : Operand) (ho : o.op = .load T x) (hx : a.eval x = .pointer (some ⟨g, 0, none⟩))
    {d : TypeDesc} (hu : P.underlying T = some d) (hd : d.isRow = true) {n : Nat} (hn : (P.info? T).map (·.size) = some n) (hX : X.size = n) : (execOp a.eval o).run P w = .ok (.value (.agg X)) w := by
  unfold execOp
  simp only [ho, hx, Instr.loadAt, Instr.sureAddr, Sem.run_bind, Sem.run_pure, Result.andThen_ok, run_loadVar_row w g T T X (0, 0) d (V.at i hi) hu (by cases d <;> first | rfl | exact hd) (by rw [hn, hX])]
theorem resT2 {fn : Func} {p u : Tmp} {T : TypeId} (h : fn.results = #[.cell p T, .tmp u]) (tmps : Array Value) (V : Vars w0 w l) (i : Nat) {g : Nat} {X : Array Value} (hi : l[i]? = some ⟨g, T, X⟩) (hp : tmps.getD p undef = .pointer (some ⟨g, 0, none⟩))
    {fs : Array Field} (hu : P.underlying T = some (.struct fs)) {n : Nat} (hn : (P.info? T).map (·.size) = some n) (hX : X.size = n) : (results fn tmps).run P w = .ok (.tuple #[.agg X, tmps.getD u undef]) w := by
  have hl' := run_loadVar_row (P := P) w g T T X (0, 0) _ (V.at i hi) hu rfl (by rw [hn, hX])
  rw [results_cell_tmp h, hp]
  simp [asAddr, Result.andThen, hl']
end
theorem bytes_arr {x : List Int} (h : IsB x) : (x.map (Value.int .u8)).toArray = arr .u8 (x.map Int.toNat) := by
  unfold arr nI
  congr 1
  rw [List.map_map, List.map_map]
  refine List.map_congr_left fun z hz => ?_
  have := (h z hz).1
  simp only [Function.comp_apply]
  rw [Int.toNat_of_nonneg this]
theorem bytes_nat_eq {x y : List Int} (hx : IsB x) (hy : IsB y) : decide (x.map Int.toNat = y.map Int.toNat) = decide (x = y) := by
  by_cases e : x = y
  · subst e; simp
  · rw [decide_eq_false e, decide_eq_false]
    intro h
    have := congrArg Array.toList ((bytes_arr hx).trans ((congrArg (arr .u8) h).trans (bytes_arr hy).symm))
    exact e (List.map_inj_right (fun a b hab => by simpa using hab) |>.1 this)
theorem Try.szNine : (Try.prog.info? 50).map (·.size) = some 9 := by kernel_rfl
theorem zeroNine (w : World) : (zeroValue 50).run Try.prog w = .ok (.agg (nine 0 0 0 0 0 0 0 0 0)) w := by kernel_rfl
set_option maxHeartbeats 800000 in
theorem sBytes_no {s : Sl} (w : World) (hm : maySl s = false) : Calls Try.prog 9 #[.agg #[.int .i64 s.f, .int .i64 s.a.t, .bool s.a.g, .int .i64 s.b.t, .bool s.b.g]] w fun e w' => e = .returned (.tuple #[.slice none 0 0, .int .i64 1]) ∧ Below w.heap.size w w' := by
  have HC : Hid (cSl s = 1) := by show _ = _; simp [cSl, hm]
  go_enter Try.func9, Try.ntmps9
  go_wp2_with fail
  refine (sCheck_any s _).mono ?_
  rintro e w1 ⟨rfl, q1⟩
  rw [HC.out]
  have Q := (below_one w _).trans (q1.mono (by simp))
  go_wp2_with fail
  go_ret2
  exact ⟨rfl, Q⟩
set_option maxHeartbeats 800000 in
theorem sBytes_yes {s : Sl} (w : World) (hm : maySl s = true) : Calls Try.prog 9 #[.agg #[.int .i64 s.f, .int .i64 s.a.t, .bool s.a.g, .int .i64 s.b.t, .bool s.b.g]] w fun e w' => ∃ v, e = .returned (.tuple #[.slice (some ⟨v, 0, none⟩) 9 9, .int .i64 0]) ∧ Row .u8 w' (some ⟨v, 0, none⟩) 9 9 (bytesSl s) ∧ Below w.heap.size w w' := by
  have HC : Hid (cSl s = 0) := by show _ = _; simp [cSl, hm]
  go_enter Try.func9, Try.ntmps9
  go_wp2_with fail
  refine (sCheck_any s _).mono ?_
  rintro e w1 ⟨rfl, q1⟩
  rw [HC.out]
  have Q := (below_one w _).trans (q1.mono (by simp))
  have hs := (sbox_new w s 26).below q1 (by simp)
  have hw : w.heap.size ≤ w1.heap.size := Q.size
  clear q1
  obtain ⟨c0, c1, c2, c3, c4⟩ := hs
  go_wp2_with fail
  refine (sLay_any s _ hm).mono ?_
  rintro e w2 ⟨rfl, q2⟩
  have hl : (bytesSl s).length = 9 := rfl
  have V := Vars.start w2
  have HQ : Hid (Below w.heap.size w w2) := Q.trans (q2.mono hw)
  clear Q q2 c0 c1 c2 c3 c4
  go_wp2_with (first
    | (refine wpList_allocV V 5 50 rfl rfl rfl (nine 0 0 0 0 0 0 0 0 0) zeroNine ?_; intro w3 g3 V3)
    | (refine wpList_storeV V3 0 rfl _ (.tmp 12) rfl rfl rfl ((bytesSl s).map (Value.int .u8)).toArray rfl rfl Try.szNine rfl rfl (all_oneCell_toArray (ints_oneCell _ _)) ?_; intro w4 V4))
  have hh : w4.heap[g3]? = some (.cells ((bytesSl s).map (Value.int .u8)).toArray 50 (0, 0)) := V4.at 0 rfl
  have HR : Hid (Row .u8 w4 (some ⟨g3, 0, none⟩) 9 9 (bytesSl s)) := row_at hh hl
  have HW : Hid (Below w.heap.size w w4) := HQ.out.trans (V4.bel.mono HQ.out.size)
  clear hh V V3 V4 hl
  go_ret2
  exact ⟨_, rfl, HR.out, HW.out⟩
theorem Try.szSl : (Try.prog.info? 26).map (·.size) = some 5 := by kernel_rfl
theorem zeroSl (w : World) : (zeroValue 26).run Try.prog w = .ok (.agg #[.int .i64 0, .int .i64 0, .bool false, .int .i64 0, .bool false]) w := by kernel_rfl
theorem slX_one (f t u : Int) (g h : Bool) : (#[.int .i64 f, .int .i64 t, .bool g, .int .i64 u, .bool h] : Array Value).all (·.oneCell') = true := by simp [Value.oneCell']
theorem bytes_ok {s : Sl} (h : maySl s = true) : IsB (bytesSl s) := by
  have h := maySl_of h
  intro z hz
  simp only [bytesSl, List.mem_cons, List.not_mem_nil, or_false] at hz
  have hb : ∀ b, 0 ≤ bitSo b ∧ bitSo b ≤ 255 := fun b => by cases b <;> decide
  rcases hz with rfl | rfl | rfl | rfl | rfl | rfl | rfl | rfl | rfl <;> first | exact hb _ | omega
theorem no_nine (x : List Int) (h : x.length ≠ 9) : isSl x = false := by simp [isSl, h]
set_option maxHeartbeats 1600000 in
theorem sParse_len {w : World} {a : Option Addr} {n c : Nat} {x : List Int} (hr : Row .u8 w a n c x) (h : n ≠ 9) : Calls Try.prog 23 #[.slice a n c] w fun e w' => e = .returned (.tuple #[.agg #[.int .i64 0, .int .i64 0, .bool false, .int .i64 0, .bool false], .int .i64 4]) ∧ Below w.heap.size w w' := by
  have hmx := hr.hmax
  have hcp := hr.hcap
  unfold maxLen at hmx
  have hne : ((n : Int) != 9) = true := by simp; omega
  go_enter Try.func23, Try.ntmps23
  go_wp2_with fail
  exact bodyPost_ret (v := .tuple #[.agg #[.int .i64 0, .int .i64 0, .bool false, .int .i64 0, .bool false], .int .i64 4]) (by simp [results, Try.results23, go_sem]) rfl ⟨rfl, below_one w _⟩
set_option maxHeartbeats 1600000 in
theorem sParse_nine {w : World} {b off c : Nat} (z : List Int) (x0 x1 x2 x3 f t0 g0 t1 g1 : Int) (hz : z = [x0, x1, x2, x3, f, t0, g0, t1, g1]) (hr : Row .u8 w (some ⟨b, off, none⟩) 9 c z) (hx : IsB z) (s : Sl) (hs : s = ⟨f, ⟨t0, g0 != 0⟩, ⟨t1, g1 != 0⟩⟩) :
    Calls Try.prog 23 #[.slice (some ⟨b, off, none⟩) 9 c] w fun e w' => (maySl s = true → bytesSl s = z → e = .returned (.tuple #[.agg #[.int .i64 s.f, .int .i64 s.a.t, .bool s.a.g, .int .i64 s.b.t, .bool s.b.g], .int .i64 0])) ∧ ((maySl s = true → bytesSl s ≠ z) → e = .returned (.tuple #[.agg #[.int .i64 0, .int .i64 0, .bool false, .int .i64 0, .bool false], .int .i64 4])) ∧ Below w.heap.size w w' := by
  have hmx := hr.hmax
  have hcp := hr.hcap
  unfold maxLen at hmx
  obtain ⟨b', off', hbo, hbs, hcell⟩ := hr.hcell (by omega)
  simp only [Option.some.injEq, Addr.mk.injEq, and_true] at hbo
  obtain ⟨rfl, rfl⟩ := hbo
  have d0 : w.cell? ⟨b, off, none⟩ = some (.int .u8 x0) := by have := hcell 0 (by decide); rw [hz] at this; exact this
  have d1 : w.cell? ⟨b, off + 1, none⟩ = some (.int .u8 x1) := by have := hcell 1 (by decide); rw [hz] at this; exact this
  have d2 : w.cell? ⟨b, off + 2, none⟩ = some (.int .u8 x2) := by have := hcell 2 (by decide); rw [hz] at this; exact this
  have d3 : w.cell? ⟨b, off + 3, none⟩ = some (.int .u8 x3) := by have := hcell 3 (by decide); rw [hz] at this; exact this
  have d4 : w.cell? ⟨b, off + 4, none⟩ = some (.int .u8 f) := by have := hcell 4 (by decide); rw [hz] at this; exact this
  have d5 : w.cell? ⟨b, off + 5, none⟩ = some (.int .u8 t0) := by have := hcell 5 (by decide); rw [hz] at this; exact this
  have d6 : w.cell? ⟨b, off + 6, none⟩ = some (.int .u8 g0) := by have := hcell 6 (by decide); rw [hz] at this; exact this
  have d7 : w.cell? ⟨b, off + 7, none⟩ = some (.int .u8 t1) := by have := hcell 7 (by decide); rw [hz] at this; exact this
  have d8 : w.cell? ⟨b, off + 8, none⟩ = some (.int .u8 g1) := by have := hcell 8 (by decide); rw [hz] at this; exact this
  have HX : Hid (IsB z) := hx
  rw [hz] at hx
  have bf := hx.idx 4
  have bt0 := hx.idx 5
  have bg0 := hx.idx 6
  have bt1 := hx.idx 7
  have bg1 := hx.idx 8
  simp only [List.getElem?_cons_succ, List.getElem?_cons_zero, Option.getD_some] at bf bt0 bg0 bt1 bg1
  have HZ : Hid (z.length = 9) := by subst hz; exact rfl
  have HZL : Hid (z = [x0, x1, x2, x3, f, t0, g0, t1, g1]) := hz
  clear hcell hr hx hz
  go_enter Try.func23, Try.ntmps23
  go_wp2_with (refine wpList_exec rfl (exec_toArr _ rfl Try.underlying50 (by decide) rfl) ?_)
  refine (sRead_s x0 x1 x2 x3 f t0 g0 t1 g1 bf bt0 bt1 s hs _).mono ?_
  rintro e w1 ⟨rfl, q1⟩
  have V1 := (((Vars.start w).new 26 #[.int .i64 0, .int .i64 0, .bool false, .int .i64 0, .bool false]).new 50 #[.int .u8 x0, .int .u8 x1, .int .u8 x2, .int .u8 x3, .int .u8 f, .int .u8 t0, .int .u8 g0, .int .u8 t1, .int .u8 g1]).call q1
  rw [show ∀ o, (w.alloc o).heap.size = w.heap.size + 1 from fun o => by simp] at V1
  clear q1 d0 d1 d2 d3 d4 d5 d6 d7 d8
  generalize w.heap.size + 1 = g4 at *
  have eN : (#[.int .u8 x0, .int .u8 x1, .int .u8 x2, .int .u8 x3, .int .u8 f, .int .u8 t0, .int .u8 g0, .int .u8 t1, .int .u8 g1] : Array Value) = (z.map (Value.int .u8)).toArray := by rw [HZL.out]; rfl
  rw [eN] at V1
  clear eN HZL hs bf bt0 bg0 bt1 bg1
  go_wp2_with (first
    | (refine wpList_allocV V1 5 26 rfl rfl rfl #[.int .i64 0, .int .i64 0, .bool false, .int .i64 0, .bool false] zeroSl ?_; intro w2 g5 V2)
    | (refine wpList_storeV V2 0 rfl _ (.tmp 14) rfl rfl rfl #[.int .i64 s.f, .int .i64 s.a.t, .bool s.a.g, .int .i64 s.b.t, .bool s.b.g] rfl rfl Try.szSl rfl rfl (slX_one _ _ _ _ _) ?_; intro w3 V3))
  replace V3 : Vars w w3 [⟨g5, 26, #[.int .i64 s.f, .int .i64 s.a.t, .bool s.a.g, .int .i64 s.b.t, .bool s.b.g]⟩, ⟨g4, 50, (z.map (Value.int .u8)).toArray⟩, ⟨w.heap.size, 26, #[.int .i64 0, .int .i64 0, .bool false, .int .i64 0, .bool false]⟩] := V3
  clear V1 V2
  refine av_open (fun w' => Vars w w' [⟨g5, 26, #[.int .i64 s.f, .int .i64 s.a.t, .bool s.a.g, .int .i64 s.b.t, .bool s.b.g]⟩, ⟨g4, 50, (z.map (Value.int .u8)).toArray⟩, ⟨w.heap.size, 26, #[.int .i64 0, .int .i64 0, .bool false, .int .i64 0, .bool false]⟩]) (by kernel_rfl) ?_
  replace V3 := V3.drew
  refine held_reads (rs := [0]) (fuel := 8) (by kernel_rfl) (fun c d v a w h => by cases d <;> exact h) (by kernel_rfl) V3 (fun K hK => ?_)
  refine calm_do (.agg #[.int .i64 s.f, .int .i64 s.a.t, .bool s.a.g, .int .i64 s.b.t, .bool s.b.g]) rfl (by rfl) (fun w' hw' => exec_loadT hw' 0 rfl _ rfl rfl Try.underlying26 rfl Try.szSl rfl) ?_
  go_simp
  refine calm_nil (hK.out _ ?_)
  clear hK K
  refine av_op (i := 1) (fuel := 7) (by kernel_rfl) rfl (by rfl) (fun K hK => ?_)
  go_simp
  refine (sCheck_any s _).mono ?_
  rintro e w4 ⟨rfl, q4⟩
  have V4 := V3.call q4
  refine hK _ _ V4 ?_
  clear hK K q4 V3
  cases hm : maySl s
  · have HC : Hid (cSl s = 1) := by show _ = _; simp [cSl, hm]
    rw [HC.out]
    refine held_reads (rs := [2, 3, 4, 5, 6, 7, 8]) (fuel := 0) (by kernel_rfl) (fun c d v a w h => by cases d <;> exact h) (by kernel_rfl) V4 (fun K hK => ?_)
    iterate 7 (first
      | (refine calm_move _ rfl (by rfl) rfl ?_; go_simp)
      | (refine calm_skip rfl (by rfl) ?_; go_simp)
      | (refine calm_do (.bool true) rfl (by rfl) (fun w' hw' => by go_simp) ?_; go_simp))
    refine calm_nil (hK.out _ ?_)
    clear hK K
    refine wpAnyH_done (by kernel_rfl) ?_ _
    go_wp2_with (refine wpList_storeV V4 2 rfl _ (.tmp 24) rfl rfl rfl #[.int .i64 0, .int .i64 0, .bool false, .int .i64 0, .bool false] rfl rfl Try.szSl rfl rfl (slX_one _ _ _ _ _) ?_; intro w5 V5)
    exact bodyPost_ret (resT2 rfl _ V5 2 rfl rfl Try.underlying26 Try.szSl rfl) rfl ⟨fun h => absurd h (by simp [hm]), fun _ => rfl, V5.bel⟩
  · have HC : Hid (cSl s = 0) := by show _ = _; simp [cSl, hm]
    rw [HC.out]
    refine held_reads (rs := [2, 3, 4, 6]) (fuel := 3) (by kernel_rfl) (fun c d v a w h => by cases d <;> exact h) (by kernel_rfl) V4 (fun K hK => ?_)
    refine calm_do (.bool false) rfl (by rfl) (fun w' hw' => ?_) ?_
    · go_simp
    go_simp
    refine calm_move _ rfl (by rfl) rfl ?_
    go_simp
    refine calm_do (.agg #[.int .i64 s.f, .int .i64 s.a.t, .bool s.a.g, .int .i64 s.b.t, .bool s.b.g]) rfl (by rfl) (fun w' hw' => exec_loadT hw' 0 rfl _ rfl rfl Try.underlying26 rfl Try.szSl rfl) ?_
    go_simp
    refine calm_do (.agg (z.map (Value.int .u8)).toArray) rfl (by rfl) (fun w' hw' => exec_loadT hw' 1 rfl _ rfl rfl Try.underlying50 rfl Try.szNine (by simp [HZ.out])) ?_
    go_simp
    refine calm_nil (hK.out _ ?_)
    clear hK K
    refine av_op (i := 5) (fuel := 2) (by kernel_rfl) rfl (by rfl) (fun K hK => ?_)
    go_simp
    refine (sLay_any s _ hm).mono ?_
    rintro e w5 ⟨rfl, q5⟩
    have V5 := V4.call q5
    refine hK _ _ V5 ?_
    clear hK K q5 V4
    by_cases he : bytesSl s = z
    · have HE : Hid (decide ((bytesSl s).map Int.toNat = z.map Int.toNat) = !false) := by show _ = _; rw [he]; simp
      refine held_reads (rs := [7, 8]) (fuel := 0) (by kernel_rfl) (fun c d v a w h => by cases d <;> exact h) (by kernel_rfl) V5 (fun K hK => ?_)
      refine calm_do (.bool false) rfl (by rfl) (fun w' hw' => exec_neqV 50 _ (.tmp 20) (.tmp 21) rfl ((bytesSl s).map Int.toNat) (z.map Int.toNat) false HE.out (congrArg Value.agg (bytes_arr (bytes_ok hm))) (congrArg Value.agg (bytes_arr HX.out)) (by kernel_rfl) Try.underlying50 Try.underlying5 (by kernel_rfl) (by simp [bytesSl]) (by simp [HZ.out])) ?_
      go_simp
      refine calm_do (.bool false) rfl (by rfl) (fun w' hw' => ?_) ?_
      · go_simp
      go_simp
      refine calm_nil (hK.out _ ?_)
      clear hK K
      refine wpAnyH_done (by kernel_rfl) ?_ _
      go_wp2_with (first
        | (refine wpList_exec rfl (exec_loadT V5 0 rfl _ rfl rfl Try.underlying26 rfl Try.szSl rfl) ?_)
        | (refine wpList_storeV V5 2 rfl _ (.tmp 25) rfl rfl rfl #[.int .i64 s.f, .int .i64 s.a.t, .bool s.a.g, .int .i64 s.b.t, .bool s.b.g] rfl rfl Try.szSl rfl rfl (slX_one _ _ _ _ _) ?_; intro w6 V6))
      exact bodyPost_ret (resT2 rfl _ V6 2 rfl rfl Try.underlying26 Try.szSl rfl) rfl ⟨fun _ _ => rfl, fun h => absurd he (h hm), V6.bel⟩
    · have HE : Hid (decide ((bytesSl s).map Int.toNat = z.map Int.toNat) = !true) := by show _ = _; rw [bytes_nat_eq (bytes_ok hm) HX.out, decide_eq_false he]; rfl
      refine held_reads (rs := [7, 8]) (fuel := 0) (by kernel_rfl) (fun c d v a w h => by cases d <;> exact h) (by kernel_rfl) V5 (fun K hK => ?_)
      refine calm_do (.bool true) rfl (by rfl) (fun w' hw' => exec_neqV 50 _ (.tmp 20) (.tmp 21) rfl ((bytesSl s).map Int.toNat) (z.map Int.toNat) true HE.out (congrArg Value.agg (bytes_arr (bytes_ok hm))) (congrArg Value.agg (bytes_arr HX.out)) (by kernel_rfl) Try.underlying50 Try.underlying5 (by kernel_rfl) (by simp [bytesSl]) (by simp [HZ.out])) ?_
      go_simp
      refine calm_do (.bool true) rfl (by rfl) (fun w' hw' => ?_) ?_
      · go_simp
      go_simp
      refine calm_nil (hK.out _ ?_)
      clear hK K
      refine wpAnyH_done (by kernel_rfl) ?_ _
      go_wp2_with (refine wpList_storeV V5 2 rfl _ (.tmp 24) rfl rfl rfl #[.int .i64 0, .int .i64 0, .bool false, .int .i64 0, .bool false] rfl rfl Try.szSl rfl rfl (slX_one _ _ _ _ _) ?_; intro w6 V6)
      exact bodyPost_ret (resT2 rfl _ V6 2 rfl rfl Try.underlying26 Try.szSl rfl) rfl ⟨fun _ h => absurd h he, fun _ => rfl, V6.bel⟩
end Go.Proofs.Ytagppgdigabbmaa.N
