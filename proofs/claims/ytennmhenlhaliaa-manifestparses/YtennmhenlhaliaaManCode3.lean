/-
  The code of layer 20 (manifest), as it landed: Bytes.
-/
import Derived.Test.YtennmhenlhaliaaManCode2
namespace Go.Proofs.Ytennmhenlhaliaa.N
open Go.RowKit
set_option linter.unusedVariables false
set_option maxRecDepth 8192

theorem run_sliceDig {P : Program} (t e : TypeId) (n : Nat) (hu : P.underlying t = some (.array n e)) (he : (P.info? e).map (·.size) = some 1) (b o : Nat) (h3 : 0 < n) (w : World) :
    (Instr.sliceAt t (.pointer (some ⟨b, o, none⟩)) none none none).run P w = .ok (.slice (some ⟨b, o, none⟩) n n) w := by
  have hal : P.arrayLen t = n := by simp [Program.arrayLen, hu]
  have hel : P.elem t = e := by simp [Program.elem, hu]
  obtain ⟨inf, hq, hs⟩ := Option.map_eq_some_iff.1 he
  rw [run_sliceAt_array_all w t ⟨b, o, none⟩ (by rw [hal, hel]; exact hu)]
  rw [hal, hel]
  simp [sizeOf, typeInfo, hq, hs, slicedAt, show ¬ n = 0 by omega, plain_add]
theorem Try.szU8 : (Try.prog.info? 5).map (·.size) = some 1 := by kernel_rfl
theorem exec_sliceDig {a : Act} {o : Oper} {w : World} (g k : Nat) (x : Operand) (ho : o.op = .slice 43 x none none none) (hx : a.eval x = .pointer (some ⟨g, k, none⟩)) :
    (execOp a.eval o).run Try.prog w = .ok (.value (.slice (some ⟨g, k, none⟩) 32 32)) w := by
  unfold execOp
  simp only [ho, hx, Option.map_none, run_sliceDig 43 5 32 Try.underlying43 Try.szU8 g k (by decide) w, Sem.run_bind, Sem.run_pure, Result.andThen_ok]
theorem sgs_take (l : List Sg) (k : Nat) (h : k < l.length) : (l.take (k + 1)).flatMap sgBytes = (l.take k).flatMap sgBytes ++ sgBytes (sgI l k) := by
  rw [List.take_add_one, List.getElem?_eq_getElem h, sgI_lt h, List.flatMap_append]
  simp only [Option.toList, List.flatMap_cons, List.flatMap_nil, List.append_nil]
theorem nums_two (x y : Int) : nums [x, y] = four x ++ four y := by simp [nums]
theorem own_new {w w' : World} {B g : Nat} {T : TypeId} {z : List Int} {k : IntKind} (h : w.heap[g]? = some (.cells (z.map (Value.int k)).toArray T (0, 0))) (hB : B ≤ g) {n : Nat} (hn : z.length = n) (hm : n ≤ 1000) :
    w.ownsRow B T 1 (.slice (some ⟨g, 0, none⟩) n n) n (z.map (Value.int k)) :=
  owns_of_heap h (by rw [List.length_map, hn]) hB (by unfold maxLen; omega)
set_option maxHeartbeats 1600000 in
theorem mBytes_no {v s k e : Int} {a : Option Addr} {n cap : Nat} {l : List Sg} {w : World} (hr : SegRow w a n cap l) (ho : ∀ s ∈ l, s.Ok) (hm : mayM ⟨v, s, k, e, l⟩ = false) :
    Calls Try.prog 8 #[.agg #[.int .i64 v, .int .i64 s, .int .i64 k, .int .i64 e, .slice a n cap]] w fun e' w' => e' = .returned (.tuple #[.slice none 0 0, .int .i64 1]) ∧ Below w.heap.size w w' := by
  go_enter Try.func8, Try.ntmps8
  go_wp2_with fail
  have q0 := below_one w (.cells #[.int .i64 v, .int .i64 s, .int .i64 k, .int .i64 e, .slice a n cap] 24)
  have hr1 := hr.below q0 (Nat.le_refl _)
  have h := mayBe_any (v := v) (s := s) (k := k) (e := e) hr1 ho
  rw [hm] at h
  generalize w.alloc (.cells #[.int .i64 v, .int .i64 s, .int .i64 k, .int .i64 e, .slice a n cap] 24) = w1 at *
  refine h.mono ?_
  rintro e' w2 ⟨rfl, q1⟩
  have HQ : Hid (Below w.heap.size w w2) := btrans q0 q1
  clear q0 q1 h hr1 hr hm
  go_wp2_with fail
  go_ret2
  exact ⟨rfl, HQ.out⟩
set_option maxHeartbeats 3200000 in
theorem mBytes_yes {v s k e : Int} {a : Option Addr} {n cap : Nat} {l : List Sg} {w : World} (hr : SegRow w a n cap l) (ho : ∀ s ∈ l, s.Ok) (hm : mayM ⟨v, s, k, e, l⟩ = true) :
    Calls Try.prog 8 #[.agg #[.int .i64 v, .int .i64 s, .int .i64 k, .int .i64 e, .slice a n cap]] w fun e' w' => ∃ u, e' = .returned (.tuple #[u, .int .i64 0]) ∧ w'.ownsRow w.heap.size 5 1 u (24 + 40 * n) ((mfBytes ⟨v, s, k, e, l⟩).map (Value.int .u8)) ∧ Below w.heap.size w w' := by
  obtain ⟨i0, hi0, hz0, hz1, hz2⟩ := info_parts Try.info5
  have HL : Hid (l.length = n) := hr.hlen
  have M := mayM_yes hm
  have hn8 : n ≤ 8 := by rw [← HL.out]; exact M.n
  have mc := hr.hcap
  have mm := hr.hmax
  unfold maxLen at mm
  have HA : Hid (ahead ⟨v, s, k, e, l⟩ = mani ++ nums [v, s, k, e, (n : Int)]) := by show _ = _; rw [← HL.out]; rfl
  have HB : Hid (mfBytes ⟨v, s, k, e, l⟩ = ahead ⟨v, s, k, e, l⟩ ++ l.flatMap sgBytes) := rfl
  have HM : Hid (MayM ⟨v, s, k, e, l⟩) := M
  go_enter Try.func8, Try.ntmps8
  go_wp2_with fail
  have q0 := below_one w (.cells #[.int .i64 v, .int .i64 s, .int .i64 k, .int .i64 e, .slice a n cap] 24)
  have V0 := (Vars.start w).new 24 #[.int .i64 v, .int .i64 s, .int .i64 k, .int .i64 e, .slice a n cap]
  have hr1 := hr.below q0 (Nat.le_refl _)
  have h := mayBe_any (v := v) (s := s) (k := k) (e := e) hr1 ho
  rw [hm] at h
  generalize w.alloc (.cells #[.int .i64 v, .int .i64 s, .int .i64 k, .int .i64 e, .slice a n cap] 24) = w1 at *
  refine h.mono ?_
  rintro e' w2 ⟨rfl, q1⟩
  have V1 := V0.call q1
  have V2 := V1.call (below_one w2 (.cells #[.int .u8 109, .int .u8 97, .int .u8 110, .int .u8 105] 5 (4, 5)))
  have hg := V2.at 0 rfl
  have c0 := man_c hg 0
  have c1 := man_c hg 1
  have c2 := man_c hg 2
  have c3 := man_c hg 3
  have c4 := man_c hg 4
  have kc := Lib.run_convert_bytes_const (P := Try.prog) w2 25 5 #[.int .u8 109, .int .u8 97, .int .u8 110, .int .u8 105] 4 4 Try.underlying25 Try.underlying5
  have qm := below_one w2 (.cells #[.int .u8 109, .int .u8 97, .int .u8 110, .int .u8 105] 5 (4, 5))
  have ro := row_marked .u8 w2 5 (4, 5) mani 4 rfl (by unfold maxLen; omega) #[.int .u8 109, .int .u8 97, .int .u8 110, .int .u8 105] rfl
  clear q0 q1 h hr1 hm V0 hg
  go_wp2_with fail
  clear c0 c1 c2 c3 c4 kc qm V1
  have V3 := V2.new 3 #[.int .i64 v, .int .i64 s, .int .i64 k, .int .i64 e, .int .i64 (n : Int)]
  have es : (w2.alloc (.cells #[.int .u8 109, .int .u8 97, .int .u8 110, .int .u8 105] 5 (4, 5))).heap.size = w2.heap.size + 1 := by simp
  rw [es] at V3
  have ro3 := ro.below (below_one _ (.cells #[.int .i64 v, .int .i64 s, .int .i64 k, .int .i64 e, .int .i64 (n : Int)] 3)) (Nat.le_refl _)
  clear es V2 ro
  generalize (w2.alloc (.cells #[.int .u8 109, .int .u8 97, .int .u8 110, .int .u8 105] 5 (4, 5))).alloc (.cells #[.int .i64 v, .int .i64 s, .int .i64 k, .int .i64 e, .int .i64 (n : Int)] 3) = w3 at *
  have h0 : ∀ i, i < 5 → 0 ≤ [v, s, k, e, (n : Int)][i]?.getD 0 ∧ [v, s, k, e, (n : Int)][i]?.getD 0 ≤ 2147483647 := fun i hi => by
    rcases (show i = 0 ∨ i = 1 ∨ i = 2 ∨ i = 3 ∨ i = 4 by omega) with rfl | rfl | rfl | rfl | rfl
    · exact M.v
    · exact M.s
    · exact M.k
    · exact M.e
    · show 0 ≤ (n : Int) ∧ (n : Int) ≤ 2147483647
      omega
  refine (lay_any (B := w.heap.size) (t := 0) (.inr ⟨rfl, by decide, _, rfl, ro3⟩) V3.size (V3.at 0 rfl) (z := [v, s, k, e, (n : Int)]) (n := 5) rfl (by decide) (by decide) (by decide) h0).mono ?_
  rintro e' w4 ⟨u4, rfl, own4, q4, kp4⟩
  rw [← HA.out] at own4
  have Q4 : Below w.heap.size w w4 := V3.bel.trans q4
  have hm4 := kp4 _ _ _ (by decide) (V3.at 1 rfl)
  have c4 : w4.cell? ⟨w.heap.size, 4, none⟩ = some (.slice a n cap) := man_c hm4 4
  clear hm4 q4 kp4 V3 ro3 h0 M
  generalize ahead ⟨v, s, k, e, l⟩ = A at *
  go_wp2_with fail
  clear c4
  go_loopw [4, 28] (fun u i wr => ∃ j : Nat, j ≤ n ∧ i = .int .i64 (j : Int) ∧ wr.ownsRow w.heap.size 5 1 u (24 + 40 * j) ((A ++ (l.take j).flatMap sgBytes).map (Value.int .u8)) ∧ Below w.heap.size w wr) (fun _ i _ => n - (RowKit.intOf i).toNat)
  case atStart => exact ⟨0, Nat.zero_le _, rfl, by simpa using own4, Q4⟩
  case round =>
    clear own4 Q4
    obtain ⟨j, hj, rfl, own, q⟩ := hrel
    by_cases hlt : j < n
    · obtain ⟨b, off, rfl, hbs, hcell⟩ := (hr.below q (Nat.le_refl _)).hcell (by omega)
      have hx := hcell j hlt
      have hs := sgI_ok ho j
      have hjl : j < l.length := by rw [HL.out]; exact hlt
      have hb := HM.out.seg hjl
      have HT : Hid (A ++ (l.take (j + 1)).flatMap sgBytes = (A ++ (l.take j).flatMap sgBytes) ++ sgBytes (sgI l j)) := by show _ = _; rw [sgs_take l j hjl, List.append_assoc]
      replace hb : 0 ≤ (sgI l j).load ∧ (sgI l j).load ≤ 2147483647 ∧ 0 ≤ (sgI l j).size ∧ (sgI l j).size ≤ 1048576 := hb
      clear hcell hjl
      generalize sgI l j = x at *
      generalize A ++ (l.take j).flatMap sgBytes = D at *
      have hlt' : (j : Int) < (n : Int) := by omega
      have V0 := Vars.start wr
      go_wp2_with (first
        | (refine wpList_load_mid rfl 45 _ rfl b (off + j * 34) rfl (sC x) _ hx Try.underlying45 rfl (by rw [sC_len hs]; exact Try.szSg) ?_)
        | (refine wpList_allocV V0 6 45 rfl rfl rfl (sA sg0) zeroSg ?_; intro w5 g5 V5)
        | (refine wpList_storeV V5 0 rfl _ (.tmp 31) rfl rfl rfl (sA x) rfl rfl Try.szSg (sA_size sg0_ok) (sA_size hs) (sA_one x) ?_; intro w6 V6))
      have own6 := (own_below own V6.bel).drew
      have q6 := (btrans q V6.bel).drew
      replace V6 := V6.drew
      clear own q hx V5 V0
      refine av_open (fun w' => w'.heap[g5]? = some (.cells (sA x) 45 (0, 0))) (by kernel_rfl) ?_
      refine held_reads (rs := [0, 1, 2, 3, 4, 7, 8]) (fuel := 4) (by kernel_rfl) (fun c d v a w h => by cases d <;> exact h) (by kernel_rfl) (V6.at 0 rfl) (fun K hK => ?_)
      refine calm_move _ rfl (by rfl) rfl ?_
      go_simp
      refine calm_do (.pointer (some ⟨g5, 0, none⟩)) rfl (by rfl) (fun w' hw' => ?_) ?_
      · go_simp
      go_simp
      refine calm_do (.int .i64 x.load) rfl (by rfl) (fun w' hw' => ?_) ?_
      · have c0 := sg_c0 hw'
        go_simp
      go_simp
      refine calm_do (.pointer (some ⟨g5, 1, none⟩)) rfl (by rfl) (fun w' hw' => ?_) ?_
      · go_simp
      go_simp
      refine calm_do (.int .i64 x.size) rfl (by rfl) (fun w' hw' => ?_) ?_
      · have c0 := sg_c1 hw'
        go_simp
      go_simp
      refine calm_do (.pointer (some ⟨g5, 2, none⟩)) rfl (by rfl) (fun w' hw' => ?_) ?_
      · go_simp
      go_simp
      refine calm_do (.slice (some ⟨g5, 2, none⟩) 32 32) rfl (by rfl) (fun w' hw' => exec_sliceDig g5 2 _ rfl rfl) ?_
      go_simp
      refine calm_nil (hK.out _ ?_)
      clear hK K
      generalize w6.drew = w7 at *
      refine av_op (i := 5) (fuel := 3) (by kernel_rfl) rfl (by rfl) (fun K hK => ?_)
      have V8 := V6.new 3 #[.int .i64 x.load, .int .i64 x.size]
      have own8 := own6.alloc (.cells #[.int .i64 x.load, .int .i64 x.size] 3)
      have q8 := q6.alloc q6.size (.cells #[.int .i64 x.load, .int .i64 x.size] 3)
      go_simp
      refine hK _ _ (V8.at 1 rfl) ?_
      clear hK K own6 q6 V6
      generalize w7.alloc (.cells #[.int .i64 x.load, .int .i64 x.size] 3) = w8 at *
      refine av_op (i := 6) (fuel := 2) (by kernel_rfl) rfl (by rfl) (fun K hK => ?_)
      go_simp
      have h0 : ∀ i, i < 2 → 0 ≤ [x.load, x.size][i]?.getD 0 ∧ [x.load, x.size][i]?.getD 0 ≤ 2147483647 := fun i hi => by
        rcases (show i = 0 ∨ i = 1 by omega) with rfl | rfl
        · exact ⟨hb.1, hb.2.1⟩
        · show 0 ≤ x.size ∧ x.size ≤ 2147483647
          omega
      refine (lay_any (B := w.heap.size) (t := 0) (.inl own8) q8.size (V8.at 0 rfl) (z := [x.load, x.size]) (n := 2) rfl (by decide) (by decide) (by omega) h0).mono ?_
      rintro e' w9 ⟨u9, rfl, own9, q9, kp9⟩
      have hg9 := kp9 _ _ _ (by decide) (V8.at 1 rfl)
      refine hK _ _ hg9 ?_
      clear hK K V8 own8 kp9 h0
      replace q8 := q8.trans q9
      clear q9
      have rd := sg_dig hs hg9
      refine av_op (i := 9) (fuel := 1) (by kernel_rfl) rfl (by rfl) (fun K hK => ?_)
      refine wp_append_gr _ _ 25 rfl w.heap.size 5 i0 (.int .u8 0) Try.underlying25 hi0 hz0 hz1 hz2 rfl rfl own9 (some ⟨g5, 2, none⟩) 32 32 x.dig rfl rd (by decide) (by omega) q8.size ?_
      intro v10 w10 own10 q10 kp10
      have hg10 := kp10 _ _ _ (by decide) hg9
      refine hK _ _ hg10 ?_
      clear hK K own9 kp10 rd hg9
      rw [nums_two, List.append_assoc, List.append_assoc] at own10
      replace own10 : w10.ownsRow w.heap.size 5 1 v10 (24 + 40 * (j + 1)) ((D ++ sgBytes x).map (Value.int .u8)) := by
        rw [show 24 + 40 * (j + 1) = 24 + 40 * j + 4 * 2 + 32 by omega]
        exact own10
      rw [← HT.out] at own10
      replace q8 := q8.trans q10
      clear q10
      refine held_reads (rs := [10]) (fuel := 0) (by kernel_rfl) (fun c d v a w h => by cases d <;> exact h) (by kernel_rfl) hg10 (fun K hK => ?_)
      go_simp
      refine calm_assign _ rfl (by rfl) rfl ?_
      go_simp
      refine calm_nil (hK.out _ ?_)
      clear hK K
      refine wpAnyH_done (by kernel_rfl) ?_ _
      go_wp2_with fail
      go_roundw
      case rel => exact ⟨j + 1, by omega, by go_num, own10, q8⟩
      case measure => simp [RowKit.intOf]; omega
    · obtain rfl : j = n := by omega
      rw [List.take_of_length_le (by rw [HL.out]; exact Nat.le_refl _), ← HB.out] at own
      go_wp2_with fail
      go_ret2
      exact ⟨_, rfl, own, q⟩
end Go.Proofs.Ytennmhenlhaliaa.N
