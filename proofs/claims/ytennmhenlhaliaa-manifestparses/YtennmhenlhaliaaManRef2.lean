/-
  The document's answer of layer 20 (casemateref20): Bytes.
-/
import Derived.Test.YtennmhenlhaliaaManCode3
import Derived.Test.YtennmhenlhaliaaHeadFour
namespace Go.Proofs.Ytennmhenlhaliaa.N
open Go.RowKit
set_option linter.unusedVariables false
set_option maxRecDepth 8192

theorem Gr.below {B : Nat} {e : TypeId} {w w' : World} {v : Value} {t m : Nat} {D : List Int} (h : Gr B e w v t m D) (q : Below w.heap.size w w') : Gr B e w' v t m D := by
  rcases h with h | ⟨h0, hm, a, rfl, r⟩
  · exact .inl (own_below h q)
  · exact .inr ⟨h0, hm, a, rfl, r.below q (Nat.le_refl _)⟩
set_option maxHeartbeats 3200000 in
theorem refBytes20_any {v s k e : Int} {a : Option Addr} {n cap : Nat} {l : List Sg} {w : World} (hr : SegRow w a n cap l) (ho : ∀ s ∈ l, s.Ok) (hm : mayM ⟨v, s, k, e, l⟩ = true) :
    Calls Try.prog 11 #[.agg #[.int .i64 v, .int .i64 s, .int .i64 k, .int .i64 e, .slice a n cap]] w fun e' w' => ∃ u, e' = .returned u ∧ w'.ownsRow w.heap.size 5 1 u (24 + 40 * n) ((mfBytes ⟨v, s, k, e, l⟩).map (Value.int .u8)) ∧ Below w.heap.size w w' := by
  obtain ⟨i0, hi0, hz0, hz1, hz2⟩ := info_parts Try.info5
  have HL : Hid (l.length = n) := hr.hlen
  have M := mayM_yes hm
  have hn8 : n ≤ 8 := by rw [← HL.out]; exact M.n
  have mc := hr.hcap
  have mm := hr.hmax
  unfold maxLen at mm
  have HA : Hid (ahead ⟨v, s, k, e, l⟩ = mani ++ nums [v, s, k, e, (n : Int)]) := by show _ = _; rw [← HL.out]; rfl
  have HB : Hid (mfBytes ⟨v, s, k, e, l⟩ = ahead ⟨v, s, k, e, l⟩ ++ l.flatMap sgBytes) := rfl
  have HM : Hid (MayM ⟨v, s, k, e, l⟩) := M
  have h0 : ∀ i, i < 5 → 0 ≤ [v, s, k, e, (n : Int)][i]?.getD 0 ∧ [v, s, k, e, (n : Int)][i]?.getD 0 ≤ 2147483647 := fun i hi => by
    rcases (show i = 0 ∨ i = 1 ∨ i = 2 ∨ i = 3 ∨ i = 4 by omega) with rfl | rfl | rfl | rfl | rfl
    · exact M.v
    · exact M.s
    · exact M.k
    · exact M.e
    · show 0 ≤ (n : Int) ∧ (n : Int) ≤ 2147483647
      omega
  have H0 : Hid _ := h0
  clear h0 M hm
  have V1 := (Vars.start w).new 24 #[.int .i64 v, .int .i64 s, .int .i64 k, .int .i64 e, .slice a n cap]
  go_enter Try.func11, Try.ntmps11
  have es1 : (w.alloc (.cells #[.int .i64 v, .int .i64 s, .int .i64 k, .int .i64 e, .slice a n cap] 24)).heap.size = w.heap.size + 1 := by simp
  have kc := Lib.run_convert_bytes_const (P := Try.prog) (w.alloc (.cells #[.int .i64 v, .int .i64 s, .int .i64 k, .int .i64 e, .slice a n cap] 24)) 25 5 #[.int .u8 109, .int .u8 97, .int .u8 110, .int .u8 105] 4 4 Try.underlying25 Try.underlying5
  have ro := row_marked .u8 (w.alloc (.cells #[.int .i64 v, .int .i64 s, .int .i64 k, .int .i64 e, .slice a n cap] 24)) 5 (4, 5) mani 4 rfl (by unfold maxLen; omega) #[.int .u8 109, .int .u8 97, .int .u8 110, .int .u8 105] rfl
  have V2 := V1.call (below_one (w.alloc (.cells #[.int .i64 v, .int .i64 s, .int .i64 k, .int .i64 e, .slice a n cap] 24)) (.cells #[.int .u8 109, .int .u8 97, .int .u8 110, .int .u8 105] 5 (4, 5)))
  rw [es1] at kc ro
  have hg := V2.at 0 rfl
  have c0 : World.cell? _ ⟨w.heap.size, 0, none⟩ = some (.int .i64 v) := man_c hg 0
  have c1 : World.cell? _ ⟨w.heap.size, 1, none⟩ = some (.int .i64 s) := man_c hg 1
  have c2 : World.cell? _ ⟨w.heap.size, 2, none⟩ = some (.int .i64 k) := man_c hg 2
  have c3 : World.cell? _ ⟨w.heap.size, 3, none⟩ = some (.int .i64 e) := man_c hg 3
  have c4 : World.cell? _ ⟨w.heap.size, 4, none⟩ = some (.slice a n cap) := man_c hg 4
  clear hg V1
  go_wp2_with fail
  clear kc c0 c1 c2 c3 c4
  have V3 := V2.new 3 #[.int .i64 v, .int .i64 s, .int .i64 k, .int .i64 e, .int .i64 (n : Int)]
  have ro3 := ro.below (below_one _ (.cells #[.int .i64 v, .int .i64 s, .int .i64 k, .int .i64 e, .int .i64 (n : Int)] 3)) (Nat.le_of_eq (by simp))
  simp only [World.size_alloc] at V3
  clear V2 ro es1
  generalize ((w.alloc (.cells #[.int .i64 v, .int .i64 s, .int .i64 k, .int .i64 e, .slice a n cap] 24)).alloc (.cells #[.int .u8 109, .int .u8 97, .int .u8 110, .int .u8 105] 5 (4, 5))).alloc (.cells #[.int .i64 v, .int .i64 s, .int .i64 k, .int .i64 e, .int .i64 (n : Int)] 3) = w3 at *
  have HBOX : Hid (w3.heap[w.heap.size]? = some (.cells #[.int .i64 v, .int .i64 s, .int .i64 k, .int .i64 e, .slice a n cap] 24 (0, 0))) := V3.at 1 rfl
  have hzz : w3.heap[w.heap.size + 1 + 1]? = some (.cells ([v, s, k, e, (n : Int)].map (Value.int .i64)).toArray 3 (0, 0)) := V3.at 0 rfl
  have q3 := V3.bel
  clear V3
  generalize hzs : [v, s, k, e, (n : Int)] = zs at *
  have HZL : Hid (zs.length = 5) := by rw [← hzs]; rfl
  clear hzs
  go_loopw [3, 5] (fun out i wr => ∃ j : Nat, j ≤ 5 ∧ i = .int .i64 (j : Int) ∧ Gr w.heap.size 5 wr out j (4 + 4 * j) (mani ++ nums (zs.take j)) ∧ Below w.heap.size w wr ∧ Keeps 5 w3 wr) (fun _ i _ => 5 - (RowKit.intOf i).toNat)
  case atStart => exact ⟨0, by decide, rfl, .inr ⟨rfl, by decide, _, rfl, by simpa [nums] using ro3⟩, q3, Keeps.refl _ _⟩
  case round =>
    clear ro3 q3
    obtain ⟨j, hj, rfl, gr, q, kp⟩ := hrel
    by_cases hlt : j < 5
    · have hx := H0.out j hlt
      have hjl : j < zs.length := by rw [HZL.out]; exact hlt
      have ck := man_c (kp _ _ _ (by decide) hzz) j
      have ez : (zs.map (Value.int .i64)).toArray[j]? = some (.int .i64 (zs[j]?.getD 0)) := by simp [List.getElem?_eq_getElem hjl]
      rw [ez] at ck
      have HX : Hid (mani ++ nums (zs.take (j + 1)) = (mani ++ nums (zs.take j)) ++ four (zs[j]?.getD 0)) := by show _ = _; rw [nums_take zs j hjl, List.append_assoc]
      clear ez
      generalize zs[j]?.getD 0 = x at *
      generalize mani ++ nums (zs.take j) = E at *
      have hlt' : (j : Int) < 5 := by omega
      go_wp2_with fail
      refine (refFour_any x wr hx.1 (by omega)).mono ?_
      rintro e' w4 ⟨v4, rfl, own4, q4⟩
      obtain ⟨a4, c4, rfl, r4⟩ := row_of_owns own4
      have gr4 := gr.below q4
      have kp4 := kp.trans (Keeps.below q4)
      have qq4 := btrans q q4
      clear gr own4 ck kp q q4
      go_wp2_with (at_builtin; refine wpList_append_gr _ rfl _ _ 25 rfl w.heap.size 5 i0 (.int .u8 0) Try.underlying25 hi0 hz0 hz1 hz2 rfl rfl gr4 a4 4 c4 _ rfl r4 (by decide) (by omega) qq4.size ?_)
      intro v5 w5 own5 q5 kp5
      have own5' : w5.ownsRow w.heap.size 5 1 v5 (4 + 4 * j + 4) ((E ++ four x).map (Value.int .u8)) := by rw [List.map_append]; simpa using own5
      rw [← HX.out, show 4 + 4 * j + 4 = 4 + 4 * (j + 1) by omega] at own5'
      have kp6 := kp4.trans kp5
      have qq6 := qq4.trans q5
      clear own5 gr4 r4 kp4 qq4 kp5 q5
      go_wp2_with fail
      go_roundw
      case rel => exact ⟨j + 1, by omega, by go_num, .inl own5', qq6, kp6⟩
      case measure => simp [RowKit.intOf]; omega
    · have own := gr.own (by omega)
      rw [show 4 + 4 * j = 24 by omega, List.take_of_length_le (by rw [HZL.out]; omega), ← HA.out] at own
      have hlt5 : ¬ (j : Int) < 5 := by omega
      clear gr hj hlt
      generalize ahead ⟨v, s, k, e, l⟩ = A at *
      go_wp2_with fail
      go_loopw [3, 6] (fun out i ws => ∃ j : Nat, j ≤ n ∧ i = .int .i64 (j : Int) ∧ ws.ownsRow w.heap.size 5 1 out (24 + 40 * j) ((A ++ (l.take j).flatMap sgBytes).map (Value.int .u8)) ∧ Below w.heap.size w ws ∧ Keeps 5 w3 ws) (fun _ i _ => n - (RowKit.intOf i).toNat)
      case atStart => exact ⟨0, Nat.zero_le _, rfl, by simpa using own, q, kp⟩
      case round =>
        clear own q kp
        obtain ⟨j, hj, rfl, own, q, kp⟩ := hrel
        have c4 : wr.cell? ⟨w.heap.size, 4, none⟩ = some (.slice a n cap) := man_c (kp _ _ _ (by decide) HBOX.out) 4
        by_cases hlt : j < n
        · obtain ⟨b, off, rfl, hbs, hcell⟩ := (hr.below q (Nat.le_refl _)).hcell (by omega)
          have hx := hcell j hlt
          have hs := sgI_ok ho j
          have hjl : j < l.length := by rw [HL.out]; exact hlt
          have hb : 0 ≤ (sgI l j).load ∧ (sgI l j).load ≤ 2147483647 ∧ 0 ≤ (sgI l j).size ∧ (sgI l j).size ≤ 1048576 := HM.out.seg hjl
          have HT : Hid (A ++ (l.take (j + 1)).flatMap sgBytes = (A ++ (l.take j).flatMap sgBytes) ++ sgBytes (sgI l j)) := by show _ = _; rw [sgs_take l j hjl, List.append_assoc]
          clear hcell hjl
          generalize sgI l j = x at *
          generalize A ++ (l.take j).flatMap sgBytes = D at *
          have hlt' : (j : Int) < (n : Int) := by omega
          have V0 := Vars.start wr
          go_wp2_with (first
            | (refine wpList_load_mid rfl 45 _ rfl b (off + j * 34) rfl (sC x) _ hx Try.underlying45 rfl (by rw [sC_len hs]; exact Try.szSg) ?_)
            | (refine wpList_allocV V0 7 45 rfl rfl rfl (sA sg0) zeroSg ?_; intro w5 g5 V5)
            | (refine wpList_storeV V5 0 rfl _ (.tmp 46) rfl rfl rfl (sA x) rfl rfl Try.szSg (sA_size sg0_ok) (sA_size hs) (sA_one x) ?_; intro w6 V6; have d0 := sg_c0 (V6.at 0 rfl)))
          have own6 := own_below own V6.bel
          have q6 := btrans q V6.bel
          have kp6 := kp.trans (Keeps.below V6.bel)
          have hg6 := V6.at 0 rfl
          clear own q kp hx V5 V0 V6 c4
          refine (refFour_any x.load w6 hb.1 (by omega)).mono ?_
          rintro e' w7 ⟨v7, rfl, own7, q7⟩
          obtain ⟨a7, c7, rfl, r7⟩ := row_of_owns own7
          replace own6 := own_below own6 q7
          replace q6 := btrans q6 q7
          replace kp6 := kp6.trans (Keeps.below q7)
          have hg7 : w7.heap[g5]? = some (.cells (sA x) 45 (0, 0)) := by rw [q7.block _ (lt_of_heap hg6)]; exact hg6
          clear d0 own7 q7 hg6
          go_wp2_with (at_builtin; refine wpList_append_gr _ rfl _ _ 25 rfl w.heap.size 5 i0 (.int .u8 0) Try.underlying25 hi0 hz0 hz1 hz2 rfl rfl (tt := 0) (.inl own6) a7 4 c7 _ rfl r7 (by decide) (by omega) q6.size ?_)
          intro v8 w8 own8 q8 kp8
          replace q6 := q6.trans q8
          replace kp6 := kp6.trans kp8
          have hg8 := kp8 _ _ _ (by decide) hg7
          have d1 := sg_c1 hg8
          clear own6 r7 q8 kp8 hg7
          replace own8 : w8.ownsRow w.heap.size 5 1 v8 (24 + 40 * j + 4) ((D ++ four x.load).map (Value.int .u8)) := by rw [List.map_append]; simpa using own8
          have HE : Hid (A ++ (l.take (j + 1)).flatMap sgBytes = ((D ++ four x.load) ++ four x.size) ++ x.dig) := by show _ = _; rw [HT.out]; unfold sgBytes; simp only [List.append_assoc]
          clear HT
          generalize D ++ four x.load = D1 at *
          go_wp2_with fail
          refine (refFour_any x.size w8 hb.2.2.1 (by omega)).mono ?_
          rintro e' w9 ⟨v9, rfl, own9, q9⟩
          obtain ⟨a9, c9, rfl, r9⟩ := row_of_owns own9
          replace own8 := own_below own8 q9
          replace q6 := btrans q6 q9
          replace kp6 := kp6.trans (Keeps.below q9)
          have hg9 : w9.heap[g5]? = some (.cells (sA x) 45 (0, 0)) := by rw [q9.block _ (lt_of_heap hg8)]; exact hg8
          clear d1 own9 q9 hg8
          go_wp2_with (at_builtin; refine wpList_append_gr _ rfl _ _ 25 rfl w.heap.size 5 i0 (.int .u8 0) Try.underlying25 hi0 hz0 hz1 hz2 rfl rfl (tt := 0) (.inl own8) a9 4 c9 _ rfl r9 (by decide) (by omega) q6.size ?_)
          intro v10 w10 own10 q10 kp10
          replace own10 : w10.ownsRow w.heap.size 5 1 v10 (24 + 40 * j + 4 + 4) ((D1 ++ four x.size).map (Value.int .u8)) := by rw [List.map_append]; simpa using own10
          replace q6 := q6.trans q10
          replace kp6 := kp6.trans kp10
          have hg10 := kp10 _ _ _ (by decide) hg9
          have rd := sg_dig hs hg10
          clear own8 r9 q10 kp10 hg9
          generalize D1 ++ four x.size = D2 at *
          go_wp2_with (first
            | (refine wpList_exec rfl (exec_sliceDig g5 2 _ rfl rfl) ?_)
            | (at_builtin; refine wpList_append_gr _ rfl _ _ 25 rfl w.heap.size 5 i0 (.int .u8 0) Try.underlying25 hi0 hz0 hz1 hz2 rfl rfl (tt := 0) (.inl own10) (some ⟨g5, 2, none⟩) 32 32 x.dig rfl rd (by decide) (by omega) q6.size ?_))
          intro v11 w11 own11 q11 kp11
          replace own11 : w11.ownsRow w.heap.size 5 1 v11 (24 + 40 * j + 4 + 4 + 32) ((D2 ++ x.dig).map (Value.int .u8)) := by rw [List.map_append]; simpa using own11
          rw [← HE.out, show 24 + 40 * j + 4 + 4 + 32 = 24 + 40 * (j + 1) by omega] at own11
          replace q6 := q6.trans q11
          replace kp6 := kp6.trans kp11
          clear own10 q11 kp11 rd hg10
          go_wp2_with fail
          go_roundw
          case rel => exact ⟨j + 1, by omega, by go_num, own11, q6, kp6⟩
          case measure => simp [RowKit.intOf]; omega
        · obtain rfl : j = n := by omega
          rw [List.take_of_length_le (by rw [HL.out]; exact Nat.le_refl _), ← HB.out] at own
          go_wp2_with fail
          go_ret
          exact ⟨_, rfl, own, q⟩
end Go.Proofs.Ytennmhenlhaliaa.N
