/-
  The code of layer 22 (slots): Order.
-/
import Derived.Test.YtagppgdigabbmaaSlotCode4
import Derived.Test.YtagppgdigabbmaaManOwn
namespace Go.Proofs.Ytagppgdigabbmaa.N
open Go.RowKit
set_option linter.unusedVariables false
set_option maxRecDepth 8192

theorem run_int0 (a b : Int) (w : World) : Sem.run Try.prog (Instr.index 52 (.agg #[.int .i64 a, .int .i64 b]) (.int .i64 0)) w = .ok (.int .i64 a) w := by kernel_rfl
theorem run_int1 (a b : Int) (w : World) : Sem.run Try.prog (Instr.index 52 (.agg #[.int .i64 a, .int .i64 b]) (.int .i64 1)) w = .ok (.int .i64 b) w := by kernel_rfl
set_option maxHeartbeats 800000 in
theorem sOrder_no {s : Sl} (w : World) (hm : maySl s = false) : Calls Try.prog 10 #[.agg #[.int .i64 s.f, .int .i64 s.a.t, .bool s.a.g, .int .i64 s.b.t, .bool s.b.g]] w fun e w' => e = .returned (.tuple #[.slice none 0 0, .int .i64 1]) ∧ Below w.heap.size w w' := by
  have HC : Hid (cSl s = 1) := by show _ = _; simp [cSl, hm]
  go_enter Try.func10, Try.ntmps10
  go_wp2_with fail
  refine (sCheck_any s _).mono ?_
  rintro e w1 ⟨rfl, q1⟩
  rw [HC.out]
  have Q := (below_one w _).trans (q1.mono (by simp))
  go_wp2_with fail
  go_ret2
  exact ⟨rfl, Q⟩
/-- The first k of the order's two places. -/
def ordTo (s : Sl) : Nat → List Int
  | 0 => []
  | 1 => if triedSo (s.two s.f) then [s.f] else []
  | _ => orderSl s
set_option maxHeartbeats 1600000 in
theorem sOrder_0 {s : Sl} (a b : So) (hs : s = ⟨0, a, b⟩) (w : World) (hm : maySl s = true) : Calls Try.prog 10 #[.agg #[.int .i64 0, .int .i64 a.t, .bool a.g, .int .i64 b.t, .bool b.g]] w fun e w' => ∃ v, e = .returned (.tuple #[v, .int .i64 0]) ∧ w'.ownsRow w.heap.size 3 1 v (orderSl s).length ((orderSl s).map (Value.int .i64)) ∧ Below w.heap.size w w' := by
  have HC := fun w => sCheck_any ⟨0, a, b⟩ w
  have hce : cSl ⟨0, a, b⟩ = 0 := by rw [← hs]; exact cSl_yes hm
  simp only [hce] at HC
  clear hce hm
  have HFIN : Hid (ordTo s 2 = orderSl s) := rfl
  obtain ⟨iq, hiq, hiq0, hiq1, hiq2⟩ := info_parts Try.info3
  have HS : Hid (s = ⟨0, a, b⟩) := hs
  clear hs
  go_enter Try.func10, Try.ntmps10
  go_wp2_with fail
  refine (HC _).mono ?_
  rintro e w1 ⟨rfl, q1⟩
  have V1 := ((Vars.start w).new 26 #[.int .i64 0, .int .i64 a.t, .bool a.g, .int .i64 b.t, .bool b.g]).call q1
  have Q1 : Below w.heap.size w w1 := V1.bel
  have hbx : SBox w1 w.heap.size ⟨0, a, b⟩ := sbox_of (V1.at 0 rfl)
  have hlt : w.heap.size < w1.heap.size := lt_of_heap (V1.at 0 rfl)
  clear q1 V1 HC
  obtain ⟨c0, c1, c2, c3, c4⟩ := hbx
  simp only at c0 c1 c2 c3 c4
  go_wp2_with fail
  have hbx : SBox w1 w.heap.size ⟨0, a, b⟩ := ⟨c0, c1, c2, c3, c4⟩
  have hs := HS.out
  clear c0 c1 c2 c3 c4 HS
  go_loopw [5, 19] (fun v y wr => ∃ k : Nat, k ≤ 2 ∧ y = .int .i64 (k : Int) ∧ wr.ownsRow w1.heap.size 3 1 v (ordTo s k).length ((ordTo s k).map (Value.int .i64)) ∧ Below w1.heap.size w1 wr) (fun _ y _ => 2 - (RowKit.intOf y).toNat)
  case atStart => exact ⟨0, Nat.zero_le _, rfl, World.ownsRow_nil _ _ _ _, Below.refl _ _⟩
  case round =>
    obtain ⟨k, hk, rfl, own, q⟩ := hrel
    obtain rfl | rfl | rfl : k = 0 ∨ k = 1 ∨ k = 2 := by omega
    · clear HFIN
      have HT := fun w => mayTry_any a w
      cases ht : triedSo a
      · have HN : Hid (ordTo s 1 = ordTo s 0) := by show _ = _; subst hs; simp [ordTo, Sl.two, ht]
        rw [ht] at HT
        obtain ⟨c0, c1, c2, c3, c4⟩ := (hbx.below q (by omega) : SBox wr w.heap.size ⟨0, a, b⟩)
        simp only at c0 c1 c2 c3 c4
        go_wp2_with fail
        rw [run_int0]
        go_wp2_with fail
        refine (HT _).mono ?_
        rintro e w2 ⟨rfl, q2⟩
        have qq := q.trans (q2.mono q.size)
        have own2 := own_below own q2
        clear q2 own q c0 c1 c2 c3 c4
        go_wp2_with fail
        go_roundw
        case rel => exact ⟨1, by omega, by go_num, by rw [HN.out]; exact own2, qq⟩
        case measure => simp [RowKit.intOf]
      · have HN : Hid (ordTo s 1 = ordTo s 0 ++ [0]) := by show _ = _; subst hs; simp [ordTo, Sl.two, ht]
        rw [ht] at HT
        obtain ⟨c0, c1, c2, c3, c4⟩ := (hbx.below q (by omega) : SBox wr w.heap.size ⟨0, a, b⟩)
        simp only at c0 c1 c2 c3 c4
        go_wp2_with fail
        rw [run_int0]
        go_wp2_with fail
        refine (HT _).mono ?_
        rintro e w2 ⟨rfl, q2⟩
        have qq := q.trans (q2.mono q.size)
        have own2 := own_below own q2
        clear q2 own q c0 c1 c2 c3 c4
        have hlen : (ordTo s 0).length ≤ 1 := by subst hs; simp only [ordTo]; decide
        have hsz := qq.size
        generalize ordTo s 0 = L at *
        go_wp2_with (at_builtin; refine wpList_append_own _ rfl _ _ 32 rfl w1.heap.size 3 iq (.int .i64 0) 1 8 Try.underlying32 hiq hiq0 hiq1 hiq2 rfl (by decide) _ L.length (L.map (Value.int .i64)) rfl (own2.alloc _) ⟨w2.heap.size, 0, none⟩ 1 1 [.int .i64 0] rfl rfl ?c1 ?c2 ?c3 ?c4 ?c5 ?_)
        case c1 =>
          have := cell_one_new w2 (.int .i64 0) 3
          simpa using this
        case c2 => intro u hu; simp at hu; subst hu; rfl
        case c3 => unfold maxLen; omega
        case c4 => omega
        case c5 => simp; omega
        intro v' w3 hown' hgrow _
        obtain ⟨own3, q3⟩ := rel_push hsz own2 qq hown' hgrow
        clear hgrow hown' own2 qq
        go_wp2_with fail
        go_roundw
        case rel => exact ⟨1, by omega, by go_num, by rw [HN.out, List.length_append]; exact own3, q3⟩
        case measure => simp [RowKit.intOf]
    · clear HFIN
      have HT := fun w => mayTry_any b w
      cases ht : triedSo b
      · have HN : Hid (ordTo s 2 = ordTo s 1) := by show _ = _; subst hs; simp [ordTo, orderSl, Sl.two, ht]
        rw [ht] at HT
        obtain ⟨c0, c1, c2, c3, c4⟩ := (hbx.below q (by omega) : SBox wr w.heap.size ⟨0, a, b⟩)
        simp only at c0 c1 c2 c3 c4
        go_wp2_with fail
        rw [run_int1]
        go_wp2_with fail
        refine (HT _).mono ?_
        rintro e w2 ⟨rfl, q2⟩
        have qq := q.trans (q2.mono q.size)
        have own2 := own_below own q2
        clear q2 own q c0 c1 c2 c3 c4
        go_wp2_with fail
        go_roundw
        case rel => exact ⟨2, by omega, by go_num, by rw [HN.out]; exact own2, qq⟩
        case measure => simp [RowKit.intOf]
      · have HN : Hid (ordTo s 2 = ordTo s 1 ++ [1]) := by show _ = _; subst hs; simp [ordTo, orderSl, Sl.two, ht]
        rw [ht] at HT
        obtain ⟨c0, c1, c2, c3, c4⟩ := (hbx.below q (by omega) : SBox wr w.heap.size ⟨0, a, b⟩)
        simp only at c0 c1 c2 c3 c4
        go_wp2_with fail
        rw [run_int1]
        go_wp2_with fail
        refine (HT _).mono ?_
        rintro e w2 ⟨rfl, q2⟩
        have qq := q.trans (q2.mono q.size)
        have own2 := own_below own q2
        clear q2 own q c0 c1 c2 c3 c4
        have hlen : (ordTo s 1).length ≤ 1 := by subst hs; simp only [ordTo]; split <;> simp
        have hsz := qq.size
        generalize ordTo s 1 = L at *
        go_wp2_with (at_builtin; refine wpList_append_own _ rfl _ _ 32 rfl w1.heap.size 3 iq (.int .i64 0) 1 8 Try.underlying32 hiq hiq0 hiq1 hiq2 rfl (by decide) _ L.length (L.map (Value.int .i64)) rfl (own2.alloc _) ⟨w2.heap.size, 0, none⟩ 1 1 [.int .i64 1] rfl rfl ?c1 ?c2 ?c3 ?c4 ?c5 ?_)
        case c1 =>
          have := cell_one_new w2 (.int .i64 1) 3
          simpa using this
        case c2 => intro u hu; simp at hu; subst hu; rfl
        case c3 => unfold maxLen; omega
        case c4 => omega
        case c5 => simp; omega
        intro v' w3 hown' hgrow _
        obtain ⟨own3, q3⟩ := rel_push hsz own2 qq hown' hgrow
        clear hgrow hown' own2 qq
        go_wp2_with fail
        go_roundw
        case rel => exact ⟨2, by omega, by go_num, by rw [HN.out, List.length_append]; exact own3, q3⟩
        case measure => simp [RowKit.intOf]
    · rw [HFIN.out] at own
      have own' := owns_base own (Nat.le_of_lt hlt)
      have QQ := Q1.trans (q.mono Q1.size)
      have HO : Hid (wr.ownsRow w.heap.size 3 1 _ (orderSl s).length ((orderSl s).map (Value.int .i64))) := own'
      clear HFIN own own' q Q1
      subst hs
      go_wp2_with fail
      go_ret2
      exact ⟨_, rfl, HO.out, QQ⟩
set_option maxHeartbeats 1600000 in
theorem sOrder_1 {s : Sl} (a b : So) (hs : s = ⟨1, a, b⟩) (w : World) (hm : maySl s = true) : Calls Try.prog 10 #[.agg #[.int .i64 1, .int .i64 a.t, .bool a.g, .int .i64 b.t, .bool b.g]] w fun e w' => ∃ v, e = .returned (.tuple #[v, .int .i64 0]) ∧ w'.ownsRow w.heap.size 3 1 v (orderSl s).length ((orderSl s).map (Value.int .i64)) ∧ Below w.heap.size w w' := by
  have HC := fun w => sCheck_any ⟨1, a, b⟩ w
  have hce : cSl ⟨1, a, b⟩ = 0 := by rw [← hs]; exact cSl_yes hm
  simp only [hce] at HC
  clear hce hm
  have HFIN : Hid (ordTo s 2 = orderSl s) := rfl
  obtain ⟨iq, hiq, hiq0, hiq1, hiq2⟩ := info_parts Try.info3
  have HS : Hid (s = ⟨1, a, b⟩) := hs
  clear hs
  go_enter Try.func10, Try.ntmps10
  go_wp2_with fail
  refine (HC _).mono ?_
  rintro e w1 ⟨rfl, q1⟩
  have V1 := ((Vars.start w).new 26 #[.int .i64 1, .int .i64 a.t, .bool a.g, .int .i64 b.t, .bool b.g]).call q1
  have Q1 : Below w.heap.size w w1 := V1.bel
  have hbx : SBox w1 w.heap.size ⟨1, a, b⟩ := sbox_of (V1.at 0 rfl)
  have hlt : w.heap.size < w1.heap.size := lt_of_heap (V1.at 0 rfl)
  clear q1 V1 HC
  obtain ⟨c0, c1, c2, c3, c4⟩ := hbx
  simp only at c0 c1 c2 c3 c4
  go_wp2_with fail
  have hbx : SBox w1 w.heap.size ⟨1, a, b⟩ := ⟨c0, c1, c2, c3, c4⟩
  have hs := HS.out
  clear c0 c1 c2 c3 c4 HS
  go_loopw [5, 19] (fun v y wr => ∃ k : Nat, k ≤ 2 ∧ y = .int .i64 (k : Int) ∧ wr.ownsRow w1.heap.size 3 1 v (ordTo s k).length ((ordTo s k).map (Value.int .i64)) ∧ Below w1.heap.size w1 wr) (fun _ y _ => 2 - (RowKit.intOf y).toNat)
  case atStart => exact ⟨0, Nat.zero_le _, rfl, World.ownsRow_nil _ _ _ _, Below.refl _ _⟩
  case round =>
    obtain ⟨k, hk, rfl, own, q⟩ := hrel
    obtain rfl | rfl | rfl : k = 0 ∨ k = 1 ∨ k = 2 := by omega
    · clear HFIN
      have HT := fun w => mayTry_any b w
      cases ht : triedSo b
      · have HN : Hid (ordTo s 1 = ordTo s 0) := by show _ = _; subst hs; simp [ordTo, Sl.two, ht]
        rw [ht] at HT
        obtain ⟨c0, c1, c2, c3, c4⟩ := (hbx.below q (by omega) : SBox wr w.heap.size ⟨1, a, b⟩)
        simp only at c0 c1 c2 c3 c4
        go_wp2_with fail
        rw [run_int0]
        go_wp2_with fail
        refine (HT _).mono ?_
        rintro e w2 ⟨rfl, q2⟩
        have qq := q.trans (q2.mono q.size)
        have own2 := own_below own q2
        clear q2 own q c0 c1 c2 c3 c4
        go_wp2_with fail
        go_roundw
        case rel => exact ⟨1, by omega, by go_num, by rw [HN.out]; exact own2, qq⟩
        case measure => simp [RowKit.intOf]
      · have HN : Hid (ordTo s 1 = ordTo s 0 ++ [1]) := by show _ = _; subst hs; simp [ordTo, Sl.two, ht]
        rw [ht] at HT
        obtain ⟨c0, c1, c2, c3, c4⟩ := (hbx.below q (by omega) : SBox wr w.heap.size ⟨1, a, b⟩)
        simp only at c0 c1 c2 c3 c4
        go_wp2_with fail
        rw [run_int0]
        go_wp2_with fail
        refine (HT _).mono ?_
        rintro e w2 ⟨rfl, q2⟩
        have qq := q.trans (q2.mono q.size)
        have own2 := own_below own q2
        clear q2 own q c0 c1 c2 c3 c4
        have hlen : (ordTo s 0).length ≤ 1 := by subst hs; simp only [ordTo]; decide
        have hsz := qq.size
        generalize ordTo s 0 = L at *
        go_wp2_with (at_builtin; refine wpList_append_own _ rfl _ _ 32 rfl w1.heap.size 3 iq (.int .i64 0) 1 8 Try.underlying32 hiq hiq0 hiq1 hiq2 rfl (by decide) _ L.length (L.map (Value.int .i64)) rfl (own2.alloc _) ⟨w2.heap.size, 0, none⟩ 1 1 [.int .i64 1] rfl rfl ?c1 ?c2 ?c3 ?c4 ?c5 ?_)
        case c1 =>
          have := cell_one_new w2 (.int .i64 1) 3
          simpa using this
        case c2 => intro u hu; simp at hu; subst hu; rfl
        case c3 => unfold maxLen; omega
        case c4 => omega
        case c5 => simp; omega
        intro v' w3 hown' hgrow _
        obtain ⟨own3, q3⟩ := rel_push hsz own2 qq hown' hgrow
        clear hgrow hown' own2 qq
        go_wp2_with fail
        go_roundw
        case rel => exact ⟨1, by omega, by go_num, by rw [HN.out, List.length_append]; exact own3, q3⟩
        case measure => simp [RowKit.intOf]
    · clear HFIN
      have HT := fun w => mayTry_any a w
      cases ht : triedSo a
      · have HN : Hid (ordTo s 2 = ordTo s 1) := by show _ = _; subst hs; simp [ordTo, orderSl, Sl.two, ht]
        rw [ht] at HT
        obtain ⟨c0, c1, c2, c3, c4⟩ := (hbx.below q (by omega) : SBox wr w.heap.size ⟨1, a, b⟩)
        simp only at c0 c1 c2 c3 c4
        go_wp2_with fail
        rw [run_int1]
        go_wp2_with fail
        refine (HT _).mono ?_
        rintro e w2 ⟨rfl, q2⟩
        have qq := q.trans (q2.mono q.size)
        have own2 := own_below own q2
        clear q2 own q c0 c1 c2 c3 c4
        go_wp2_with fail
        go_roundw
        case rel => exact ⟨2, by omega, by go_num, by rw [HN.out]; exact own2, qq⟩
        case measure => simp [RowKit.intOf]
      · have HN : Hid (ordTo s 2 = ordTo s 1 ++ [0]) := by show _ = _; subst hs; simp [ordTo, orderSl, Sl.two, ht]
        rw [ht] at HT
        obtain ⟨c0, c1, c2, c3, c4⟩ := (hbx.below q (by omega) : SBox wr w.heap.size ⟨1, a, b⟩)
        simp only at c0 c1 c2 c3 c4
        go_wp2_with fail
        rw [run_int1]
        go_wp2_with fail
        refine (HT _).mono ?_
        rintro e w2 ⟨rfl, q2⟩
        have qq := q.trans (q2.mono q.size)
        have own2 := own_below own q2
        clear q2 own q c0 c1 c2 c3 c4
        have hlen : (ordTo s 1).length ≤ 1 := by subst hs; simp only [ordTo]; split <;> simp
        have hsz := qq.size
        generalize ordTo s 1 = L at *
        go_wp2_with (at_builtin; refine wpList_append_own _ rfl _ _ 32 rfl w1.heap.size 3 iq (.int .i64 0) 1 8 Try.underlying32 hiq hiq0 hiq1 hiq2 rfl (by decide) _ L.length (L.map (Value.int .i64)) rfl (own2.alloc _) ⟨w2.heap.size, 0, none⟩ 1 1 [.int .i64 0] rfl rfl ?c1 ?c2 ?c3 ?c4 ?c5 ?_)
        case c1 =>
          have := cell_one_new w2 (.int .i64 0) 3
          simpa using this
        case c2 => intro u hu; simp at hu; subst hu; rfl
        case c3 => unfold maxLen; omega
        case c4 => omega
        case c5 => simp; omega
        intro v' w3 hown' hgrow _
        obtain ⟨own3, q3⟩ := rel_push hsz own2 qq hown' hgrow
        clear hgrow hown' own2 qq
        go_wp2_with fail
        go_roundw
        case rel => exact ⟨2, by omega, by go_num, by rw [HN.out, List.length_append]; exact own3, q3⟩
        case measure => simp [RowKit.intOf]
    · rw [HFIN.out] at own
      have own' := owns_base own (Nat.le_of_lt hlt)
      have QQ := Q1.trans (q.mono Q1.size)
      have HO : Hid (wr.ownsRow w.heap.size 3 1 _ (orderSl s).length ((orderSl s).map (Value.int .i64))) := own'
      clear HFIN own own' q Q1
      subst hs
      go_wp2_with fail
      go_ret2
      exact ⟨_, rfl, HO.out, QQ⟩
theorem sOrder_yes {s : Sl} (w : World) (hm : maySl s = true) : Calls Try.prog 10 #[.agg #[.int .i64 s.f, .int .i64 s.a.t, .bool s.a.g, .int .i64 s.b.t, .bool s.b.g]] w fun e w' => ∃ v, e = .returned (.tuple #[v, .int .i64 0]) ∧ w'.ownsRow w.heap.size 3 1 v (orderSl s).length ((orderSl s).map (Value.int .i64)) ∧ Below w.heap.size w w' := by
  obtain ⟨f, a, b⟩ := s
  obtain rfl | rfl := (maySl_of hm).1
  · exact sOrder_0 a b rfl w hm
  · exact sOrder_1 a b rfl w hm
end Go.Proofs.Ytagppgdigabbmaa.N
