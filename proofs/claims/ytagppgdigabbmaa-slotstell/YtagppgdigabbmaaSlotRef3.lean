/-
  The document's answer for layer 22 (casemateref22): Bytes.
-/
import Derived.Test.YtagppgdigabbmaaSlotRef
import Derived.Test.YtagppgdigabbmaaManOwn
namespace Go.Proofs.Ytagppgdigabbmaa.N
open Go.RowKit
set_option linter.unusedVariables false
set_option maxRecDepth 8192

def slotL : List Int := [115, 108, 111, 116]
/-- The bytes as far as k slots. -/
def bto (s : Sl) : Nat → List Int
  | 0 => slotL ++ [s.f]
  | 1 => slotL ++ [s.f, s.a.t, bitSo s.a.g]
  | _ => bytesSl s
set_option maxHeartbeats 1600000 in
theorem refBytes22 (s : Sl) (w : World) (hm : maySl s = true) : Calls Try.prog 20 #[.agg #[.int .i64 s.f, .int .i64 s.a.t, .bool s.a.g, .int .i64 s.b.t, .bool s.b.g]] w fun e w' => ∃ u, e = .returned u ∧ w'.ownsRow w.heap.size 5 1 u 9 ((bytesSl s).map (Value.int .u8)) ∧ Below w.heap.size w w' := by
  obtain ⟨i0, hi0, hz0, hz1, hz2⟩ := info_parts Try.info5
  have HFIN : Hid (bto s 2 = bytesSl s) := rfl
  have HV : Hid ((s.f = 0 ∨ s.f = 1) ∧ (0 ≤ s.a.t ∧ s.a.t ≤ 7) ∧ 0 ≤ s.b.t ∧ s.b.t ≤ 7) := maySl_of hm
  have hf : 0 ≤ s.f ∧ s.f ≤ 1 := by have := HV.out.1; omega
  clear hm
  have kc := Lib.run_convert_bytes_const (P := Try.prog) (w.alloc (.cells #[.int .i64 s.f, .int .i64 s.a.t, .bool s.a.g, .int .i64 s.b.t, .bool s.b.g] 26)) 29 5 #[.int .u8 115, .int .u8 108, .int .u8 111, .int .u8 116] 4 4 Try.underlying29 Try.underlying5
  have q1 := below_one (w.alloc (.cells #[.int .i64 s.f, .int .i64 s.a.t, .bool s.a.g, .int .i64 s.b.t, .bool s.b.g] 26)) (.cells #[.int .u8 115, .int .u8 108, .int .u8 111, .int .u8 116] 5 (4, 5))
  have ro := row_marked .u8 (w.alloc (.cells #[.int .i64 s.f, .int .i64 s.a.t, .bool s.a.g, .int .i64 s.b.t, .bool s.b.g] 26)) 5 (4, 5) slotL 4 rfl (by unfold maxLen; omega) #[.int .u8 115, .int .u8 108, .int .u8 111, .int .u8 116] rfl
  have hbx := sbox_new w s 26
  have hsz0 : (w.alloc (.cells #[.int .i64 s.f, .int .i64 s.a.t, .bool s.a.g, .int .i64 s.b.t, .bool s.b.g] 26)).heap.size = w.heap.size + 1 := by simp
  have Q0 := below_one w (.cells #[.int .i64 s.f, .int .i64 s.a.t, .bool s.a.g, .int .i64 s.b.t, .bool s.b.g] 26)
  go_enter Try.func20, Try.ntmps20
  simp only [hsz0] at kc ro
  have gr : Gr (w.heap.size + 1) 5 ((w.alloc (.cells #[.int .i64 s.f, .int .i64 s.a.t, .bool s.a.g, .int .i64 s.b.t, .bool s.b.g] 26)).alloc (.cells #[.int .u8 115, .int .u8 108, .int .u8 111, .int .u8 116] 5 (4, 5))) (.slice (some ⟨w.heap.size + 1, 0, none⟩) 4 4) 0 4 slotL := .inr ⟨rfl, by decide, _, rfl, ro⟩
  have rn := row_new .u8 ((w.alloc (.cells #[.int .i64 s.f, .int .i64 s.a.t, .bool s.a.g, .int .i64 s.b.t, .bool s.b.g] 26)).alloc (.cells #[.int .u8 115, .int .u8 108, .int .u8 111, .int .u8 116] 5 (4, 5))) 5 _ rfl [s.f] 1 rfl (by unfold maxLen; omega) #[.int .u8 s.f] rfl
  rw [show ∀ x y, ((w.alloc x).alloc y).heap.size = w.heap.size + 1 + 1 from fun x y => by simp] at rn
  go_wp2_with (at_builtin; refine wpList_append_gr _ rfl _ _ 29 rfl (w.heap.size + 1) 5 i0 (.int .u8 0) Try.underlying29 hi0 hz0 hz1 hz2 rfl (m := 4) rfl (gr.alloc _) (some ⟨w.heap.size + 1 + 1, 0, none⟩) 1 1 [s.f] rfl rn (by decide) (by omega) (by simp) ?_)
  intro v3 w3 own3 q3 _
  have Q3 : Below (w.heap.size + 1) (w.alloc (.cells #[.int .i64 s.f, .int .i64 s.a.t, .bool s.a.g, .int .i64 s.b.t, .bool s.b.g] 26)) w3 := ((hsz0 ▸ q1).trans ((below_one _ _).mono (by simp))).trans q3
  clear q3 gr rn kc ro q1 hf
  generalize hW : w.alloc (.cells #[.int .i64 s.f, .int .i64 s.a.t, .bool s.a.g, .int .i64 s.b.t, .bool s.b.g] 26) = w0 at *
  obtain ⟨B, hB⟩ : ∃ B, B = w.heap.size + 1 := ⟨_, rfl⟩
  rw [← hB] at own3 Q3
  have hlt : w.heap.size < B := by omega
  replace own3 : w3.ownsRow B 5 1 v3 5 ((bto s 0).map (Value.int .u8)) := own3
  have HQ : Hid (∀ wr, Below B w0 wr → Below w.heap.size w wr) := fun wr h => Q0.trans (h.mono (by omega))
  have h0B : w0.heap.size = B := by omega
  clear Q0 hW hsz0 hB
  go_wp2_with fail
  go_loopw [3, 4] (fun u i wr => ∃ j : Nat, j ≤ 2 ∧ i = .int .i64 (j : Int) ∧ wr.ownsRow B 5 1 u (5 + 2 * j) ((bto s j).map (Value.int .u8)) ∧ Below B w0 wr) (fun _ i _ => 2 - (RowKit.intOf i).toNat)
  case atStart => exact ⟨0, Nat.zero_le _, rfl, own3, Q3⟩
  case round =>
    clear own3 Q3
    obtain ⟨j, hj, rfl, own, q⟩ := hrel
    obtain rfl | rfl | rfl : j = 0 ∨ j = 1 ∨ j = 2 := by omega
    · obtain ⟨c0, c1, c2, c3, c4⟩ := hbx.below q hlt
      have hv : 0 ≤ s.a.t ∧ s.a.t ≤ 7 := HV.out.2.1
      clear HFIN
      cases hg : s.a.g
      · rw [hg] at c2
        have HN : Hid (bto s 1 = bto s 0 ++ [s.a.t, 0]) := by show _ = _; simp [bto, hg, bitSo]
        have HL : Hid ((bto s 0).length = 5) := rfl
        have rn := row_new .u8 wr 5 wr.heap.size rfl [s.a.t, 0] 2 rfl (by unfold maxLen; omega) #[.int .u8 s.a.t, .int .u8 0] rfl
        have hsz : B ≤ wr.heap.size := by have := q.size; omega
        generalize bto s 0 = D at *
        go_wp2_with (at_builtin; refine wpList_append_gr _ rfl _ _ 29 rfl B 5 i0 (.int .u8 0) Try.underlying29 hi0 hz0 hz1 hz2 rfl rfl (tt := 0) (.inl (own.alloc _)) (some ⟨wr.heap.size, 0, none⟩) 2 2 [s.a.t, 0] rfl rn (by decide) (by omega) (by simp; omega) ?_)
        intro v' w7 own' q' kk'
        have qq := (q.trans ((below_one wr _).mono hsz)).trans q'
        replace own' : w7.ownsRow B 5 1 v' 7 ((D ++ [s.a.t, 0]).map (Value.int .u8)) := by rw [List.map_append]; exact own'
        rw [← HN.out] at own'
        clear q' kk' rn own q c0 c1 c2 c3 c4 HN
        go_wp2
        go_roundw
        case rel => exact ⟨1, by omega, by go_num, own', qq⟩
        case measure => simp [RowKit.intOf]
      · rw [hg] at c2
        have HN : Hid (bto s 1 = bto s 0 ++ [s.a.t, 1]) := by show _ = _; simp [bto, hg, bitSo]
        have HL : Hid ((bto s 0).length = 5) := rfl
        have rn := row_new .u8 wr 5 wr.heap.size rfl [s.a.t, 1] 2 rfl (by unfold maxLen; omega) #[.int .u8 s.a.t, .int .u8 1] rfl
        have hsz : B ≤ wr.heap.size := by have := q.size; omega
        generalize bto s 0 = D at *
        go_wp2_with (at_builtin; refine wpList_append_gr _ rfl _ _ 29 rfl B 5 i0 (.int .u8 0) Try.underlying29 hi0 hz0 hz1 hz2 rfl rfl (tt := 0) (.inl (own.alloc _)) (some ⟨wr.heap.size, 0, none⟩) 2 2 [s.a.t, 1] rfl rn (by decide) (by omega) (by simp; omega) ?_)
        intro v' w7 own' q' kk'
        have qq := (q.trans ((below_one wr _).mono hsz)).trans q'
        replace own' : w7.ownsRow B 5 1 v' 7 ((D ++ [s.a.t, 1]).map (Value.int .u8)) := by rw [List.map_append]; exact own'
        rw [← HN.out] at own'
        clear q' kk' rn own q c0 c1 c2 c3 c4 HN
        go_wp2
        go_roundw
        case rel => exact ⟨1, by omega, by go_num, own', qq⟩
        case measure => simp [RowKit.intOf]
    · obtain ⟨c0, c1, c2, c3, c4⟩ := hbx.below q hlt
      have hv : 0 ≤ s.b.t ∧ s.b.t ≤ 7 := HV.out.2.2
      clear HFIN
      cases hg : s.b.g
      · rw [hg] at c4
        have HN : Hid (bto s 2 = bto s 1 ++ [s.b.t, 0]) := by show _ = _; simp [bto, bytesSl, slotL, hg, bitSo]
        have HL : Hid ((bto s 1).length = 7) := rfl
        have rn := row_new .u8 wr 5 wr.heap.size rfl [s.b.t, 0] 2 rfl (by unfold maxLen; omega) #[.int .u8 s.b.t, .int .u8 0] rfl
        have hsz : B ≤ wr.heap.size := by have := q.size; omega
        generalize bto s 1 = D at *
        go_wp2_with (at_builtin; refine wpList_append_gr _ rfl _ _ 29 rfl B 5 i0 (.int .u8 0) Try.underlying29 hi0 hz0 hz1 hz2 rfl rfl (tt := 0) (.inl (own.alloc _)) (some ⟨wr.heap.size, 0, none⟩) 2 2 [s.b.t, 0] rfl rn (by decide) (by omega) (by simp; omega) ?_)
        intro v' w7 own' q' kk'
        have qq := (q.trans ((below_one wr _).mono hsz)).trans q'
        replace own' : w7.ownsRow B 5 1 v' 9 ((D ++ [s.b.t, 0]).map (Value.int .u8)) := by rw [List.map_append]; exact own'
        rw [← HN.out] at own'
        clear q' kk' rn own q c0 c1 c2 c3 c4 HN
        go_wp2
        go_roundw
        case rel => exact ⟨2, by omega, by go_num, own', qq⟩
        case measure => simp [RowKit.intOf]
      · rw [hg] at c4
        have HN : Hid (bto s 2 = bto s 1 ++ [s.b.t, 1]) := by show _ = _; simp [bto, bytesSl, slotL, hg, bitSo]
        have HL : Hid ((bto s 1).length = 7) := rfl
        have rn := row_new .u8 wr 5 wr.heap.size rfl [s.b.t, 1] 2 rfl (by unfold maxLen; omega) #[.int .u8 s.b.t, .int .u8 1] rfl
        have hsz : B ≤ wr.heap.size := by have := q.size; omega
        generalize bto s 1 = D at *
        go_wp2_with (at_builtin; refine wpList_append_gr _ rfl _ _ 29 rfl B 5 i0 (.int .u8 0) Try.underlying29 hi0 hz0 hz1 hz2 rfl rfl (tt := 0) (.inl (own.alloc _)) (some ⟨wr.heap.size, 0, none⟩) 2 2 [s.b.t, 1] rfl rn (by decide) (by omega) (by simp; omega) ?_)
        intro v' w7 own' q' kk'
        have qq := (q.trans ((below_one wr _).mono hsz)).trans q'
        replace own' : w7.ownsRow B 5 1 v' 9 ((D ++ [s.b.t, 1]).map (Value.int .u8)) := by rw [List.map_append]; exact own'
        rw [← HN.out] at own'
        clear q' kk' rn own q c0 c1 c2 c3 c4 HN
        go_wp2
        go_roundw
        case rel => exact ⟨2, by omega, by go_num, own', qq⟩
        case measure => simp [RowKit.intOf]
    · rw [HFIN.out] at own
      have own' := owns_base own (Nat.le_of_lt hlt)
      have QQ := HQ.out wr q
      clear own q HQ HFIN
      go_wp2_with fail
      go_ret
      exact ⟨_, rfl, own', QQ⟩
end Go.Proofs.Ytagppgdigabbmaa.N
