/-
  The document's answer of layer 21 (casemateref21): Bytes.
-/
import Derived.Test.YtjcfooiibgidhaaKeyRef
import Derived.Test.YtjcfooiibgidhaaManRef2
namespace Go.Proofs.Ytjcfooiibgidhaa.N
open Go.RowKit
set_option linter.unusedVariables false
set_option maxRecDepth 8192

set_option maxHeartbeats 3200000 in
theorem refBytes21_any {a : Option Addr} {n cap : Nat} {l : List Ky} {w : World} (hr : KRow w a n cap l) (ho : ∀ s ∈ l, s.Ok) (hm : mayK l = true) :
    Calls Try.prog 15 #[.slice a n cap] w fun e w' => ∃ u, e = .returned u ∧ w'.ownsRow w.heap.size 5 1 u (8 + 37 * n) ((rBytes l).map (Value.int .u8)) ∧ Below w.heap.size w w' := by
  obtain ⟨i0, hi0, hz0, hz1, hz2⟩ := info_parts Try.info5
  have HL : Hid (l.length = n) := hr.hlen
  have hn8 : n ≤ 8 := by rw [← HL.out]; exact (mayK_yes hm).1
  have mc := hr.hcap
  have mm := hr.hmax
  unfold maxLen at mm
  have HB : Hid (rBytes l = kHead n ++ l.flatMap kyBytes) := by show _ = _; rw [← HL.out]; rfl
  have HA : Hid (kHead n = ringL ++ four (n : Int)) := rfl
  have HM : Hid (mayK l = true) := hm
  have kc := Lib.run_convert_bytes_const (P := Try.prog) w 24 5 #[.int .u8 114, .int .u8 105, .int .u8 110, .int .u8 103] 4 4 Try.underlying24 Try.underlying5
  have q1 := below_one w (.cells #[.int .u8 114, .int .u8 105, .int .u8 110, .int .u8 103] 5 (4, 5))
  have ro := row_marked .u8 w 5 (4, 5) ringL 4 rfl (by unfold maxLen; omega) #[.int .u8 114, .int .u8 105, .int .u8 110, .int .u8 103] rfl
  clear hm
  go_enter Try.func15, Try.ntmps15
  go_wp2_with fail
  clear kc
  generalize w.alloc (.cells #[.int .u8 114, .int .u8 105, .int .u8 110, .int .u8 103] 5 (4, 5)) = w1 at *
  have gr : Gr w.heap.size 5 w1 (.slice (some ⟨w.heap.size, 0, none⟩) 4 4) 0 4 ringL := .inr ⟨rfl, by decide, _, rfl, ro⟩
  clear ro
  refine (refFour_any (n : Int) w1 (by omega) (by omega)).mono ?_
  rintro e w2 ⟨v2, rfl, own2, q2⟩
  obtain ⟨a2, c2, rfl, r2⟩ := row_of_owns own2
  replace gr := gr.below q2
  replace q1 := btrans q1 q2
  clear own2 q2
  go_wp2_with (at_builtin; refine wpList_append_gr _ rfl _ _ 24 rfl w.heap.size 5 i0 (.int .u8 0) Try.underlying24 hi0 hz0 hz1 hz2 rfl rfl gr a2 4 c2 _ rfl r2 (by decide) (by omega) q1.size ?_)
  intro v3 w3 own3 q3 _
  rw [← List.map_append, ← HA.out] at own3
  replace q1 := q1.trans q3
  clear gr q3 r2
  generalize kHead n = A at *
  go_wp2_with fail
  go_loopw [3, 4] (fun u i wr => ∃ j : Nat, j ≤ n ∧ i = .int .i64 (j : Int) ∧ wr.ownsRow w.heap.size 5 1 u (8 + 37 * j) ((A ++ (l.take j).flatMap kyBytes).map (Value.int .u8)) ∧ Below w.heap.size w wr) (fun _ i _ => n - (RowKit.intOf i).toNat)
  case atStart => exact ⟨0, Nat.zero_le _, rfl, by simpa using own3, q1⟩
  case round =>
    clear own3 q1
    obtain ⟨j, hj, rfl, own, q⟩ := hrel
    by_cases hlt : j < n
    · obtain ⟨b, off, rfl, hbs, hcell⟩ := hr.hcell (by omega)
      have hs := kyI_ok ho j
      have hjl : j < l.length := by rw [HL.out]; exact hlt
      have hb := mayK_bd HM.out hjl
      have HC : Hid (∀ W, Below w.heap.size w W → W.rangeAt b (off + j * 34) (kC (kyI l j))) := fun W Q => range_block (hcell j hlt) (Q.block b hbs)
      have HT : Hid (A ++ (l.take (j + 1)).flatMap kyBytes = (A ++ (l.take j).flatMap kyBytes) ++ kyBytes (kyI l j)) := by show _ = _; rw [kys_take l j hjl, List.append_assoc]
      clear hcell hjl
      generalize kyI l j = x at *
      generalize A ++ (l.take j).flatMap kyBytes = D at *
      have HX : Hid (kyBytes x = four x.num ++ (x.dig ++ [kBit x.rev])) := rfl
      have hlt' : (j : Int) < (n : Int) := by omega
      have d0 := kr_num (HC.out wr q)
      go_wp2_with fail
      refine (refFour_any x.num wr hb.1 (by omega)).mono ?_
      rintro e w4 ⟨v4, rfl, own4, q4⟩
      obtain ⟨a4, c4, rfl, r4⟩ := row_of_owns own4
      replace own := own_below own q4
      replace q := btrans q q4
      clear own4 q4 d0
      go_wp2_with (at_builtin; refine wpList_append_gr _ rfl _ _ 24 rfl w.heap.size 5 i0 (.int .u8 0) Try.underlying24 hi0 hz0 hz1 hz2 rfl rfl (tt := 0) (.inl own) a4 4 c4 _ rfl r4 (by decide) (by omega) q.size ?_)
      intro v5 w5 own5 q5 _
      replace own5 : w5.ownsRow w.heap.size 5 1 v5 (8 + 37 * j + 4) ((D ++ four x.num).map (Value.int .u8)) := by rw [List.map_append]; simpa using own5
      replace q := q.trans q5
      have rd := kr_row hs (HC.out w5 q)
      clear own q5 r4
      go_wp2_with (first
        | (refine wpList_exec rfl (exec_sliceDig b (off + j * 34 + 1) _ rfl rfl) ?_)
        | (at_builtin; refine wpList_append_gr _ rfl _ _ 24 rfl w.heap.size 5 i0 (.int .u8 0) Try.underlying24 hi0 hz0 hz1 hz2 rfl rfl (tt := 0) (.inl own5) (some ⟨b, off + j * 34 + 1, none⟩) 32 32 x.dig rfl rd (by decide) (by omega) q.size ?_))
      intro v6 w6 own6 q6 _
      replace own6 : w6.ownsRow w.heap.size 5 1 v6 (8 + 37 * j + 4 + 32) ((D ++ four x.num ++ x.dig).map (Value.int .u8)) := by rw [List.map_append]; simpa using own6
      replace q := q.trans q6
      have c33 := kr_rev hs (HC.out w6 q)
      have HE : Hid (A ++ (l.take (j + 1)).flatMap kyBytes = (D ++ four x.num ++ x.dig) ++ [kBit x.rev]) := by show _ = _; rw [HT.out, HX.out]; simp only [List.append_assoc]
      clear own5 q6 rd HT HX HC
      generalize D ++ four x.num ++ x.dig = E at *
      generalize x.rev = r at *
      cases r
      · have rn := row_new .u8 w6 5 w6.heap.size rfl [0] 1 rfl (by unfold maxLen; omega) #[.int .u8 0] rfl
        go_wp2_with (at_builtin; refine wpList_append_gr _ rfl _ _ 24 rfl w.heap.size 5 i0 (.int .u8 0) Try.underlying24 hi0 hz0 hz1 hz2 rfl rfl (tt := 0) (.inl (own6.alloc _)) (some ⟨w6.heap.size, 0, none⟩) 1 1 [0] rfl rn (by decide) (by omega) (by have := q.size; simp; omega) ?_)
        intro v' w7 own' q' kk'
        have qq := (q.trans ((below_one w6 _).mono q.size)).trans q'
        replace own' : w7.ownsRow w.heap.size 5 1 v' (8 + 37 * (j + 1)) ((E ++ [kBit false]).map (Value.int .u8)) := by
          rw [show 8 + 37 * (j + 1) = 8 + 37 * j + 4 + 32 + 1 by omega, List.map_append]
          simpa [kBit] using own'
        rw [← HE.out] at own'
        clear q' kk' rn own6 q
        go_wp2
        go_roundw
        case rel => exact ⟨j + 1, by omega, by go_num, own', qq⟩
        case measure => simp [RowKit.intOf]; omega
      · have rn := row_new .u8 w6 5 w6.heap.size rfl [1] 1 rfl (by unfold maxLen; omega) #[.int .u8 1] rfl
        go_wp2_with (at_builtin; refine wpList_append_gr _ rfl _ _ 24 rfl w.heap.size 5 i0 (.int .u8 0) Try.underlying24 hi0 hz0 hz1 hz2 rfl rfl (tt := 0) (.inl (own6.alloc _)) (some ⟨w6.heap.size, 0, none⟩) 1 1 [1] rfl rn (by decide) (by omega) (by have := q.size; simp; omega) ?_)
        intro v' w7 own' q' kk'
        have qq := (q.trans ((below_one w6 _).mono q.size)).trans q'
        replace own' : w7.ownsRow w.heap.size 5 1 v' (8 + 37 * (j + 1)) ((E ++ [kBit true]).map (Value.int .u8)) := by
          rw [show 8 + 37 * (j + 1) = 8 + 37 * j + 4 + 32 + 1 by omega, List.map_append]
          simpa [kBit] using own'
        rw [← HE.out] at own'
        clear q' kk' rn own6 q
        go_wp2
        go_roundw
        case rel => exact ⟨j + 1, by omega, by go_num, own', qq⟩
        case measure => simp [RowKit.intOf]; omega
    · obtain rfl : j = n := by omega
      rw [List.take_of_length_le (by rw [HL.out]; exact Nat.le_refl _), ← HB.out] at own
      go_wp2_with fail
      go_ret
      exact ⟨_, rfl, own, q⟩
end Go.Proofs.Ytjcfooiibgidhaa.N
