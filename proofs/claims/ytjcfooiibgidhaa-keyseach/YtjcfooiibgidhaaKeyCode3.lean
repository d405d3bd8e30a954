/-
  The code of layer 21 (keys), as it landed: Bytes.
-/
import Derived.Test.YtjcfooiibgidhaaKeyCode2
namespace Go.Proofs.Ytjcfooiibgidhaa.N
open Go.RowKit
set_option linter.unusedVariables false
set_option maxRecDepth 8192

theorem kys_take (l : List Ky) (k : Nat) (h : k < l.length) : (l.take (k + 1)).flatMap kyBytes = (l.take k).flatMap kyBytes ++ kyBytes (kyI l k) := by
  rw [List.take_add_one, List.getElem?_eq_getElem h, kyI_lt h, List.flatMap_append]
  simp only [Option.toList, List.flatMap_cons, List.flatMap_nil, List.append_nil]
section
variable {w : World} {g : Nat} {T : TypeId} {k : Ky}
theorem ky_num (h : w.heap[g]? = some (.cells (kA k) T (0, 0))) : w.cell? ⟨g, 0, none⟩ = some (.int .i64 k.num) := man_c h 0
theorem ky_rev (hk : k.Ok) (h : w.heap[g]? = some (.cells (kA k) T (0, 0))) : w.cell? ⟨g, 33, none⟩ = some (.bool k.rev) := by rw [man_c h 33, kA, List.getElem?_toArray]; exact kC_33 hk
theorem ky_dig (hk : k.Ok) (h : w.heap[g]? = some (.cells (kA k) T (0, 0))) : Row .u8 w (some ⟨g, 1, none⟩) 32 32 k.dig := by
  have := kr_row hk (range_all h)
  simpa using this
end
set_option maxHeartbeats 1600000 in
theorem kBytes_no {a : Option Addr} {n cap : Nat} {l : List Ky} {w : World} (hr : KRow w a n cap l) (ho : ∀ s ∈ l, s.Ok) (hm : mayK l = false) :
    Calls Try.prog 9 #[.slice a n cap] w fun e w' => e = .returned (.tuple #[.slice none 0 0, .int .i64 1]) ∧ Below w.heap.size w w' := by
  have h := kMayBe_any hr ho
  rw [hm] at h
  go_enter Try.func9, Try.ntmps9
  go_wp2_with fail
  refine h.mono ?_
  rintro e w2 ⟨rfl, q1⟩
  clear h hr hm
  go_wp2_with fail
  go_ret2
  exact ⟨rfl, q1⟩
set_option maxHeartbeats 3200000 in
theorem kBytes_yes {a : Option Addr} {n cap : Nat} {l : List Ky} {w : World} (hr : KRow w a n cap l) (ho : ∀ s ∈ l, s.Ok) (hm : mayK l = true) :
    Calls Try.prog 9 #[.slice a n cap] w fun e w' => ∃ u, e = .returned (.tuple #[u, .int .i64 0]) ∧ w'.ownsRow w.heap.size 5 1 u (8 + 37 * n) ((rBytes l).map (Value.int .u8)) ∧ Below w.heap.size w w' := by
  obtain ⟨i0, hi0, hz0, hz1, hz2⟩ := info_parts Try.info5
  have HL : Hid (l.length = n) := hr.hlen
  have hn8 : n ≤ 8 := by rw [← HL.out]; exact (mayK_yes hm).1
  have mc := hr.hcap
  have mm := hr.hmax
  unfold maxLen at mm
  have HB : Hid (rBytes l = kHead n ++ l.flatMap kyBytes) := by show _ = _; rw [← HL.out]; rfl
  have HA : Hid (kHead n = ringL ++ four (n : Int)) := rfl
  have HM : Hid (mayK l = true) := hm
  have h := kMayBe_any hr ho
  rw [hm] at h
  go_enter Try.func9, Try.ntmps9
  go_wp2_with fail
  refine h.mono ?_
  rintro e w2 ⟨rfl, q1⟩
  have kc := Lib.run_convert_bytes_const (P := Try.prog) w2 24 5 #[.int .u8 114, .int .u8 105, .int .u8 110, .int .u8 103] 4 4 Try.underlying24 Try.underlying5
  have qm := below_one w2 (.cells #[.int .u8 114, .int .u8 105, .int .u8 110, .int .u8 103] 5 (4, 5))
  have ro := row_marked .u8 w2 5 (4, 5) ringL 4 rfl (by unfold maxLen; omega) #[.int .u8 114, .int .u8 105, .int .u8 110, .int .u8 103] rfl
  replace q1 := btrans q1 qm
  clear h hm qm
  go_wp2_with fail
  clear kc
  generalize w2.alloc (.cells #[.int .u8 114, .int .u8 105, .int .u8 110, .int .u8 103] 5 (4, 5)) = w3 at *
  refine (kLay_any (B := w.heap.size) (t := 0) (.inr ⟨rfl, by decide, _, rfl, ro⟩) q1.size (x := (n : Int)) (by decide) (by omega)).mono ?_
  rintro e w4 ⟨u4, rfl, own4, q4, _⟩
  rw [← HA.out] at own4
  replace q1 := q1.trans q4
  clear q4 ro
  generalize kHead n = A at *
  go_wp2_with fail
  go_loopw [4, 17] (fun u i wr => ∃ j : Nat, j ≤ n ∧ i = .int .i64 (j : Int) ∧ wr.ownsRow w.heap.size 5 1 u (8 + 37 * j) ((A ++ (l.take j).flatMap kyBytes).map (Value.int .u8)) ∧ Below w.heap.size w wr) (fun _ i _ => n - (RowKit.intOf i).toNat)
  case atStart => exact ⟨0, Nat.zero_le _, rfl, by simpa using own4, q1⟩
  case round =>
    clear own4 q1
    obtain ⟨j, hj, rfl, own, q⟩ := hrel
    by_cases hlt : j < n
    · obtain ⟨b, off, rfl, hbs, hcell⟩ := (hr.below q (Nat.le_refl _)).hcell (by omega)
      have hx := hcell j hlt
      have hs := kyI_ok ho j
      have hjl : j < l.length := by rw [HL.out]; exact hlt
      have hb := mayK_bd HM.out hjl
      have HT : Hid (A ++ (l.take (j + 1)).flatMap kyBytes = (A ++ (l.take j).flatMap kyBytes) ++ kyBytes (kyI l j)) := by show _ = _; rw [kys_take l j hjl, List.append_assoc]
      clear hcell hjl
      generalize kyI l j = x at *
      generalize A ++ (l.take j).flatMap kyBytes = D at *
      have HX : Hid (kyBytes x = four x.num ++ (x.dig ++ [kBit x.rev])) := rfl
      have hlt' : (j : Int) < (n : Int) := by omega
      have V0 := Vars.start wr
      go_wp2_with (first
        | (refine wpList_load_mid rfl 39 _ rfl b (off + j * 34) rfl (kC x) _ hx Try.underlying39 rfl (by rw [kC_len hs]; exact Try.szKy) ?_)
        | (refine wpList_allocV V0 6 39 rfl rfl rfl (kA ky0) zeroKy ?_; intro w5 g5 V5)
        | (refine wpList_storeV V5 0 rfl _ (.tmp 20) rfl rfl rfl (kA x) rfl rfl Try.szKy (kA_size ky0_ok) (kA_size hs) (kA_one x) ?_; intro w6 V6))
      have own6 := (own_below own V6.bel).drew
      have q6 := (btrans q V6.bel).drew
      replace V6 := V6.drew
      clear own q hx V5 V0
      refine av_open (fun w' => w'.heap[g5]? = some (.cells (kA x) 39 (0, 0))) (by kernel_rfl) ?_
      refine held_reads (rs := [0, 1, 2, 4, 5]) (fuel := 3) (by kernel_rfl) (fun c d v a w h => by cases d <;> exact h) (by kernel_rfl) (V6.at 0 rfl) (fun K hK => ?_)
      refine calm_move _ rfl (by rfl) rfl ?_
      go_simp
      refine calm_do (.pointer (some ⟨g5, 0, none⟩)) rfl (by rfl) (fun w' hw' => ?_) ?_
      · go_simp
      go_simp
      refine calm_do (.int .i64 x.num) rfl (by rfl) (fun w' hw' => ?_) ?_
      · have c0 := ky_num hw'
        go_simp
      go_simp
      refine calm_do (.pointer (some ⟨g5, 1, none⟩)) rfl (by rfl) (fun w' hw' => ?_) ?_
      · go_simp
      go_simp
      refine calm_do (.slice (some ⟨g5, 1, none⟩) 32 32) rfl (by rfl) (fun w' hw' => exec_sliceDig g5 1 _ rfl rfl) ?_
      go_simp
      refine calm_nil (hK.out _ ?_)
      clear hK K
      generalize w6.drew = w7 at *
      refine av_op (i := 3) (fuel := 2) (by kernel_rfl) rfl (by rfl) (fun K hK => ?_)
      go_simp
      refine (kLay_any (B := w.heap.size) (t := 0) (.inl own6) q6.size (by omega) hb).mono ?_
      rintro e w9 ⟨u9, rfl, own9, q9, kp9⟩
      have hg9 := kp9 _ _ _ (by decide) (V6.at 0 rfl)
      refine hK _ _ hg9 ?_
      clear hK K V6 own6 kp9
      replace q6 := q6.trans q9
      clear q9
      have rd := ky_dig hs hg9
      refine av_op (i := 6) (fuel := 1) (by kernel_rfl) rfl (by rfl) (fun K hK => ?_)
      refine wp_append_gr _ _ 24 rfl w.heap.size 5 i0 (.int .u8 0) Try.underlying24 hi0 hz0 hz1 hz2 rfl rfl own9 (some ⟨g5, 1, none⟩) 32 32 x.dig rfl rd (by decide) (by omega) q6.size ?_
      intro v10 w10 own10 q10 kp10
      have hg10 := kp10 _ _ _ (by decide) hg9
      refine hK _ _ hg10 ?_
      clear hK K own9 kp10 rd hg9
      replace q6 := q6.trans q10
      clear q10
      refine held_reads (rs := [7]) (fuel := 0) (by kernel_rfl) (fun c d v a w h => by cases d <;> exact h) (by kernel_rfl) hg10 (fun K hK => ?_)
      go_simp
      refine calm_assign _ rfl (by rfl) rfl ?_
      go_simp
      refine calm_nil (hK.out _ ?_)
      clear hK K
      refine wpAnyH_done (by kernel_rfl) ?_ _
      have c33 := ky_rev hs hg10
      have HE : Hid (A ++ (l.take (j + 1)).flatMap kyBytes = (D ++ four x.num ++ x.dig) ++ [kBit x.rev]) := by show _ = _; rw [HT.out, HX.out]; simp only [List.append_assoc]
      clear HT HX hg10
      generalize D ++ four x.num ++ x.dig = E at *
      generalize x.rev = r at *
      have hmk := kMark_any r w10
      go_wp2_with fail
      refine hmk.mono ?_
      rintro e w' ⟨rfl, rfl⟩
      have hby := isB_bit r (kBit r) (List.mem_singleton.2 rfl)
      clear hmk c33
      generalize kBit r = y at *
      have rn := row_new .u8 w10 5 w10.heap.size rfl [y] 1 rfl (by unfold maxLen; omega) #[.int .u8 y] rfl
      go_wp2_with (at_builtin; refine wpList_append_gr _ rfl _ _ 24 rfl w.heap.size 5 i0 (.int .u8 0) Try.underlying24 hi0 hz0 hz1 hz2 rfl rfl (tt := 0) (.inl (own10.alloc _)) (some ⟨w10.heap.size, 0, none⟩) 1 1 [y] rfl rn (by decide) (by omega) (by have := q6.size; simp; omega) ?_)
      intro v' w1 own' q' kk'
      have qq := (q6.trans ((below_one w10 _).mono q6.size)).trans q'
      replace own' : w1.ownsRow w.heap.size 5 1 v' (8 + 37 * (j + 1)) ((E ++ [y]).map (Value.int .u8)) := by
        rw [show 8 + 37 * (j + 1) = 8 + 37 * j + 4 + 32 + 1 by omega, List.map_append]
        simpa using own'
      rw [← HE.out] at own'
      clear q' kk' rn own10 q6
      go_wp2
      go_roundw
      case rel => exact ⟨j + 1, by omega, by go_num, own', qq⟩
      case measure => simp [RowKit.intOf]; omega
    · obtain rfl : j = n := by omega
      rw [List.take_of_length_le (by rw [HL.out]; exact Nat.le_refl _), ← HB.out] at own
      go_wp2_with fail
      go_ret2
      exact ⟨_, rfl, own, q⟩
end Go.Proofs.Ytjcfooiibgidhaa.N
