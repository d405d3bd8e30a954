/-
  The document's answer for layer 14 (casemateref14): rotr, three, Pad. (Pad: written by tools/gen/shb_ref3.py.)
-/
import Derived.Test.YthcnnglpncblaaaShbCode6
import Derived.Test.YthcnnglpncblaaaShaRef5
namespace Go.Proofs.Ythcnnglpncblaaa.B
open Go.RowKit
set_option linter.unusedVariables false
set_option maxRecDepth 8192

theorem refRotr14 (x n : Nat) (w : World) (hx : x < 18446744073709551616) (h0 : 0 < n) (h1 : n < 64) : Calls Try.prog 26 #[.int .u64 (x : Int), .int .u64 (n : Int)] w fun e w' => e = .returned (.int .u64 ((rr x n : Nat) : Int)) ∧ w = w' := by
  have es : IntKind.u64.wrap ((64 : Int) - (n : Int)) = ((64 - n : Nat) : Int) := by rw [IntKind.wrap_u64]; omega
  have et : (((64 : Int) - (n : Int))).toNat = 64 - n := by omega
  go_enter Try.func26, Try.ntmps26
  go_wp2
  have e1 : (x : Int) * 2 ^ (64 - n) % 18446744073709551616 = ((x * 2 ^ (64 - n) % 18446744073709551616 : Nat) : Int) := by simp
  have e2 : (x : Int) / 2 ^ n = ((x / 2 ^ n : Nat) : Int) := by simp
  go_ret
  exact ⟨ret_int (by rw [IntKind.wrap_u64, e1, e2, u64_or_nat _ _ (dlt hx) (mlt _), Nat.or_comm, rr_or x n hx (by omega)]), rfl⟩
theorem refThree14 (x a b c : Nat) (w : World) (hx : x < 18446744073709551616) (ha : 0 < a) (ha2 : a < 64) (hb : 0 < b) (hb2 : b < 64) (hc : 0 < c) (hc2 : c < 64) :
    Calls Try.prog 27 #[.int .u64 (x : Int), .int .u64 (a : Int), .int .u64 (b : Int), .int .u64 (c : Int)] w fun e w' => e = .returned (.int .u64 ((rr x a ^^^ rr x b ^^^ rr x c : Nat) : Int)) ∧ w = w' := by
  have la := rr_lt x a hx (by omega)
  have lb := rr_lt x b hx (by omega)
  have lc := rr_lt x c hx (by omega)
  have ka := fun w => refRotr14 x a w hx ha ha2
  have kb := fun w => refRotr14 x b w hx hb hb2
  have kc := fun w => refRotr14 x c w hx hc hc2
  generalize rr x a = ra at *
  generalize rr x b = rb at *
  generalize rr x c = rc at *
  have e1 := u64_xor_nat ra rb la lb
  have f1 := xlt la lb
  have HX : Hid (ra ^^^ rb ^^^ rc = ra ^^^ rb ^^^ rc) := rfl
  generalize ra ^^^ rb = y1 at *
  have e2 := u64_xor_nat y1 rc f1 lc
  have f2 := xlt f1 lc
  generalize y1 ^^^ rc = y2 at *
  go_enter Try.func27, Try.ntmps27
  go_wp2_with fail
  refine (ka _).mono ?_
  rintro e w' ⟨rfl, rfl⟩
  go_wp2_with fail
  refine (kb _).mono ?_
  rintro e w' ⟨rfl, rfl⟩
  go_wp2_with fail
  refine (kc _).mono ?_
  rintro e w' ⟨rfl, rfl⟩
  clear ka kb kc
  go_wp2
  go_ret
  exact ⟨rfl, rfl⟩
theorem pad_go {n k : Nat} (h : k < noughts n) : (n + 1 + k + 16) % 128 ≠ 0 := by unfold noughts at h; omega
theorem pad_end (n : Nat) : (n + 1 + noughts n + 16) % 128 = 0 := by unfold noughts; omega
set_option maxHeartbeats 3200000 in
theorem refPad14 (z : List Nat) (a : Option Addr) (len cap : Nat) (w : World) (hr : Row .u8 w a len cap (nI z)) (hl : len ≤ 100000) :
    Calls Try.prog 18 #[.slice a len cap] w fun e w' => ∃ v, e = .returned v ∧ w'.ownsRow w.heap.size 5 1 v (len + (noughts len + 17)) ((nI (z ++ padL len)).map (Value.int .u8)) ∧ Below w.heap.size w w' := by
  obtain ⟨i0, hi0, hz0, hz1, hz2⟩ := info_parts Try.info5
  have hn64 := noughts_lt len
  go_enter Try.func18, Try.ntmps18
  go_wp2_with (at_builtin; refine wpList_append_row _ rfl _ _ 29 rfl w.heap.size 5 i0 (.int .u8 0) 1 Try.underlying29 hi0 hz0 hz1 hz2 rfl _ 0 [] rfl (World.ownsRow_nil _ _ _ _) .u8 a len cap _ rfl hr (by unfold maxLen; omega) (by omega) (Nat.le_refl _) ?_)
  intro v1 w1 own1 hg1
  have q1 : Below w.heap.size w w1 := (Below.refl _ _).grown hg1 (Nat.le_refl _) (by simp [Value.ownBlock])
  have s1 := q1.size
  clear hg1
  go_wp2_with (at_builtin; refine wpList_append_own _ rfl _ _ 29 rfl w.heap.size 5 i0 (.int .u8 0) 1 1 Try.underlying29 hi0 hz0 hz1 hz2 rfl (by decide) _ _ _ rfl (own1.alloc _) ⟨w1.heap.size, 0, none⟩ 1 1 [.int .u8 128] rfl rfl (cell_one_new _ _ _) (by intro u hu; simp at hu; subst hu; rfl) (by unfold maxLen; omega) (by omega) (by simp; omega) ?_)
  intro v2 w2 own2' hg2 _
  have R2 := rel_push_u8 (x := 128) s1 own1 q1 own2' hg2
  clear own2' hg2 own1 q1
  go_wp2
  go_loopw [3] (fun v wr => ∃ k : Nat, k ≤ noughts len ∧ Hid (wr.ownsRow w.heap.size 5 1 v (len + 1 + k) ((nI (z ++ padTo len k)).map (Value.int .u8))) ∧ Hid (Below w.heap.size w wr)) (fun v _ => match v with | .slice _ l _ => 1000000 - l | _ => 1000000)
  case atStart => exact ⟨0, Nat.zero_le _, R2.1, R2.2⟩
  case round =>
    clear R2
    obtain ⟨k, hk, HO, HB⟩ := hrel
    obtain ⟨a3, c3, rfl, _⟩ := row_of_owns HO.out
    have s3 := HB.out.size
    by_cases hlt : k < noughts len
    · have hne := pad_go hlt
      have hq : (((len + 1 + k : Nat) : Int) + 16) % 128 ≠ 0 := by omega
      have hq2 : ((((len + 1 + k : Nat) : Int) + 16) % 128 != 0) = true := by simpa using hq
      have hown := HO.out
      have HLT : Hid (k < noughts len) := hlt
      have hL : len + 1 + k ≤ 200000 := by omega
      generalize hLk : len + 1 + k = L at *
      have HLk : Hid (len + 1 + k = L) := hLk
      clear hLk hne hq
      go_wp2_with (at_builtin; refine wpList_append_own _ rfl _ _ 29 rfl w.heap.size 5 i0 (.int .u8 0) 1 1 Try.underlying29 hi0 hz0 hz1 hz2 rfl (by decide) _ _ _ rfl (hown.alloc _) ⟨_, 0, none⟩ 1 1 [.int .u8 0] rfl rfl (cell_one_new _ _ _) (by intro u hu; simp at hu; subst hu; rfl) (by unfold maxLen; omega) (by omega) (by simp; omega) ?_)
      intro v4 w4 own4' hg4 _
      have R4 := rel_push_u8 (x := 0) s3 hown HB.out own4' hg4
      rw [List.append_assoc, padTo_snoc] at R4
      obtain ⟨a4, c4, rfl, _⟩ := row_of_owns R4.1
      clear own4' hg4
      go_wp2
      go_roundw
      case rel => exact ⟨k + 1, by have := HLT.out; omega, by rw [show len + 1 + (k + 1) = L + 1 from by have := HLk.out; omega]; exact R4.1, R4.2⟩
      case measure => simp only; omega
    · obtain rfl : k = noughts len := by omega
      have hq2 : ((((len + 1 + noughts len : Nat) : Int) + 16) % 128 != 0) = false := by have := pad_end len; simp; omega
      have hL0 : len + 1 + noughts len ≤ 200000 := by omega
      obtain ⟨n8, hn8⟩ : ∃ x, 8 * len = x := ⟨_, rfl⟩
      have HN8 : Hid (8 * len = n8) := hn8
      have e80 : (8 : Int) * (len : Int) = (n8 : Int) := by omega
      have hn8l : n8 ≤ 800000 := by omega
      clear hn8 hlt
      generalize hL0k : len + 1 + noughts len = L0 at *
      have HL0 : Hid (len + 1 + noughts len = L0) := hL0k
      clear hL0k
      go_wp2
      clear e80
      go_loopw [3, 5] (fun v y wr => ∃ j : Nat, j ≤ 8 ∧ y = .int .i64 (j : Int) ∧ Hid (wr.ownsRow w.heap.size 5 1 v (L0 + j) ((nI (z ++ padTo len (noughts len + j))).map (Value.int .u8))) ∧ Hid (Below w.heap.size w wr)) (fun _ y _ => 8 - (intOf y).toNat)
      case atStart => exact ⟨0, by omega, rfl, HO, HB⟩
      case round =>
        clear HO HB s3
        obtain ⟨j, hj, rfl, HO, HB⟩ := hrel
        have s3 := HB.out.size
        by_cases h8 : j < 8
        · have hown := HO.out
          have hL : L0 + j ≤ 200010 := by omega
          generalize hLk : L0 + j = L at *
          have HLk : Hid (L0 + j = L) := hLk
          clear hLk
          go_wp2_with (at_builtin; refine wpList_append_own _ rfl _ _ 29 rfl w.heap.size 5 i0 (.int .u8 0) 1 1 Try.underlying29 hi0 hz0 hz1 hz2 rfl (by decide) _ _ _ rfl (hown.alloc _) ⟨_, 0, none⟩ 1 1 [.int .u8 0] rfl rfl (cell_one_new _ _ _) (by intro u hu; simp at hu; subst hu; rfl) (by unfold maxLen; omega) (by omega) (by simp; omega) ?_)
          intro v4 w4 own4' hg4 _
          have R4 := rel_push_u8 (x := 0) s3 hown HB.out own4' hg4
          rw [List.append_assoc, padTo_snoc] at R4
          clear own4' hg4
          go_wp2
          go_roundw
          case rel => exact ⟨j + 1, by omega, by go_num, by rw [show L0 + (j + 1) = L + 1 from by have := HLk.out; omega]; exact R4.1, R4.2⟩
          case measure => simp [intOf]; omega
        · obtain rfl : j = 8 := by omega
          have HP : Hid (z ++ padL len = z ++ padTo len (noughts len + 8) ++ beN 8 (8 * len)) := by show _ = _; rw [beN_eight]; simp [padL, padTo]
          have hown := HO.out
          have HB8 : Hid (∀ j, j < 8 → (beN 8 (8 * len)).take (j + 1) = (beN 8 (8 * len)).take j ++ [8 * len / 2 ^ (8 * (7 - j)) % 256]) := fun j hj => by
            rw [take_snocN _ _ (by rw [beN_length]; exact hj), beN_get 8 (8 * len) j hj, pow256, show 8 - 1 - j = 7 - j from by omega]
          have hfull : (beN 8 (8 * len)).take 8 = beN 8 (8 * len) := List.take_of_length_le (by rw [beN_length]; exact Nat.le_refl _)
          have HFl : Hid ((beN 8 (8 * len)).take 8 = beN 8 (8 * len)) := hfull
          clear hfull
          have hN : 8 * len ≤ 800000 := by omega
          have HNN : Hid (8 * len = 8 * len) := rfl
          have hL : L0 + 8 ≤ 200010 := by omega
          generalize hLk : L0 + 8 = L at *
          have HLk : Hid (L0 + 8 = L) := hLk
          clear hLk
          obtain ⟨N, hNe⟩ : ∃ N, 8 * len = N := ⟨_, rfl⟩
          obtain rfl : N = n8 := by rw [← hNe]; exact HN8.out
          rw [hNe] at hN HP HB8 HFl
          clear hNe
          generalize beN 8 N = bl at *
          generalize z ++ padTo len (noughts len + 8) = zp at *
          rw [show ((8 : Nat) : Int) = 8 from rfl]
          go_wp2
          go_loopw [3, 6] (fun v y wr => ∃ j : Nat, j ≤ 8 ∧ y = .int .i64 (7 - (j : Int)) ∧ Hid (wr.ownsRow w.heap.size 5 1 v (L + j) ((nI (zp ++ bl.take j)).map (Value.int .u8))) ∧ Hid (Below w.heap.size w wr)) (fun _ y _ => (intOf y + 1).toNat)
          case atStart => exact ⟨0, by omega, rfl, by rw [List.take_zero, List.append_nil]; exact HO, HB⟩
          case round =>
            clear HO HB hown s3
            obtain ⟨j, hj, rfl, HO, HB⟩ := hrel
            have hown := HO.out
            have s4 := HB.out.size
            by_cases h8 : j < 8
            · have HT := HB8.out j h8
              have HT2 : Hid (bl.take (j + 1) = bl.take j ++ [N / 2 ^ (8 * (7 - j)) % 256]) := HT
              clear HT
              have em : (8 : Int) * (7 - (j : Int)) = ((8 * (7 - j) : Nat) : Int) := by omega
              have hpe : 8 * (7 - j) ≤ 56 := by omega
              obtain ⟨pe, hpe0⟩ : ∃ x, 8 * (7 - j) = x := ⟨_, rfl⟩
              rw [hpe0] at em hpe HT2
              clear hpe0
              have hd : (N : Int) / 2 ^ pe = ((N / 2 ^ pe : Nat) : Int) := by simp
              have hdl : N / 2 ^ pe ≤ N := Nat.div_le_self _ _
              obtain ⟨d, hd0⟩ : ∃ x, N / 2 ^ pe = x := ⟨_, rfl⟩
              rw [hd0] at hd hdl HT2
              clear hd0
              have hj7 : (0 : Int) ≤ 7 - (j : Int) := by omega
              have hwp : IntKind.u64.wrap (pe : Int) = (pe : Int) := by rw [IntKind.wrap_u64]; omega
              have htn : ((pe : Int)).toNat = pe := by omega
              go_wp2_with (at_builtin; refine wpList_append_own _ rfl _ _ 29 rfl w.heap.size 5 i0 (.int .u8 0) 1 1 Try.underlying29 hi0 hz0 hz1 hz2 rfl (by decide) _ _ _ rfl (hown.alloc _) ⟨_, 0, none⟩ 1 1 [.int .u8 ((d : Int) % 256)] rfl rfl (cell_one_new _ _ _) (by intro u hu; simp at hu; subst hu; rfl) (by unfold maxLen; omega) (by omega) (by simp; omega) ?_)
              intro v5 w5 own5' hg5 _
              rw [show (d : Int) % 256 = ((d % 256 : Nat) : Int) from by omega] at own5'
              have R5 := rel_push_u8 (x := d % 256) s4 hown HB.out own5' hg5
              rw [List.append_assoc, ← HT2.out] at R5
              clear own5' hg5
              go_wp2
              go_roundw
              case rel => exact ⟨j + 1, by omega, by go_num, R5.1, R5.2⟩
              case measure => simp [intOf]; omega
            · obtain rfl : j = 8 := by omega
              rw [HFl.out, ← HP.out, show L + 8 = len + (noughts len + 17) from by have := HLk.out; have := HL0.out; omega] at hown
              go_wp2
              go_ret
              exact ⟨_, rfl, hown, HB.out⟩
end Go.Proofs.Ythcnnglpncblaaa.B
