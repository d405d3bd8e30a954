/-
  The contracts of the reference's Put and Turn: a new row of the bytes that the plain functions give; nothing old turns.
-/
import Derived.Test.YtmdiblknjgkpoaaFour
namespace Go.Proofs.Ytmdiblknjgkpoaa
open Go.RowKit
set_option linter.unusedVariables false

theorem pow_step (k : Nat) : (2 : Int) * 2 ^ k = 2 ^ (k + 1) := by rw [Int.pow_succ]; omega
theorem pow_bd (k : Nat) (hk : k ≤ 7) : (1 : Int) ≤ 2 ^ k ∧ (2 : Int) ^ k ≤ 128 := by
  have : ∀ k : Fin 8, (1 : Int) ≤ 2 ^ k.val ∧ (2 : Int) ^ k.val ≤ 128 := by decide
  exact this ⟨k, by omega⟩

theorem fin_mod : ∀ c : Fin 256, ∀ k : Fin 9, 0 ≤ (c.val : Int) % 2 ^ k.val ∧ (c.val : Int) % 2 ^ k.val ≤ 255 := by decide +kernel
theorem byte_mod (c : Int) (k : Nat) (h0 : 0 ≤ c) (h1 : c ≤ 255) (hk : k ≤ 8) : 0 ≤ c % 2 ^ k ∧ c % 2 ^ k ≤ 255 :=
  of_fin (P := fun c => 0 ≤ c % 2 ^ k ∧ c % 2 ^ k ≤ 255) (fun c => fin_mod c ⟨k, by omega⟩) c h0 h1

theorem put_val {z : List Int} (h : IsB z) (i : Nat) (hi : i < 8 * z.length) : ((putTo z i)[i / 8]?.getD 0 + wrap64 (2 ^ (i % 8) * bitI z i)) % 256 = (putTo z i)[i / 8]?.getD 0 + 2 ^ (i % 8) * bitI z i := by
  rw [putTo_at z i (i / 8) (by omega), show min 8 (i - 8 * (i / 8)) = i % 8 from by omega]
  have hz := h.idx (i / 8)
  have e := byte_part _ (i % 8) hz.1 hz.2 (by omega)
  have m := byte_mod _ (i % 8 + 1) hz.1 hz.2 (by omega)
  have p := pow_bd (i % 8) (by omega)
  have hw : wrap64 (2 ^ (i % 8) * bitI z i) = 2 ^ (i % 8) * bitI z i := by
    rcases bitI_01 z i with b | b <;> rw [b]
    · rw [Int.mul_zero]; exact IntWalk.wrap64_in _ ⟨by omega, by omega⟩
    · rw [Int.mul_one]; exact IntWalk.wrap64_in _ ⟨by omega, by omega⟩
  rw [hw]
  unfold bitI
  rw [← e]
  omega

/-- The round of Put that lays a bit. -/
theorem rel_put {w wr : World} {g n i : Nat} {z : List Int} (h : IsB z) (hz : z.length = n) (hi : i < 8 * n) (hown : wr.ownsRow g 5 1 (.slice (some ⟨g, 0, none⟩) n n) n ((putTo z i).map (Value.int .u8))) (hnx : Below g w wr) :
    (wr.setCell ⟨g, i / 8, none⟩ (.int .u8 (((putTo z i)[i / 8]?.getD 0 + wrap64 (2 ^ (i % 8) * bitI z i)) % 256))).drew.ownsRow g 5 1 (.slice (some ⟨g, 0, none⟩) n n) n ((putTo z (i + 1)).map (Value.int .u8)) ∧
    Below g w (wr.setCell ⟨g, i / 8, none⟩ (.int .u8 (((putTo z i)[i / 8]?.getD 0 + wrap64 (2 ^ (i % 8) * bitI z i)) % 256))).drew := by
  rw [put_val h i (by omega)]
  refine ⟨?_, (hnx.setCell (Nat.le_refl _) _).drew⟩
  have := (hown.stored (i / 8) (.int .u8 ((putTo z i)[i / 8]?.getD 0 + 2 ^ (i % 8) * bitI z i))).1.drew
  rw [putTo_succ h i (by omega), List.map_set]
  exact this

set_option maxHeartbeats 1600000 in
theorem put_any (c : Option Addr) (n cap' : Nat) (z : List Int) (w : World) (hb : IsB z) (hz : z.length = n) (hr : Row .i64 w c (8 * n) cap' (bitsTo z (8 * n))) (hsm : n ≤ 1000) :
    Calls Try.prog 23 #[.slice c (8 * n) cap'] w fun e w' => Below w.heap.size w w' ∧
      e = .returned (.slice (some ⟨w.heap.size, 0, none⟩) n n) ∧ w'.ownsRow w.heap.size 5 1 (.slice (some ⟨w.heap.size, 0, none⟩) n n) n (z.map (Value.int .u8)) := by
  obtain ⟨i0, hi0, hz0, hz1, hz2⟩ := info_parts Try.info5
  have hmax : n ≤ maxLen := by unfold maxLen; omega
  have HZ : Hid (z.length = n) := hz
  clear hz
  have hmk : ∀ w1 : World, w1.ownsRow w.heap.size 5 1 (.slice (some ⟨w.heap.size, 0, none⟩) n n) n (madeCells (Value.int IntKind.u8 0).cells (n * 1)).toList → w.grownBy w1 none →
      w1.ownsRow w.heap.size 5 1 (.slice (some ⟨w.heap.size, 0, none⟩) n n) n ((putTo z 0).map (Value.int .u8)) ∧ Below w.heap.size w w1 := fun w1 h1 h2 => by
    refine ⟨?_, (Below.refl _ _).grown h2 (Nat.le_refl _) (by simp)⟩
    have e : (madeCells (Value.int IntKind.u8 0).cells (n * 1)).toList = (putTo z 0).map (Value.int .u8) := by
      rw [putTo_zero, HZ.out, Nat.mul_one]
      simpa [Value.cells] using toList_madeCells_one (Value.int IntKind.u8 0) n
    rw [e] at h1
    exact h1
  go_enter Try.func23, Try.ntmps23
  go_wp2_with (at_make; refine wpList_make_full _ rfl _ _ 22 rfl w.heap.size 5 i0 (.int .u8 0) 1 Try.underlying22 hi0 hz0 hz1 _ _ _ _ n rfl rfl (by omega) (by omega) (by rw [hz2]; omega) hmax (Nat.le_refl _) ?_; intro w1 hown1 hgrow1)
  obtain ⟨hown2, hb2⟩ := hmk w1 hown1 hgrow1
  clear hmk hown1 hgrow1
  go_loopw [4] (fun y wr => ∃ i : Nat, i ≤ 8 * n ∧ y = .int .i64 i ∧ wr.ownsRow w.heap.size 5 1 (.slice (some ⟨w.heap.size, 0, none⟩) n n) n ((putTo z i).map (Value.int .u8)) ∧ Below w.heap.size w wr) (fun y _ => 8 * n - (intOf y).toNat)
  case atStart => exact ⟨0, Nat.zero_le _, rfl, hown2, hb2⟩
  case round =>
    clear hown2 hb2
    obtain ⟨i, hi, rfl, hown, hnx⟩ := hrel
    by_cases hlt : i < 8 * n
    · have hrr := hr.below hnx (Nat.le_refl _)
      obtain ⟨b, off, rfl, hbs, hcell⟩ := hrr.hcell (by omega)
      have hc1 := hcell i hlt
      rw [bitsTo_at z (8 * n) i hlt] at hc1
      clear hcell hrr
      have hbit := bitI_01 z i
      have hcl := owned_cell hown (i / 8) (by omega)
      have hfz := hown.frozenAt (i / 8)
      go_wp2
      go_loop [5, 6] (fun x y => ∃ k : Nat, k ≤ i % 8 ∧ y = .int .i64 k ∧ x = .int .i64 (2 ^ k)) (fun _ y => i % 8 - (intOf y).toNat)
      case atStart => exact ⟨0, Nat.zero_le _, rfl, rfl⟩
      case round =>
        obtain ⟨k, hk, rfl, rfl⟩ := hrel
        have hp := pow_bd k (by omega)
        by_cases hlt2 : k < i % 8
        · go_wp2
          go_round
          case rel => exact ⟨k + 1, by omega, by go_num, by rw [← pow_step]⟩
          case measure => simp [intOf]; omega
        · have e : k = i % 8 := by omega
          subst e
          go_wp2
          go_region
          all_goals go_wp2
          have R := rel_put hb HZ.out hlt hown hnx
          go_roundw
          case rel => exact ⟨i + 1, by omega, by go_num, R.1, R.2⟩
          case measure => simp [intOf]; omega
    · have e : i = 8 * n := by omega
      subst e
      have hf : putTo z (8 * n) = z := by have := putTo_end hb; rwa [HZ.out] at this
      rw [hf] at hown
      clear hf
      go_wp2
      go_ret
      exact ⟨hnx, rfl, hown⟩

theorem owns_base {w : World} {base base' : Nat} {e : TypeId} {size : Nat} {v : Value} {n : Nat} {xs : List Value} (h : w.ownsRow base e size v n xs) (hb : base' ≤ base) : w.ownsRow base' e size v n xs := by
  refine ⟨h.1, ?_⟩
  rcases h.2 with h2 | ⟨g, cap, cur, hv, hg, r⟩
  · exact .inl h2
  · exact .inr ⟨g, cap, cur, hv, by omega, r⟩

/-- The round of the reference's Turn. -/
theorem rel_refturn {w wr : World} {g n q cap : Nat} {z : List Int} {B : Nat} (h : IsB z) (hz : z.length = n) (hq : q < 8 * n) (hB : B ≤ g) (hown : wr.ownsRow B 3 1 (.slice (some ⟨g, 0, none⟩) (8 * n) cap) (8 * n) ((bitsTo z (8 * n)).map (Value.int .i64))) (hnx : Below B w wr) :
    (wr.setCell ⟨g, q, none⟩ (.int .i64 (1 - bitI z q))).drew.ownsRow B 3 1 (.slice (some ⟨g, 0, none⟩) (8 * n) cap) (8 * n) ((bitsTo (turn1 z q) (8 * n)).map (Value.int .i64)) ∧
    Below B w (wr.setCell ⟨g, q, none⟩ (.int .i64 (1 - bitI z q))).drew := by
  refine ⟨?_, (hnx.setCell hB _).drew⟩
  have := (hown.stored q (.int .i64 (1 - bitI z q))).1.drew
  subst hz
  rw [← set_bitsTo h q hq, List.map_set]
  exact this

set_option maxHeartbeats 1600000 in
theorem refTurn_any (a c : Option Addr) (len cap len' cap' : Nat) (z ps : List Int) (w : World) (hr : Row .u8 w a len cap z) (hb : IsB z) (hr' : Row .i64 w c len' cap' ps) (hin : inAll len ps) (hsm : len ≤ 1000) :
    Calls Try.prog 16 #[.slice a len cap, .slice c len' cap'] w fun e w' => ∃ v, e = .returned v ∧ w'.ownsRow w.heap.size 5 1 v len ((turnI z ps).map (Value.int .u8)) ∧ Below w.heap.size w w' := by
  have hm' := hr'.hmax
  have hc' := hr'.hcap
  have HZ : Hid (z.length = len) := hr.hlen
  have HL' : Hid (ps.length = len') := hr'.hlen
  unfold maxLen at hm'
  have hpb : Hid (∀ k, k < len' → ∃ q : Nat, ps[k]?.getD 0 = (q : Int) ∧ q < 8 * len ∧ turnI z (ps.take (k + 1)) = turn1 (turnI z (ps.take k)) q) := fun k hk => by
    have hk' : k < ps.length := by have := HL'.out; omega
    have := hin.idx k hk'
    refine ⟨(ps[k]?.getD 0).toNat, by omega, by omega, ?_⟩
    rw [take_snoc ps k hk', turnI_snoc]
  go_enter Try.func16, Try.ntmps16
  go_wp2_with fail
  refine (all_any _ _ _ z _ hr hb hsm).mono ?_
  rintro e w1 ⟨v, rfl, hown1, hb1⟩
  obtain ⟨ao, capo, rfl, hrow⟩ := row_of_owns hown1
  clear hrow
  go_wp2_with fail
  go_loopw [6] (fun y wr => ∃ i : Nat, i ≤ len' ∧ y = .int .i64 i ∧ wr.ownsRow w.heap.size 3 1 (.slice ao (8 * len) capo) (8 * len) ((bitsTo (turnI z (ps.take i)) (8 * len)).map (Value.int .i64)) ∧ Below w.heap.size w wr) (fun y _ => len' - (intOf y).toNat)
  case atStart => exact ⟨0, Nat.zero_le _, rfl, hown1, hb1⟩
  case round =>
    clear hown1 hb1
    obtain ⟨i, hi, rfl, hown, hnx⟩ := hrel
    have hsz := hnx.size
    by_cases hlt : i < len'
    · have hrr := hr'.below hnx (Nat.le_refl _)
      obtain ⟨b, off, rfl, hbs, hcell⟩ := hrr.hcell (by omega)
      have hc1 := hcell i hlt
      clear hcell hrr
      obtain ⟨q, hq1, hq2, hq3⟩ := hpb.out i hlt
      rw [hq1] at hc1
      have HQ : Hid (turnI z (ps.take (i + 1)) = turn1 (turnI z (ps.take i)) q) := hq3
      clear hq1 hq3
      obtain ⟨g, hg, rfl⟩ : ∃ g, w.heap.size ≤ g ∧ ao = some ⟨g, 0, none⟩ := by
        rcases hown.2 with ⟨h', h''⟩ | ⟨g, cap1, cur, h', hge, _⟩
        · omega
        · simp only [Value.slice.injEq] at h'
          exact ⟨g, hge, h'.1⟩
      have hcl := owned_cell hown q hq2
      have hfz := hown.frozenAt q
      have hbb := isB_turnI hb (ps.take i)
      have hln : Hid ((turnI z (ps.take i)).length = len) := by show _ = _; rw [length_turnI]; exact HZ.out
      rw [bitsTo_at _ (8 * len) q hq2] at hcl
      have hbit := bitI_01 (turnI z (ps.take i)) q
      have R := rel_refturn hbb hln.out hq2 hg hown hnx
      rw [← HQ.out] at R
      have HR : Hid _ := R
      clear R hown hnx
      have hqi : (q : Int) < 8 * (len : Int) := by omega
      have hii : (i : Int) < (len' : Int) := by omega
      go_wp2
      go_region
      all_goals go_wp2
      go_roundw
      case rel => exact ⟨i + 1, by omega, by go_num, HR.out.1, HR.out.2⟩
      case measure => simp [intOf]; omega
    · have e : i = len' := by omega
      subst e
      rw [List.take_of_length_le (by have := HL'.out; omega)] at hown
      obtain ⟨ao', capo', hv, hrow⟩ := row_of_owns hown
      simp only [Value.slice.injEq, true_and] at hv
      obtain ⟨rfl, rfl⟩ := hv
      clear hpb
      go_wp2_with fail
      refine (put_any _ len _ (turnI z ps) _ (isB_turnI hb ps) (by rw [length_turnI]; exact HZ.out) hrow hsm).mono ?_
      rintro e w2 ⟨hb2, rfl, hown2⟩
      go_wp2
      go_ret
      exact ⟨_, rfl, owns_base hown2 hsz, hnx.trans (hb2.mono hsz)⟩

end Go.Proofs.Ytmdiblknjgkpoaa
