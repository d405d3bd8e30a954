/-
  Layer 1: the contracts of bits and of its reference, over the seat's program: each returns what the plain functions give; nothing old turns.
-/
import Derived.Test.YtjagnpljhedfjaaBitsPlain
import Derived.Test.YtjagnpljhedfjaaBase
import Derived.Test.YtjagnpljhedfjaaRows
namespace Go.Proofs.Ytjagnpljhedfjaa
open Go.RowKit
set_option linter.unusedVariables false
set_option maxRecDepth 8192

theorem Try.info3 : (Try.prog.info? 3).map (fun i => (i.zero, i.size, i.bytes)) = some (some (.int .i64 0), 1, 8) := by kernel_rfl
theorem Try.info5 : (Try.prog.info? 5).map (fun i => (i.zero, i.size, i.bytes)) = some (some (.int .u8 0), 1, 1) := by kernel_rfl

/-- Is there a bit i? -/
def hasB (len : Nat) (i : Int) : Bool := decide (0 ≤ i ∧ i < 8 * (len : Int))

theorem fin_and1 : ∀ c : Fin 256, bits BinOp.and IntKind.i64 (c.val : Int) 1 = (c.val : Int) % 2 := by decide +kernel

theorem shr_le (c : Int) (k : Nat) (h0 : 0 ≤ c) (h1 : c ≤ 255) : 0 ≤ c / 2 ^ k ∧ c / 2 ^ k ≤ 255 := by
  have hp : (0 : Int) < 2 ^ k := Int.pow_pos (by decide)
  refine ⟨Int.ediv_nonneg h0 (by omega), ?_⟩
  have := Int.ediv_le_self (a := c) (2 ^ k) h0
  omega

theorem and_bit (c : Int) (k : Nat) (h0 : 0 ≤ c) (h1 : c ≤ 255) : bits BinOp.and IntKind.i64 (c / 2 ^ k) 1 = bitAt c k :=
  of_fin (P := fun c => bits BinOp.and IntKind.i64 c 1 = c % 2) fin_and1 _ (shr_le c k h0 h1).1 (shr_le c k h0 h1).2

/-- The reference's At: the loop halves i % 8 times. -/
theorem half_step (c : Int) (k : Nat) : c / 2 ^ k / 2 = c / 2 ^ (k + 1) := by
  rw [Int.ediv_ediv_of_nonneg (Int.le_of_lt (Int.pow_pos (by decide))), Int.pow_succ]

theorem ones_step (z : List Int) (i k : Nat) (hk : k < 8) : onesTo z (8 * i + k) + bitAt (z[i]?.getD 0) k = onesTo z (8 * i + (k + 1)) := by
  rw [show 8 * i + (k + 1) = 8 * i + k + 1 from by omega, onesTo_succ]
  unfold bitI
  rw [show (8 * i + k) / 8 = i from by omega, show (8 * i + k) % 8 = k from by omega]

/-- Are all places there? -/
def inB (len : Nat) (ps : List Int) : Bool := ps.all (hasB len)

theorem inB_iff (len : Nat) (ps : List Int) : inB len ps = true ↔ inAll len ps := by
  unfold inB inAll hasB; simp

theorem inB_false (len : Nat) (ps : List Int) (k : Nat) (hk : k < ps.length) (h : hasB len (ps[k]?.getD 0) = false) : inB len ps = false := by
  rw [← Bool.not_eq_true, inB_iff]
  intro hin
  have := hin.idx k hk
  unfold hasB at h
  simp at h
  omega

theorem hasB_true {len : Nat} {i : Int} (h : hasB len i = true) : 0 ≤ i ∧ i < 8 * (len : Int) := by unfold hasB at h; simpa using h

theorem hasB_false {len : Nat} {i : Int} (h : hasB len i = false) : i < 0 ∨ 8 * (len : Int) ≤ i := by unfold hasB at h; simp at h; omega

theorem bitAt_nat (n k : Nat) : bitAt (n : Int) k = ((n / 2 ^ k % 2 : Nat) : Int) := by
  unfold bitAt; simp

theorem xor_range (x y : Int) (h0 : 0 ≤ x) (h1 : x ≤ 255) (g0 : 0 ≤ y) (g1 : y ≤ 255) : 0 ≤ bits .xor .u8 x y ∧ bits .xor .u8 x y ≤ 255 := by
  rw [u8_xor x y h0 (by omega) g0 (by omega)]
  have := @Nat.xor_lt_two_pow x.toNat y.toNat 8 (by omega) (by omega)
  omega

theorem xor_bit (x y : Int) (h0 : 0 ≤ x) (h1 : x ≤ 255) (g0 : 0 ≤ y) (g1 : y ≤ 255) (k : Nat) : (bitAt (bits .xor .u8 x y) k == 1) = (bitAt x k != bitAt y k) := by
  rw [u8_xor x y h0 (by omega) g0 (by omega)]
  have ex : x = (x.toNat : Int) := by omega
  have ey : y = (y.toNat : Int) := by omega
  rw [ex, ey]
  generalize x.toNat = m
  generalize y.toNat = n
  simp only [Int.toNat_natCast, bitAt_nat]
  have hx := Nat.testBit_xor m n k
  simp only [Nat.testBit_eq_decide_div_mod_eq] at hx
  have e1 : (m ^^^ n) / 2 ^ k % 2 = 0 ∨ (m ^^^ n) / 2 ^ k % 2 = 1 := by omega
  have e2 : m / 2 ^ k % 2 = 0 ∨ m / 2 ^ k % 2 = 1 := by omega
  have e3 : n / 2 ^ k % 2 = 0 ∨ n / 2 ^ k % 2 = 1 := by omega
  rcases e1 with e1 | e1 <;> rcases e2 with e2 | e2 <;> rcases e3 with e3 | e3 <;> rw [e1, e2, e3] at hx ⊢ <;> simp at hx ⊢

theorem bitI_at (z : List Int) (i k : Nat) (hk : k < 8) : bitI z (8 * i + k) = bitAt (z[i]?.getD 0) k := by
  unfold bitI
  rw [show (8 * i + k) / 8 = i from by omega, show (8 * i + k) % 8 = k from by omega]

theorem fin_xor : ∀ c : Fin 256, ∀ k : Fin 8, bits BinOp.xor IntKind.u8 (c.val : Int) (2 ^ k.val % 256) = flipB (c.val : Int) k.val := by decide +kernel

theorem xor_flip (c : Int) (k : Nat) (h0 : 0 ≤ c) (h1 : c ≤ 255) (hk : k < 8) : bits BinOp.xor IntKind.u8 c (2 ^ k % 256) = flipB c k :=
  of_fin (P := fun c => bits BinOp.xor IntKind.u8 c (2 ^ k % 256) = flipB c k) (fun c => fin_xor c ⟨k, hk⟩) c h0 h1

theorem pow_step (k : Nat) : (2 : Int) * 2 ^ k = 2 ^ (k + 1) := by rw [Int.pow_succ]; omega

theorem pow_bd (k : Nat) (hk : k ≤ 7) : (1 : Int) ≤ 2 ^ k ∧ (2 : Int) ^ k ≤ 128 := by
  have : ∀ k : Fin 8, (1 : Int) ≤ 2 ^ k.val ∧ (2 : Int) ^ k.val ≤ 128 := by decide
  exact this ⟨k, by omega⟩

theorem fin_mod : ∀ c : Fin 256, ∀ k : Fin 9, 0 ≤ (c.val : Int) % 2 ^ k.val ∧ (c.val : Int) % 2 ^ k.val ≤ 255 := by decide +kernel

theorem byte_mod (c : Int) (k : Nat) (h0 : 0 ≤ c) (h1 : c ≤ 255) (hk : k ≤ 8) : 0 ≤ c % 2 ^ k ∧ c % 2 ^ k ≤ 255 :=
  of_fin (P := fun c => 0 ≤ c % 2 ^ k ∧ c % 2 ^ k ≤ 255) (fun c => fin_mod c ⟨k, by omega⟩) c h0 h1

theorem put_val {z : List Int} (h : IsB z) (i : Nat) (hi : i < 8 * z.length) : ((putTo z i)[i / 8]?.getD 0 + wrap64 (2 ^ (i % 8) * bitI z i)) % 256 = (putTo z i)[i / 8]?.getD 0 + 2 ^ (i % 8) * bitI z i := by
  rw [putTo_at z i (i / 8) (by omega), show min 8 (i - 8 * (i / 8)) = i % 8 from by omega]
  have hz := h.idx (i / 8)
  have e := byte_part _ (i % 8) hz.1 hz.2 (by omega)
  have m := byte_mod _ (i % 8 + 1) hz.1 hz.2 (by omega)
  have p := pow_bd (i % 8) (by omega)
  have hw : wrap64 (2 ^ (i % 8) * bitI z i) = 2 ^ (i % 8) * bitI z i := by
    rcases bitI_01 z i with b | b <;> rw [b]
    · rw [Int.mul_zero]; exact IntWalk.wrap64_in _ ⟨by omega, by omega⟩
    · rw [Int.mul_one]; exact IntWalk.wrap64_in _ ⟨by omega, by omega⟩
  rw [hw]
  unfold bitI
  rw [← e]
  omega

set_option maxHeartbeats 400000 in
theorem has_any (a : Option Addr) (len cap : Nat) (i : Int) (w : World) (hl : len ≤ maxLen) (h1 : -9223372036854775808 ≤ i) (h2 : i ≤ 9223372036854775807) :
    Calls Try.prog 69 #[.slice a len cap, .int .i64 i] w fun e w' => e = .returned (.bool (hasB len i)) ∧ w = w' := by
  unfold maxLen at hl
  by_cases h0 : 0 ≤ i
  · go_enter Try.func69, Try.ntmps69
    go_wp2
    go_ret
    exact ⟨ret_bool (by unfold hasB; rw [decide_eq_decide]; omega), rfl⟩
  · go_enter Try.func69, Try.ntmps69
    go_wp2
    go_ret
    exact ⟨ret_bool (by unfold hasB; symm; rw [decide_eq_false_iff_not]; omega), rfl⟩

set_option maxHeartbeats 400000 in
theorem refAt_any (a : Option Addr) (len cap : Nat) (i : Nat) (z : List Int) (w : World) (hr : Row .u8 w a len cap z) (hb : IsB z) (hi : i < 8 * len) (hsm : len ≤ 1000) :
    Calls Try.prog 80 #[.slice a len cap, .int .i64 i] w fun e w' => e = .returned (.int .i64 (bitI z i)) ∧ w = w' := by
  obtain ⟨b, off, rfl, hbs, hcell⟩ := hr.hcell (by omega)
  have hc1 := hcell (i / 8) (by omega)
  have hz := hb.idx (i / 8)
  have hfin : bitI z i = (z[i / 8]?.getD 0) / 2 ^ (i % 8) % 2 := rfl
  have HF : Hid (bitI z i = (z[i / 8]?.getD 0) / 2 ^ (i % 8) % 2) := hfin
  clear hcell hr hb hfin
  generalize z[i / 8]?.getD 0 = c at *
  go_enter Try.func80, Try.ntmps80
  go_wp2
  go_loop [5, 6] (fun x y => ∃ k : Nat, k ≤ i % 8 ∧ y = .int .i64 k ∧ x = .int .i64 (c / 2 ^ k)) (fun _ y => i % 8 - (intOf y).toNat)
  case atStart => exact ⟨0, Nat.zero_le _, rfl, by simp⟩
  case round =>
    obtain ⟨k, hk, rfl, rfl⟩ := hrel
    have hs := shr_le c k hz.1 hz.2
    by_cases hlt : k < i % 8
    · go_wp2
      go_round
      case rel => exact ⟨k + 1, by omega, by go_num, by rw [← half_step]⟩
      case measure => simp [intOf]; omega
    · have e : k = i % 8 := by omega
      subst e
      go_wp2
      go_ret
      exact ⟨ret_int HF.out.symm, rfl⟩

set_option maxHeartbeats 800000 in
theorem all_any (a : Option Addr) (len cap : Nat) (z : List Int) (w : World) (hr : Row .u8 w a len cap z) (hb : IsB z) (hsm : len ≤ 1000) :
    Calls Try.prog 73 #[.slice a len cap] w fun e w' => ∃ v, e = .returned v ∧ w'.ownsRow w.heap.size 3 1 v (8 * len) ((bitsTo z (8 * len)).map (Value.int .i64)) ∧ Below w.heap.size w w' := by
  obtain ⟨i0, hi0, hz0, hz1, hz2⟩ := info_parts Try.info3
  go_enter Try.func73, Try.ntmps73
  go_wp2
  go_loopw [3, 4] (fun v y wr => ∃ i : Nat, i ≤ 8 * len ∧ y = .int .i64 i ∧ wr.ownsRow w.heap.size 3 1 v i ((bitsTo z i).map (Value.int .i64)) ∧ Below w.heap.size w wr) (fun _ y _ => 8 * len - (intOf y).toNat)
  case atStart => exact ⟨0, Nat.zero_le _, rfl, World.ownsRow_nil _ _ _ _, Below.refl _ _⟩
  case round =>
    obtain ⟨i, hi, rfl, hown, hnx⟩ := hrel
    have hsz := hnx.size
    by_cases hlt : i < 8 * len
    · have hrr := hr.below hnx (Nat.le_refl _)
      go_wp2_with (first
        | (go_at_call 80; refine (refAt_any _ _ _ i z _ hrr hb hlt hsm).mono ?_; rintro e w' ⟨rfl, rfl⟩)
        | (at_builtin; refine wpList_append_own _ rfl _ _ 24 rfl w.heap.size 3 i0 (.int .i64 0) 1 8 Try.underlying24 hi0 hz0 hz1 hz2 rfl (by decide) _ _ _ rfl (hown.alloc _) ⟨wr.heap.size, 0, none⟩ 1 1 [.int .i64 (bitI z i)] rfl rfl ?c1 ?c2 ?c3 ?c4 ?c5 ?_))
      case c1 => exact cell_one_new _ _ _
      case c2 => intro u hu; simp at hu; subst hu; rfl
      case c3 => unfold maxLen; omega
      case c4 => omega
      case c5 => simp; omega
      intro v' w1 hown' hgrow _
      have R := rel_push hsz hown hnx hown' hgrow
      clear hown' hgrow hown hrr
      go_wp2
      go_roundw
      case rel => exact ⟨i + 1, by omega, by go_num, by rw [bitsTo_succ]; exact R.1, R.2⟩
      case measure => simp [intOf]; omega
    · have e : i = 8 * len := by omega
      subst e
      go_wp2
      go_ret
      exact ⟨_, rfl, hown, hnx⟩

/-- The round of Turn that turns a bit. -/
theorem rel_turn {w wr : World} {g len q i : Nat} {z ps : List Int} (hown : wr.ownsRow g 5 1 (.slice (some ⟨g, 0, none⟩) len len) len ((turnI z (ps.take i)).map (Value.int .u8)))
    (hby : 0 ≤ (turnI z (ps.take i))[q / 8]?.getD 0 ∧ (turnI z (ps.take i))[q / 8]?.getD 0 ≤ 255) (hs : turnI z (ps.take (i + 1)) = turn1 (turnI z (ps.take i)) (q : Int).toNat) (hnx : Below g w wr) :
    (wr.setCell ⟨g, q / 8, none⟩ (.int .u8 (bits BinOp.xor IntKind.u8 ((turnI z (ps.take i))[q / 8]?.getD 0) (2 ^ (q % 8) % 256)))).drew.ownsRow g 5 1 (.slice (some ⟨g, 0, none⟩) len len) len ((turnI z (ps.take (i + 1))).map (Value.int .u8)) ∧
    Below g w (wr.setCell ⟨g, q / 8, none⟩ (.int .u8 (bits BinOp.xor IntKind.u8 ((turnI z (ps.take i))[q / 8]?.getD 0) (2 ^ (q % 8) % 256)))).drew := by
  rw [xor_flip _ _ hby.1 hby.2 (by omega)]
  refine ⟨?_, (hnx.setCell (Nat.le_refl _) _).drew⟩
  have := (hown.stored (q / 8) (.int .u8 (flipB ((turnI z (ps.take i))[q / 8]?.getD 0) (q % 8)))).1.drew
  rw [hs]
  unfold turn1
  rw [List.map_set, Int.toNat_natCast]
  exact this

set_option maxHeartbeats 1600000 in
theorem turn_any (a c : Option Addr) (len cap len' cap' : Nat) (z ps : List Int) (w : World) (hr : Row .u8 w a len cap z) (hb : IsB z) (hr' : Row .i64 w c len' cap' ps)
    (hw : ∀ n ∈ ps, (Lit.int .i64 n).wf = true) (hsm : len ≤ 1000) :
    Calls Try.prog 50 #[.slice a len cap, .slice c len' cap'] w fun e w' => Below w.heap.size w w' ∧
      ((inB len ps = true ∧ e = .returned (.tuple #[.slice (some ⟨w.heap.size, 0, none⟩) len len, .int .i64 0]) ∧ w'.ownsRow w.heap.size 5 1 (.slice (some ⟨w.heap.size, 0, none⟩) len len) len ((turnI z ps).map (Value.int .u8)))
      ∨ (inB len ps = false ∧ e = .returned (.tuple #[.slice none 0 0, .int .i64 1]))) := by
  obtain ⟨i0, hi0, hz0, hz1, hz2⟩ := info_parts Try.info5
  have hm := hr.hmax
  have hc := hr.hcap
  have HL : Hid (z.length = len) := hr.hlen
  have hm' := hr'.hmax
  have hc' := hr'.hcap
  have HL' : Hid (ps.length = len') := hr'.hlen
  have hmax : len ≤ maxLen := by omega
  unfold maxLen at hm hm'
  have hmk : ∀ w1 : World, w1.ownsRow w.heap.size 5 1 (.slice (some ⟨w.heap.size, 0, none⟩) len len) len (madeCells (Value.int IntKind.u8 0).cells (len * 1)).toList → w.grownBy w1 none →
      ∃ L : List Value, L.length = len ∧ w1.heap[w.heap.size]? = some (.cells L.toArray 5 (0, 0)) ∧ Below w.heap.size w w1 := fun w1 h1 h2 =>
    ⟨_, by simpa using h1.1, heap_of_owns h1, (Below.refl _ _).grown h2 (Nat.le_refl _) (by simp)⟩
  go_enter Try.func50, Try.ntmps50
  go_wp2_with (at_make; refine wpList_make_full _ rfl _ _ 38 rfl w.heap.size 5 i0 (.int .u8 0) 1 Try.underlying38 hi0 hz0 hz1 _ _ _ _ len rfl rfl rfl rfl (by rw [hz2]; omega) hmax (Nat.le_refl _) ?_; intro w1 hown1 hgrow1)
  obtain ⟨L, hL, hg1, hb1⟩ := hmk w1 hown1 hgrow1
  obtain ⟨w2, hrun, hg2, hb2⟩ := copy_all (P := Try.prog) (dT := 38) (elem := 5) (ty := 3) (cap := cap) (a := a) (z := z) Try.underlying38 (by kernel_rfl) hg1 hL (hr.below hb1 (Nat.le_refl _)) hb1 (Nat.le_refl _)
  have hown2 : w2.ownsRow w.heap.size 5 1 (.slice (some ⟨w.heap.size, 0, none⟩) len len) len ((turnI z (ps.take 0)).map (Value.int .u8)) :=
    owns_of_heap hg2 (by have := HL.out; simp; exact this) (Nat.le_refl _) hmax
  rw [hrun]
  clear hg2 hg1 hL hb1 hmk hown1 hgrow1 hrun
  have hin : Hid (∀ k, k < len' → hasB len (ps[k]?.getD 0) = false → inB len ps = false) := fun k hk hh => inB_false len ps k (by have := HL'.out; omega) hh
  have hall : Hid ((∀ j, j < len' → hasB len (ps[j]?.getD 0) = true) → inB len ps = true) := fun h => by
    rw [inB_iff]
    intro p hp
    obtain ⟨j, hj, rfl⟩ := List.mem_iff_getElem.1 hp
    have := hasB_true (h j (by have := HL'.out; omega))
    rwa [List.getElem?_eq_getElem hj] at this
  have hpb : Hid (∀ k, k < len' → -9223372036854775808 ≤ ps[k]?.getD 0 ∧ ps[k]?.getD 0 ≤ 9223372036854775807) := fun k hk => by
    have hk' : k < ps.length := by have := HL'.out; omega
    rw [List.getElem?_eq_getElem hk']
    exact bounds_i64 (hw _ (List.getElem_mem hk'))
  have hsn : Hid (∀ k, k < len' → turnI z (ps.take (k + 1)) = turn1 (turnI z (ps.take k)) (ps[k]?.getD 0).toNat) := fun k hk => by
    rw [take_snoc ps k (by have := HL'.out; omega), turnI_snoc]
  clear hw
  go_wp2
  go_loopw [17] (fun y wr => ∃ i : Nat, i ≤ len' ∧ y = .int .i64 i ∧ wr.ownsRow w.heap.size 5 1 (.slice (some ⟨w.heap.size, 0, none⟩) len len) len ((turnI z (ps.take i)).map (Value.int .u8)) ∧ (∀ j, j < i → hasB len (ps[j]?.getD 0) = true) ∧ Below w.heap.size w wr) (fun y _ => len' - (intOf y).toNat)
  case atStart => exact ⟨0, Nat.zero_le _, rfl, hown2, fun j hj => absurd hj (by omega), hb2⟩
  case round =>
    clear hown2 hb2
    obtain ⟨i, hi, rfl, hown, hal0, hnx⟩ := hrel
    have hal : Hid (∀ j, j < i → hasB len (ps[j]?.getD 0) = true) := hal0
    clear hal0
    have hsz := hnx.size
    by_cases hlt : i < len'
    · have hrr := hr'.below hnx (Nat.le_refl _)
      obtain ⟨b, off, rfl, hbs, hcell⟩ := hrr.hcell (by omega)
      have hc1 := hcell i hlt
      clear hcell hrr
      have hpi := hpb.out i hlt
      have hni : Hid (hasB len (ps[i]?.getD 0) = false → inB len ps = false) := hin.out i hlt
      have hsi : Hid (turnI z (ps.take (i + 1)) = turn1 (turnI z (ps.take i)) (ps[i]?.getD 0).toNat) := hsn.out i hlt
      generalize hp : ps[i]?.getD 0 = p at *
      have HP : Hid (ps[i]?.getD 0 = p) := hp
      clear hp
      cases hh : hasB len p
      · have hf : Hid (inB len ps = false) := hni.out hh
        clear hin hall hpb hsn hni hsi hown
        go_wp2_with (go_at_call 69; refine (has_any _ _ _ p _ hmax hpi.1 hpi.2).mono ?_; rintro e w' ⟨rfl, rfl⟩; rw [hh])
        go_ret2
        exact ⟨hnx, .inr ⟨hf.out, rfl⟩⟩
      · have hx := hasB_true hh
        obtain ⟨q, rfl⟩ := Int.eq_ofNat_of_zero_le hx.1
        have hq : q < 8 * len := by omega
        have hcl := owned_cell hown (q / 8) (by omega)
        have hfz := hown.frozenAt (q / 8)
        have hby := (isB_turnI hb (ps.take i)).idx (q / 8)
        go_wp2_with (go_at_call 69; refine (has_any _ _ _ (q : Int) _ hmax hpi.1 hpi.2).mono ?_; rintro e w' ⟨rfl, rfl⟩; rw [hh])
        go_region
        all_goals go_wp2
        have R := rel_turn (q := q) (i := i) hown hby (by exact hsi.out) hnx
        go_roundw
        case rel =>
          refine ⟨i + 1, by omega, by go_num, R.1, fun j hj => ?_, R.2⟩
          by_cases e : j = i
          · subst e; rw [HP.out]; exact hh
          · exact hal.out j (by omega)
        case measure => simp [intOf]; omega
    · have e : i = len' := by omega
      subst e
      have ht : inB len ps = true := hall.out hal.out
      rw [List.take_of_length_le (by have := HL'.out; omega)] at hown
      clear hin hall hpb hsn
      go_wp2
      go_ret2
      exact ⟨hnx, .inl ⟨ht, rfl, hown⟩⟩

/-- The round of Put that lays a bit. -/
theorem rel_put {w wr : World} {g n i : Nat} {z : List Int} (h : IsB z) (hz : z.length = n) (hi : i < 8 * n) (hown : wr.ownsRow g 5 1 (.slice (some ⟨g, 0, none⟩) n n) n ((putTo z i).map (Value.int .u8))) (hnx : Below g w wr) :
    (wr.setCell ⟨g, i / 8, none⟩ (.int .u8 (((putTo z i)[i / 8]?.getD 0 + wrap64 (2 ^ (i % 8) * bitI z i)) % 256))).drew.ownsRow g 5 1 (.slice (some ⟨g, 0, none⟩) n n) n ((putTo z (i + 1)).map (Value.int .u8)) ∧
    Below g w (wr.setCell ⟨g, i / 8, none⟩ (.int .u8 (((putTo z i)[i / 8]?.getD 0 + wrap64 (2 ^ (i % 8) * bitI z i)) % 256))).drew := by
  rw [put_val h i (by omega)]
  refine ⟨?_, (hnx.setCell (Nat.le_refl _) _).drew⟩
  have := (hown.stored (i / 8) (.int .u8 ((putTo z i)[i / 8]?.getD 0 + 2 ^ (i % 8) * bitI z i))).1.drew
  rw [putTo_succ h i (by omega), List.map_set]
  exact this

set_option maxHeartbeats 1600000 in
theorem put_any (c : Option Addr) (n cap' : Nat) (z : List Int) (w : World) (hb : IsB z) (hz : z.length = n) (hr : Row .i64 w c (8 * n) cap' (bitsTo z (8 * n))) (hsm : n ≤ 1000) :
    Calls Try.prog 74 #[.slice c (8 * n) cap'] w fun e w' => Below w.heap.size w w' ∧
      e = .returned (.slice (some ⟨w.heap.size, 0, none⟩) n n) ∧ w'.ownsRow w.heap.size 5 1 (.slice (some ⟨w.heap.size, 0, none⟩) n n) n (z.map (Value.int .u8)) := by
  obtain ⟨i0, hi0, hz0, hz1, hz2⟩ := info_parts Try.info5
  have hmax : n ≤ maxLen := by unfold maxLen; omega
  have HZ : Hid (z.length = n) := hz
  clear hz
  have hmk : ∀ w1 : World, w1.ownsRow w.heap.size 5 1 (.slice (some ⟨w.heap.size, 0, none⟩) n n) n (madeCells (Value.int IntKind.u8 0).cells (n * 1)).toList → w.grownBy w1 none →
      w1.ownsRow w.heap.size 5 1 (.slice (some ⟨w.heap.size, 0, none⟩) n n) n ((putTo z 0).map (Value.int .u8)) ∧ Below w.heap.size w w1 := fun w1 h1 h2 => by
    refine ⟨?_, (Below.refl _ _).grown h2 (Nat.le_refl _) (by simp)⟩
    have e : (madeCells (Value.int IntKind.u8 0).cells (n * 1)).toList = (putTo z 0).map (Value.int .u8) := by
      rw [putTo_zero, HZ.out, Nat.mul_one]
      simpa [Value.cells] using toList_madeCells_one (Value.int IntKind.u8 0) n
    rw [e] at h1
    exact h1
  go_enter Try.func74, Try.ntmps74
  go_wp2_with (at_make; refine wpList_make_full _ rfl _ _ 38 rfl w.heap.size 5 i0 (.int .u8 0) 1 Try.underlying38 hi0 hz0 hz1 _ _ _ _ n rfl rfl (by omega) (by omega) (by rw [hz2]; omega) hmax (Nat.le_refl _) ?_; intro w1 hown1 hgrow1)
  obtain ⟨hown2, hb2⟩ := hmk w1 hown1 hgrow1
  clear hmk hown1 hgrow1
  go_loopw [4] (fun y wr => ∃ i : Nat, i ≤ 8 * n ∧ y = .int .i64 i ∧ wr.ownsRow w.heap.size 5 1 (.slice (some ⟨w.heap.size, 0, none⟩) n n) n ((putTo z i).map (Value.int .u8)) ∧ Below w.heap.size w wr) (fun y _ => 8 * n - (intOf y).toNat)
  case atStart => exact ⟨0, Nat.zero_le _, rfl, hown2, hb2⟩
  case round =>
    clear hown2 hb2
    obtain ⟨i, hi, rfl, hown, hnx⟩ := hrel
    by_cases hlt : i < 8 * n
    · have hrr := hr.below hnx (Nat.le_refl _)
      obtain ⟨b, off, rfl, hbs, hcell⟩ := hrr.hcell (by omega)
      have hc1 := hcell i hlt
      rw [bitsTo_at z (8 * n) i hlt] at hc1
      clear hcell hrr
      have hbit := bitI_01 z i
      have hcl := owned_cell hown (i / 8) (by omega)
      have hfz := hown.frozenAt (i / 8)
      go_wp2
      go_loop [5, 6] (fun x y => ∃ k : Nat, k ≤ i % 8 ∧ y = .int .i64 k ∧ x = .int .i64 (2 ^ k)) (fun _ y => i % 8 - (intOf y).toNat)
      case atStart => exact ⟨0, Nat.zero_le _, rfl, rfl⟩
      case round =>
        obtain ⟨k, hk, rfl, rfl⟩ := hrel
        have hp := pow_bd k (by omega)
        by_cases hlt2 : k < i % 8
        · go_wp2
          go_round
          case rel => exact ⟨k + 1, by omega, by go_num, by rw [← pow_step]⟩
          case measure => simp [intOf]; omega
        · have e : k = i % 8 := by omega
          subst e
          go_wp2
          go_region
          all_goals go_wp2
          have R := rel_put hb HZ.out hlt hown hnx
          go_roundw
          case rel => exact ⟨i + 1, by omega, by go_num, R.1, R.2⟩
          case measure => simp [intOf]; omega
    · have e : i = 8 * n := by omega
      subst e
      have hf : putTo z (8 * n) = z := by have := putTo_end hb; rwa [HZ.out] at this
      rw [hf] at hown
      clear hf
      go_wp2
      go_ret
      exact ⟨hnx, rfl, hown⟩

/-- The round of the reference's Turn. -/
theorem rel_refturn {w wr : World} {g n q cap : Nat} {z : List Int} {B : Nat} (h : IsB z) (hz : z.length = n) (hq : q < 8 * n) (hB : B ≤ g) (hown : wr.ownsRow B 3 1 (.slice (some ⟨g, 0, none⟩) (8 * n) cap) (8 * n) ((bitsTo z (8 * n)).map (Value.int .i64))) (hnx : Below B w wr) :
    (wr.setCell ⟨g, q, none⟩ (.int .i64 (1 - bitI z q))).drew.ownsRow B 3 1 (.slice (some ⟨g, 0, none⟩) (8 * n) cap) (8 * n) ((bitsTo (turn1 z q) (8 * n)).map (Value.int .i64)) ∧
    Below B w (wr.setCell ⟨g, q, none⟩ (.int .i64 (1 - bitI z q))).drew := by
  refine ⟨?_, (hnx.setCell hB _).drew⟩
  have := (hown.stored q (.int .i64 (1 - bitI z q))).1.drew
  subst hz
  rw [← set_bitsTo h q hq, List.map_set]
  exact this

set_option maxHeartbeats 1600000 in
theorem refTurn_any (a c : Option Addr) (len cap len' cap' : Nat) (z ps : List Int) (w : World) (hr : Row .u8 w a len cap z) (hb : IsB z) (hr' : Row .i64 w c len' cap' ps) (hin : inAll len ps) (hsm : len ≤ 1000) :
    Calls Try.prog 55 #[.slice a len cap, .slice c len' cap'] w fun e w' => ∃ v, e = .returned v ∧ w'.ownsRow w.heap.size 5 1 v len ((turnI z ps).map (Value.int .u8)) ∧ Below w.heap.size w w' := by
  have hm' := hr'.hmax
  have hc' := hr'.hcap
  have HZ : Hid (z.length = len) := hr.hlen
  have HL' : Hid (ps.length = len') := hr'.hlen
  unfold maxLen at hm'
  have hpb : Hid (∀ k, k < len' → ∃ q : Nat, ps[k]?.getD 0 = (q : Int) ∧ q < 8 * len ∧ turnI z (ps.take (k + 1)) = turn1 (turnI z (ps.take k)) q) := fun k hk => by
    have hk' : k < ps.length := by have := HL'.out; omega
    have := hin.idx k hk'
    refine ⟨(ps[k]?.getD 0).toNat, by omega, by omega, ?_⟩
    rw [take_snoc ps k hk', turnI_snoc]
  go_enter Try.func55, Try.ntmps55
  go_wp2_with fail
  refine (all_any _ _ _ z _ hr hb hsm).mono ?_
  rintro e w1 ⟨v, rfl, hown1, hb1⟩
  obtain ⟨ao, capo, rfl, hrow⟩ := row_of_owns hown1
  clear hrow
  go_wp2_with fail
  go_loopw [6] (fun y wr => ∃ i : Nat, i ≤ len' ∧ y = .int .i64 i ∧ wr.ownsRow w.heap.size 3 1 (.slice ao (8 * len) capo) (8 * len) ((bitsTo (turnI z (ps.take i)) (8 * len)).map (Value.int .i64)) ∧ Below w.heap.size w wr) (fun y _ => len' - (intOf y).toNat)
  case atStart => exact ⟨0, Nat.zero_le _, rfl, hown1, hb1⟩
  case round =>
    clear hown1 hb1
    obtain ⟨i, hi, rfl, hown, hnx⟩ := hrel
    have hsz := hnx.size
    by_cases hlt : i < len'
    · have hrr := hr'.below hnx (Nat.le_refl _)
      obtain ⟨b, off, rfl, hbs, hcell⟩ := hrr.hcell (by omega)
      have hc1 := hcell i hlt
      clear hcell hrr
      obtain ⟨q, hq1, hq2, hq3⟩ := hpb.out i hlt
      rw [hq1] at hc1
      have HQ : Hid (turnI z (ps.take (i + 1)) = turn1 (turnI z (ps.take i)) q) := hq3
      clear hq1 hq3
      obtain ⟨g, hg, rfl⟩ : ∃ g, w.heap.size ≤ g ∧ ao = some ⟨g, 0, none⟩ := by
        rcases hown.2 with ⟨h', h''⟩ | ⟨g, cap1, cur, h', hge, _⟩
        · omega
        · simp only [Value.slice.injEq] at h'
          exact ⟨g, hge, h'.1⟩
      have hcl := owned_cell hown q hq2
      have hfz := hown.frozenAt q
      have hbb := isB_turnI hb (ps.take i)
      have hln : Hid ((turnI z (ps.take i)).length = len) := by show _ = _; rw [length_turnI]; exact HZ.out
      rw [bitsTo_at _ (8 * len) q hq2] at hcl
      have hbit := bitI_01 (turnI z (ps.take i)) q
      have R := rel_refturn hbb hln.out hq2 hg hown hnx
      rw [← HQ.out] at R
      have HR : Hid _ := R
      clear R hown hnx
      have hqi : (q : Int) < 8 * (len : Int) := by omega
      have hii : (i : Int) < (len' : Int) := by omega
      go_wp2
      go_region
      all_goals go_wp2
      go_roundw
      case rel => exact ⟨i + 1, by omega, by go_num, HR.out.1, HR.out.2⟩
      case measure => simp [intOf]; omega
    · have e : i = len' := by omega
      subst e
      rw [List.take_of_length_le (by have := HL'.out; omega)] at hown
      obtain ⟨ao', capo', hv, hrow⟩ := row_of_owns hown
      simp only [Value.slice.injEq, true_and] at hv
      obtain ⟨rfl, rfl⟩ := hv
      clear hpb
      go_wp2_with fail
      refine (put_any _ len _ (turnI z ps) _ (isB_turnI hb ps) (by rw [length_turnI]; exact HZ.out) hrow hsm).mono ?_
      rintro e w2 ⟨hb2, rfl, hown2⟩
      go_wp2
      go_ret
      exact ⟨_, rfl, owns_base hown2 hsz, hnx.trans (hb2.mono hsz)⟩

end Go.Proofs.Ytjagnpljhedfjaa
