/-
  The contracts of bits.Turn, the reference's Turn and Put: a new row of the bytes that the plain functions give; nothing old turns.
-/
import Derived.Test.YtmdiblknjgkpoaaThree
import Derived.Laws.CopyOwn
import Derived.RegionTactic
import Derived.OpenShut
namespace Go.Proofs.Ytmdiblknjgkpoaa
open Go.RowKit
set_option linter.unusedVariables false

theorem owns_of_heap {w : World} {base g n : Nat} {e : TypeId} {cs : List Value} (h : w.heap[g]? = some (.cells cs.toArray e (0, 0))) (hl : cs.length = n) (hb : base ≤ g) (hm : n ≤ maxLen) :
    w.ownsRow base e 1 (.slice (some ⟨g, 0, none⟩) n n) n cs :=
  ⟨by omega, .inr ⟨g, n, cs.toArray, rfl, hb, h, Nat.le_refl _, hm, by simp; omega, by simp [← hl]⟩⟩
theorem heap_of_owns {w : World} {base g n : Nat} {e : TypeId} {cs : List Value} (h : w.ownsRow base e 1 (.slice (some ⟨g, 0, none⟩) n n) n cs) : w.heap[g]? = some (.cells cs.toArray e (0, 0)) := by
  rcases h.2 with ⟨h', _⟩ | ⟨g', cap', cur, h', _, hg, _, _, hcs, htake⟩
  · simp at h'
  · simp only [Value.slice.injEq, Option.some.injEq, Addr.mk.injEq, and_true, true_and] at h'
    obtain ⟨rfl, rfl⟩ := h'
    rw [hg, ← htake, List.take_of_length_le (by simp; omega)]
theorem splice_whole {α : Type} (L cs : List α) (h : L.length = cs.length) : splice L 0 cs = cs := by
  simp [splice, h]

theorem owned_cell {k : IntKind} {e : TypeId} {w : World} {base g n cap : Nat} {zs : List Int} (h : w.ownsRow base e 1 (.slice (some ⟨g, 0, none⟩) n cap) n (zs.map (Value.int k))) (i : Nat) (hi : i < n) :
    w.cell? ⟨g, i, none⟩ = some (.int k (zs[i]?.getD 0)) := by
  have hl : zs.length = n := by have := h.1; simpa using this
  rw [h.cellAt i (by omega)]
  simp [List.getElem?_map, List.getElem?_eq_getElem (show i < zs.length from by omega)]

/-- 'copy(out, b)', out a new row of b's length. -/
theorem copy_all {w0 w : World} {B g len cap : Nat} {a : Option Addr} {z : List Int} {L : List Value} (hg : w.heap[g]? = some (.cells L.toArray 5 (0, 0))) (hL : L.length = len)
    (hr : Row .u8 w a len cap z) (hb : Below B w0 w) (hB : B ≤ g) :
    ∃ w2, Sem.run Try.prog (Builtin.copy_ #[22, 22] 3 #[.slice (some ⟨g, 0, none⟩) len len, .slice a len cap]) w = .ok (.int .i64 len) w2 ∧ w2.heap[g]? = some (.cells (z.map (Value.int .u8)).toArray 5 (0, 0)) ∧ Below B w0 w2 := by
  have hl := hr.hlen
  by_cases h0 : len = 0
  · subst h0
    have hz : z = [] := List.eq_nil_of_length_eq_zero hl
    have hL0 : L = [] := List.eq_nil_of_length_eq_zero hL
    refine ⟨w, run_copy_none (P := Try.prog) w 22 22 3 5 _ a 0 0 0 cap Try.underlying22 (by kernel_rfl) (by simp), ?_, hb⟩
    rw [hg, hz, hL0]
    rfl
  · obtain ⟨b, off, rfl, hbs, hcell⟩ := hr.hcell (by omega)
    have hsrc : ∀ j v, (z.map (Value.int .u8))[j]? = some v → w.cell? ((⟨b, off, none⟩ : Addr).add j) = some v := by
      intro j v hj
      simp only [List.getElem?_map, Option.map_eq_some_iff] at hj
      obtain ⟨n, hn, rfl⟩ := hj
      have hjl : j < z.length := by
        rcases Nat.lt_or_ge j z.length with h | h
        · exact h
        · rw [List.getElem?_eq_none h] at hn; simp at hn
      have := hcell j (by omega)
      rw [hn] at this
      have hplain : (⟨b, off, none⟩ : Addr).add j = ⟨b, off + j, none⟩ := by unfold Addr.add; split <;> simp_all
      rw [hplain]
      exact this
    have hrun := run_copy_row (P := Try.prog) w 22 22 3 5 g 0 len len ⟨b, off, none⟩ len cap L.toArray 5 (z.map (Value.int .u8)) Try.underlying22 (by kernel_rfl) hg (by simp [hl]) hsrc (by simp; omega) (ints_oneCell _ _)
    have e1 : (L.toArray.toList.take 0 ++ z.map (Value.int .u8) ++ L.toArray.toList.drop (0 + (z.map (Value.int .u8)).length)) = z.map (Value.int .u8) := by
      simp; omega
    rw [e1] at hrun
    refine ⟨_, ?_, setRow_heap w g _ _ 5 _ hg, below_setRow hb hB _⟩
    rw [hrun]
    simp [goInt, hl]

theorem fin_xor : ∀ c : Fin 256, ∀ k : Fin 8, bits BinOp.xor IntKind.u8 (c.val : Int) (2 ^ k.val % 256) = flipB (c.val : Int) k.val := by decide +kernel
theorem xor_flip (c : Int) (k : Nat) (h0 : 0 ≤ c) (h1 : c ≤ 255) (hk : k < 8) : bits BinOp.xor IntKind.u8 c (2 ^ k % 256) = flipB c k :=
  of_fin (P := fun c => bits BinOp.xor IntKind.u8 c (2 ^ k % 256) = flipB c k) (fun c => fin_xor c ⟨k, hk⟩) c h0 h1

/-- The round of Turn that turns a bit. -/
theorem rel_turn {w wr : World} {g len q i : Nat} {z ps : List Int} (hown : wr.ownsRow g 5 1 (.slice (some ⟨g, 0, none⟩) len len) len ((turnI z (ps.take i)).map (Value.int .u8)))
    (hby : 0 ≤ (turnI z (ps.take i))[q / 8]?.getD 0 ∧ (turnI z (ps.take i))[q / 8]?.getD 0 ≤ 255) (hs : turnI z (ps.take (i + 1)) = turn1 (turnI z (ps.take i)) (q : Int).toNat) (hnx : Below g w wr) :
    (wr.setCell ⟨g, q / 8, none⟩ (.int .u8 (bits BinOp.xor IntKind.u8 ((turnI z (ps.take i))[q / 8]?.getD 0) (2 ^ (q % 8) % 256)))).drew.ownsRow g 5 1 (.slice (some ⟨g, 0, none⟩) len len) len ((turnI z (ps.take (i + 1))).map (Value.int .u8)) ∧
    Below g w (wr.setCell ⟨g, q / 8, none⟩ (.int .u8 (bits BinOp.xor IntKind.u8 ((turnI z (ps.take i))[q / 8]?.getD 0) (2 ^ (q % 8) % 256)))).drew := by
  rw [xor_flip _ _ hby.1 hby.2 (by omega)]
  refine ⟨?_, (hnx.setCell (Nat.le_refl _) _).drew⟩
  have := (hown.stored (q / 8) (.int .u8 (flipB ((turnI z (ps.take i))[q / 8]?.getD 0) (q % 8)))).1.drew
  rw [hs]
  unfold turn1
  rw [List.map_set, Int.toNat_natCast]
  exact this

set_option maxHeartbeats 1600000 in
theorem turn_any (a c : Option Addr) (len cap len' cap' : Nat) (z ps : List Int) (w : World) (hr : Row .u8 w a len cap z) (hb : IsB z) (hr' : Row .i64 w c len' cap' ps)
    (hw : ∀ n ∈ ps, (Lit.int .i64 n).wf = true) (hsm : len ≤ 1000) :
    Calls Try.prog 14 #[.slice a len cap, .slice c len' cap'] w fun e w' => Below w.heap.size w w' ∧
      ((inB len ps = true ∧ e = .returned (.tuple #[.slice (some ⟨w.heap.size, 0, none⟩) len len, .int .i64 0]) ∧ w'.ownsRow w.heap.size 5 1 (.slice (some ⟨w.heap.size, 0, none⟩) len len) len ((turnI z ps).map (Value.int .u8)))
      ∨ (inB len ps = false ∧ e = .returned (.tuple #[.slice none 0 0, .int .i64 1]))) := by
  obtain ⟨i0, hi0, hz0, hz1, hz2⟩ := info_parts Try.info5
  have hm := hr.hmax
  have hc := hr.hcap
  have HL : Hid (z.length = len) := hr.hlen
  have hm' := hr'.hmax
  have hc' := hr'.hcap
  have HL' : Hid (ps.length = len') := hr'.hlen
  have hmax : len ≤ maxLen := by omega
  unfold maxLen at hm hm'
  have hmk : ∀ w1 : World, w1.ownsRow w.heap.size 5 1 (.slice (some ⟨w.heap.size, 0, none⟩) len len) len (madeCells (Value.int IntKind.u8 0).cells (len * 1)).toList → w.grownBy w1 none →
      ∃ L : List Value, L.length = len ∧ w1.heap[w.heap.size]? = some (.cells L.toArray 5 (0, 0)) ∧ Below w.heap.size w w1 := fun w1 h1 h2 =>
    ⟨_, by simpa using h1.1, heap_of_owns h1, (Below.refl _ _).grown h2 (Nat.le_refl _) (by simp)⟩
  go_enter Try.func14, Try.ntmps14
  go_wp2_with (at_make; refine wpList_make_full _ rfl _ _ 22 rfl w.heap.size 5 i0 (.int .u8 0) 1 Try.underlying22 hi0 hz0 hz1 _ _ _ _ len rfl rfl rfl rfl (by rw [hz2]; omega) hmax (Nat.le_refl _) ?_; intro w1 hown1 hgrow1)
  obtain ⟨L, hL, hg1, hb1⟩ := hmk w1 hown1 hgrow1
  obtain ⟨w2, hrun, hg2, hb2⟩ := copy_all (cap := cap) (a := a) (z := z) hg1 hL (hr.below hb1 (Nat.le_refl _)) hb1 (Nat.le_refl _)
  have hown2 : w2.ownsRow w.heap.size 5 1 (.slice (some ⟨w.heap.size, 0, none⟩) len len) len ((turnI z (ps.take 0)).map (Value.int .u8)) :=
    owns_of_heap hg2 (by have := HL.out; simp; exact this) (Nat.le_refl _) hmax
  rw [hrun]
  clear hg2 hg1 hL hb1 hmk hown1 hgrow1 hrun
  have hin : Hid (∀ k, k < len' → hasB len (ps[k]?.getD 0) = false → inB len ps = false) := fun k hk hh => inB_false len ps k (by have := HL'.out; omega) hh
  have hall : Hid ((∀ j, j < len' → hasB len (ps[j]?.getD 0) = true) → inB len ps = true) := fun h => by
    rw [inB_iff]
    intro p hp
    obtain ⟨j, hj, rfl⟩ := List.mem_iff_getElem.1 hp
    have := hasB_true (h j (by have := HL'.out; omega))
    rwa [List.getElem?_eq_getElem hj] at this
  have hpb : Hid (∀ k, k < len' → -9223372036854775808 ≤ ps[k]?.getD 0 ∧ ps[k]?.getD 0 ≤ 9223372036854775807) := fun k hk => by
    have hk' : k < ps.length := by have := HL'.out; omega
    rw [List.getElem?_eq_getElem hk']
    exact bounds_i64 (hw _ (List.getElem_mem hk'))
  have hsn : Hid (∀ k, k < len' → turnI z (ps.take (k + 1)) = turn1 (turnI z (ps.take k)) (ps[k]?.getD 0).toNat) := fun k hk => by
    rw [take_snoc ps k (by have := HL'.out; omega), turnI_snoc]
  clear hw
  go_wp2
  go_loopw [17] (fun y wr => ∃ i : Nat, i ≤ len' ∧ y = .int .i64 i ∧ wr.ownsRow w.heap.size 5 1 (.slice (some ⟨w.heap.size, 0, none⟩) len len) len ((turnI z (ps.take i)).map (Value.int .u8)) ∧ (∀ j, j < i → hasB len (ps[j]?.getD 0) = true) ∧ Below w.heap.size w wr) (fun y _ => len' - (intOf y).toNat)
  case atStart => exact ⟨0, Nat.zero_le _, rfl, hown2, fun j hj => absurd hj (by omega), hb2⟩
  case round =>
    clear hown2 hb2
    obtain ⟨i, hi, rfl, hown, hal0, hnx⟩ := hrel
    have hal : Hid (∀ j, j < i → hasB len (ps[j]?.getD 0) = true) := hal0
    clear hal0
    have hsz := hnx.size
    by_cases hlt : i < len'
    · have hrr := hr'.below hnx (Nat.le_refl _)
      obtain ⟨b, off, rfl, hbs, hcell⟩ := hrr.hcell (by omega)
      have hc1 := hcell i hlt
      clear hcell hrr
      have hpi := hpb.out i hlt
      have hni : Hid (hasB len (ps[i]?.getD 0) = false → inB len ps = false) := hin.out i hlt
      have hsi : Hid (turnI z (ps.take (i + 1)) = turn1 (turnI z (ps.take i)) (ps[i]?.getD 0).toNat) := hsn.out i hlt
      generalize hp : ps[i]?.getD 0 = p at *
      have HP : Hid (ps[i]?.getD 0 = p) := hp
      clear hp
      cases hh : hasB len p
      · have hf : Hid (inB len ps = false) := hni.out hh
        clear hin hall hpb hsn hni hsi hown
        go_wp2_with (go_at_call 21; refine (has_any _ _ _ p _ hmax hpi.1 hpi.2).mono ?_; rintro e w' ⟨rfl, rfl⟩; rw [hh])
        go_ret2
        exact ⟨hnx, .inr ⟨hf.out, rfl⟩⟩
      · have hx := hasB_true hh
        obtain ⟨q, rfl⟩ := Int.eq_ofNat_of_zero_le hx.1
        have hq : q < 8 * len := by omega
        have hcl := owned_cell hown (q / 8) (by omega)
        have hfz := hown.frozenAt (q / 8)
        have hby := (isB_turnI hb (ps.take i)).idx (q / 8)
        go_wp2_with (go_at_call 21; refine (has_any _ _ _ (q : Int) _ hmax hpi.1 hpi.2).mono ?_; rintro e w' ⟨rfl, rfl⟩; rw [hh])
        go_region
        all_goals go_wp2
        have R := rel_turn (q := q) (i := i) hown hby (by exact hsi.out) hnx
        go_roundw
        case rel =>
          refine ⟨i + 1, by omega, by go_num, R.1, fun j hj => ?_, R.2⟩
          by_cases e : j = i
          · subst e; rw [HP.out]; exact hh
          · exact hal.out j (by omega)
        case measure => simp [intOf]; omega
    · have e : i = len' := by omega
      subst e
      have ht : inB len ps = true := hall.out hal.out
      rw [List.take_of_length_le (by have := HL'.out; omega)] at hown
      clear hin hall hpb hsn
      go_wp2
      go_ret2
      exact ⟨hnx, .inl ⟨ht, rfl, hown⟩⟩

end Go.Proofs.Ytmdiblknjgkpoaa
