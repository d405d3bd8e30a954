/-
  The code of layer 10 (attach), as it landed: Pick.
-/
import Derived.Test.YtabiipibckmalaaAttCode3
namespace Go.Proofs.Ytabiipibckmalaa
open Go.RowKit
set_option linter.unusedVariables false
set_option maxRecDepth 8192

theorem RowsAt.same {w w' : World} {B g L : Nat} {T E : TypeId} {R : Nat → List Fnd} {vs : Array Value} (h : RowsAt w B g L T E R vs) (hs : ∀ b, B ≤ b → b < w.heap.size → w'.heap[b]? = w.heap[b]?) : RowsAt w' B g L T E R vs := by
  refine ⟨(hs g h.hg h.lt).trans h.blk, h.size, h.hg, fun j hj => ?_, h.apart, h.two⟩
  obtain ⟨v, e, o⟩ := h.own j hj
  exact ⟨v, e, owns_same o fun b hb => hs b (owns_lt o hb).1 (owns_lt o hb).2⟩
theorem RowsAt.row {w : World} {B g L : Nat} {T E : TypeId} {R : Nat → List Fnd} {vs : Array Value} (h : RowsAt w B g L T E R vs) (j : Nat) (hj : j < L) : ∃ a cap, vs[j]? = some (.slice a (R j).length cap) ∧ FRow w a (R j).length cap (R j) := by
  obtain ⟨v, e, o⟩ := h.own j hj
  obtain ⟨a, cap, rfl, r⟩ := frow_of_owns o
  exact ⟨a, cap, e, r⟩
/-- What Pick holds behind k rounds. -/
def pickTo (L : Nat) (fs : List Fnd) (k : Nat) : List Int := (List.range L).map fun j => if j < k then standsL (ofLeb (j : Nat) fs) else 0
theorem pickTo_zero (L : Nat) (fs : List Fnd) : pickTo L fs 0 = List.replicate L 0 := by
  apply List.ext_getElem
  · simp [pickTo]
  · intro i h1 h2; simp [pickTo]
theorem pickTo_end (L : Nat) (fs : List Fnd) : pickTo L fs L = pickL L fs := by
  unfold pickTo pickL
  refine List.map_congr_left fun j hj => ?_
  rw [if_pos (List.mem_range.1 hj)]
theorem pickTo_succ (L : Nat) (fs : List Fnd) (k : Nat) (hk : k < L) : (pickTo L fs k).set k (standsL (ofLeb (k : Nat) fs)) = pickTo L fs (k + 1) := by
  apply List.ext_getElem
  · simp [pickTo]
  · intro i h1 h2
    rw [List.getElem_set]
    simp only [pickTo, List.getElem_map, List.getElem_range]
    by_cases e : k = i
    · subst e; rw [if_pos rfl, if_pos (by omega)]
    · rw [if_neg e]
      by_cases h : i < k
      · rw [if_pos h, if_pos (by omega)]
      · rw [if_neg h, if_neg (by omega)]
theorem pickTo_len (L : Nat) (fs : List Fnd) (k : Nat) : (pickTo L fs k).length = L := by simp [pickTo]
theorem Try.infoInt10 : (Try.prog.info? 3).map (fun i => (i.zero, i.size, i.bytes)) = some (some (.int .i64 0), 1, 8) := by kernel_rfl
theorem attPick_no (n : Int) (v : Value) (w : World) (h : lebsB n = false) : Calls Try.prog 5 #[.int .i64 n, v] w fun e w' => e = .returned (.tuple #[.slice none 0 0, .int .i64 0, .int .i64 1]) ∧ w = w' := by
  go_enter Try.func5, Try.ntmps5
  go_wp2_with fail
  refine (attMayBe_any n _).mono ?_
  rintro e w' ⟨rfl, rfl⟩
  rw [h]
  go_wp2_with fail
  go_ret3
  exact ⟨rfl, rfl⟩
set_option maxHeartbeats 3200000 in
theorem attPick_yes (L : Nat) (h1 : 1 ≤ L) (hL : L ≤ 64) (a : Option Addr) (len cap : Nat) (fs : List Fnd) (w : World) (hr : FRow w a len cap fs) (hlen : len ≤ 100000) (hn : ∀ f ∈ fs, -4611686018427387904 ≤ f.number ∧ f.number ≤ 4611686018427387904) :
    Calls Try.prog 5 #[.int .i64 (L : Int), .slice a len cap] w fun e w' => ∃ g, e = .returned (.tuple #[.slice (some ⟨g, 0, none⟩) L L, .int .i64 (nextL fs), .int .i64 0]) ∧ Row .i64 w' (some ⟨g, 0, none⟩) L L (pickL L fs) ∧ Below w.heap.size w w' := by
  obtain ⟨iq, hiq, hiq'⟩ : ∃ i, Try.prog.info? 3 = some i ∧ (i.zero, i.size, i.bytes) = (some (.int .i64 0), 1, 8) := by
    have := Try.infoInt10
    rw [Option.map_eq_some_iff] at this
    exact this
  simp only [Prod.mk.injEq] at hiq'
  obtain ⟨hiq0, hiq1, hiq2⟩ := hiq'
  have hmaxL : L ≤ maxLen := by unfold maxLen; omega
  have hlb : lebsB (L : Int) = true := by unfold lebsB; rw [decide_eq_true_iff]; omega
  go_enter Try.func5, Try.ntmps5
  go_wp2_with fail
  refine (attMayBe_any (L : Int) _).mono ?_
  rintro e w' ⟨rfl, rfl⟩
  rw [hlb]
  go_wp2_with (at_make; refine wpList_make_full _ rfl _ _ 27 rfl w.heap.size 3 iq (.int .i64 0) 1 Try.underlying27 hiq hiq0 hiq1 _ _ _ _ L rfl rfl rfl rfl (by rw [hiq2]; omega) hmaxL (Nat.le_refl _) ?_; intro w1 hown1 hgrow1)
  rw [made_ints] at hown1
  have q1 : Below w.heap.size w w1 := (Below.refl _ _).grown hgrow1 (Nat.le_refl _) (by simp)
  clear hgrow1
  refine (rows_any L hL a len cap fs w1 (hr.below q1 (Nat.le_refl _)) hlen).mono ?_
  rintro e w2 ⟨rfl, q2, vs, hR⟩
  have HF : Hid (FRow w a len cap fs) := hr
  have hg0 := (owns_lt hown1 rfl).2
  have own2 := owns_same (w' := w2) hown1 (fun b hb => by simp [Value.ownBlock] at hb; subst hb; exact q2.block _ hg0)
  rw [← pickTo_zero L fs] at own2
  clear hown1
  have q3 := btrans q1 q2
  clear q1 q2
  have HR : Hid (RowsAt w2 w1.heap.size w1.heap.size L 22 26 (fun j => ofLeb (j : Nat) fs) vs) := hR
  have OW : Hid (w2.ownsRow w.heap.size 3 1 (.slice (some ⟨w.heap.size, 0, none⟩) L L) L ((pickTo L fs 0).map (Value.int .i64))) := own2
  have Q3 : Hid _ := q3
  clear hR own2 q3 hr
  generalize w1.heap.size = g1 at *
  generalize hB : w.heap.size = B at *
  go_wp2_with fail
  go_loopw [19] (fun i wr => ∃ k : Nat, k ≤ L ∧ i = .int .i64 (k : Int) ∧ Hid (wr.ownsRow B 3 1 (.slice (some ⟨B, 0, none⟩) L L) L ((pickTo L fs k).map (Value.int .i64))) ∧ Hid (RowsAt wr g1 g1 L 22 26 (fun j => ofLeb (j : Nat) fs) vs) ∧ Hid (Below B w wr)) (fun i _ => L - (intOf i).toNat)
  case atStart => exact ⟨0, by omega, rfl, OW, HR, Q3⟩
  case round =>
    clear OW HR Q3
    obtain ⟨k, hk, rfl, OW, HR, Q3⟩ := hrel
    by_cases hlt : k < L
    · have hlt' : (k : Int) < (L : Int) := by omega
      obtain ⟨a2, cap2, hv, r2⟩ := HR.out.row k hlt
      have hc1 := (HR.out.cell k).trans hv
      have HST : Hid ((pickTo L fs k).set k (standsL (ofLeb (k : Nat) fs)) = pickTo L fs (k + 1)) := pickTo_succ L fs k hlt
      clear hv
      generalize (ofLeb (k : Nat) fs).length = n2 at *
      generalize ofLeb (k : Nat) fs = R2 at *
      go_wp2_with fail
      refine (stands_any a2 n2 cap2 R2 _ r2).mono ?_
      rintro e w3 ⟨rfl, q⟩
      have hsz := Q3.out.size
      have HR3 := HR.out.below q (Nat.le_refl _)
      have OW3 : Hid _ := owns_same (w' := w3) OW.out (fun b hb => q.block _ (owns_lt OW.out hb).2)
      have Q4 : Hid (Below B w w3) := Q3.out.trans (q.mono (by omega))
      have hbk := heap_of_owns OW3.out
      have hcell := owned_cell OW3.out k hlt
      have hfr : w3.frozen? ⟨B, k, none⟩ = false := by simp [World.frozen?, hbk]
      have hset := owned_set (q := k) (x := standsL R2) (Nat.le_refl B) OW3.out Q4.out
      have HO : Hid _ := hset.1
      have HQ : Hid _ := hset.2
      have HRS : Hid (RowsAt (w3.setCell ⟨B, k, none⟩ (.int .i64 (standsL R2))) g1 g1 L 22 26 (fun j => ofLeb (j : Nat) fs) vs) := HR3.same fun b hb1 hb2 => Below.heap_setCell w3 ⟨B, k, none⟩ _ b (by show b ≠ B; omega)
      clear hset hbk HR3 OW3 Q4 HR OW Q3 r2 q
      generalize standsL R2 = sv at *
      generalize (pickTo L fs k)[k]?.getD 0 = oldv at *
      go_wp2_with fail
      go_roundw
      case rel => exact ⟨k + 1, by omega, by go_num, by rw [← HST.out]; exact HO, HRS, HQ⟩
      case measure => simp [intOf]; omega
    · obtain rfl : k = L := by omega
      have HO : Hid _ := OW.out
      rw [pickTo_end] at HO
      clear HR OW
      have hr2 := HF.out.below Q3.out (by omega)
      go_wp2_with fail
      refine (next_any a len cap fs _ hr2 hn).mono ?_
      rintro e w3 ⟨rfl, q⟩
      have OW3 := owns_same (w' := w3) HO.out (fun b hb => q.block _ (owns_lt HO.out hb).2)
      have Q4 : Below B w w3 := Q3.out.trans (q.mono (by have := Q3.out.size; omega))
      obtain ⟨a3, cap3, hv3, r3⟩ := row_of_owns OW3
      simp only [Value.slice.injEq, true_and] at hv3
      obtain ⟨rfl, rfl⟩ := hv3
      clear OW3 HO Q3 q hr2
      go_wp2_with fail
      go_ret3
      subst hB
      exact ⟨_, rfl, r3, Q4⟩
end Go.Proofs.Ytabiipibckmalaa
