/-
  Layer 15's reference: Add, Sub.
-/
import Derived.Test.YtgofapndgjfnhaaDoorNumRef
namespace Go.Proofs.YtgofapndgjfnhaaDoor.N
open Go.RowKit
set_option linter.unusedVariables false
set_option maxRecDepth 8192

/-- What Add's loop keeps. -/
structure AddI (a b o : List Nat) (i c : Nat) : Prop where
  len : o.length = i
  dig : Dig o
  cl : c ≤ 1
  val : vL o + c * 256 ^ i = vTo (dg a) i + vTo (dg b) i
theorem Dig.snoc {o : List Nat} (h : Dig o) {x : Nat} (hx : x < 256) : Dig (o ++ [x]) := by
  intro y hy
  rcases List.mem_append.1 hy with h1 | h1
  · exact h y h1
  · rw [List.mem_singleton.1 h1]; exact hx
theorem AddI.next {a b o : List Nat} {i c x : Nat} (h : AddI a b o i c) (ha : Dig a) (hb : Dig b) (hx : x = dg a i + dg b i + c) : AddI a b (o ++ [x % 256]) (i + 1) (x / 256) := by
  have b1 := ha.at i
  have b2 := hb.at i
  have b3 := h.cl
  refine ⟨by rw [List.length_append, h.len]; rfl, h.dig.snoc (Nat.mod_lt _ (by decide)), by omega, ?_⟩
  have hv := h.val
  rw [vL_snoc, h.len, Nat.pow_succ]
  simp only [vTo]
  have hm : x % 256 + 256 * (x / 256) = x := Nat.mod_add_div x 256
  have e1 : x / 256 * (256 ^ i * 256) + x % 256 * 256 ^ i = x * 256 ^ i := by
    conv => rhs; rw [← hm, Nat.add_mul]
    rw [Nat.mul_comm (256 ^ i) 256, ← Nat.mul_assoc, Nat.mul_comm (x / 256) 256]; omega
  have e2 : x * 256 ^ i = dg a i * 256 ^ i + dg b i * 256 ^ i + c * 256 ^ i := by rw [hx, Nat.add_mul, Nat.add_mul]
  omega
theorem AddI.room {a b o : List Nat} {i c n : Nat} (h : AddI a b o i c) (ha : Dig a) (hb : Dig b) (hla : a.length ≤ n) (hlb : b.length ≤ n) (hc : 0 < c) : i ≤ n := by
  rcases Nat.lt_or_ge n i with h1 | h1
  · exfalso
    have hv := h.val
    rw [vL_to a i (by omega), vL_to b i (by omega)] at hv
    have e1 : vL a < 256 ^ n := Nat.lt_of_lt_of_le ha.vL_lt (Nat.pow_le_pow_right (by decide) hla)
    have e2 : vL b < 256 ^ n := Nat.lt_of_lt_of_le hb.vL_lt (Nat.pow_le_pow_right (by decide) hlb)
    have e3 : 256 ^ (n + 1) ≤ 256 ^ i := Nat.pow_le_pow_right (by decide) h1
    rw [Nat.pow_succ] at e3
    have e4 : 256 ^ i ≤ c * 256 ^ i := Nat.le_mul_of_pos_left _ hc
    omega
  · exact h1
theorem AddI.done {a b o : List Nat} {i : Nat} (h : AddI a b o i 0) (hla : a.length ≤ i) (hlb : b.length ≤ i) : vL o = vL a + vL b := by
  have hv := h.val
  rw [vL_to a i hla, vL_to b i hlb] at hv
  omega
set_option maxHeartbeats 1600000 in
theorem refAdd15_any (a b : List Nat) (aa ab : Option Addr) (la ca lb cb : Nat) (w : World) (da : Dig a) (db : Dig b) (ra : Row .u8 w aa la ca (nI a)) (rb : Row .u8 w ab lb cb (nI b)) (hla : la ≤ 100000) (hlb : lb ≤ 100000) :
    Calls Tryd.prog 24 #[.slice aa la ca, .slice ab lb cb] w (Gives w (nb (vL a + vL b))) := by
  obtain ⟨i0, hi0, hz0, hz1, hz2⟩ := info_parts Tryd.info5
  have HA : Hid (a.length = la) := by have := ra.hlen; rwa [nI_length] at this
  have HB : Hid (b.length = lb) := by have := rb.hlen; rwa [nI_length] at this
  obtain ⟨N, hN1, hN2, hN9⟩ : ∃ N : Nat, la ≤ N ∧ lb ≤ N ∧ N ≤ 200000 := ⟨la + lb, by omega, by omega, by omega⟩
  go_enter Tryd.func24, Tryd.ntmps24
  go_wp2
  go_loopw [5, 6, 7] (fun v c y wr => ∃ (i cc : Nat) (o : List Nat), i ≤ N + 1 ∧ y = .int .i64 (i : Int) ∧ c = .int .i64 (cc : Int) ∧ Hid (AddI a b o i cc) ∧ Hid (wr.ownsRow w.heap.size 5 1 v i ((nI o).map (Value.int .u8))) ∧ Hid (Below w.heap.size w wr)) (fun _ _ y _ => N + 2 - (intOf y).toNat)
  case atStart => exact ⟨0, 0, [], by omega, rfl, rfl, ⟨rfl, fun x hx => absurd hx (List.not_mem_nil), by decide, by simp [vTo, vL]⟩, World.ownsRow_nil _ _ _ _, Below.refl _ _⟩
  case round =>
    obtain ⟨i, c, o, hi, rfl, rfl, HI, HO, HQ⟩ := hrel
    have hcl := HI.out.cl
    have hsz : w.heap.size ≤ wr.heap.size := HQ.out.size
    by_cases hgo : i < la ∨ i < lb ∨ 0 < c
    · have hiN : i ≤ N := by
        rcases hgo with h | h | h
        · omega
        · omega
        · exact HI.out.room da db (by rw [HA.out]; exact hN1) (by rw [HB.out]; exact hN2) h
      have HN : Hid (∀ x, x = dg a i + dg b i + c → AddI a b (o ++ [x % 256]) (i + 1) (x / 256)) := fun x hx => HI.out.next da db hx
      have cA := at15_any a aa la ca i wr (ra.below HQ.out (Nat.le_refl _)) (by omega) (by omega) da
      have cB := at15_any b ab lb cb i wr (rb.below HQ.out (Nat.le_refl _)) (by omega) (by omega) db
      have hx1 := da.at i
      have hx2 := db.at i
      generalize dg a i = x1 at *
      generalize dg b i = x2 at *
      have HN1 := HN.out (x1 + x2 + c) rfl
      have hs : (x1 : Int) + (x2 : Int) + (c : Int) = ((x1 + x2 + c : Nat) : Int) := by omega
      have hs9 : x1 + x2 + c < 512 := by omega
      generalize x1 + x2 + c = x at *
      clear HN
      have hown := HO.out
      have hgo2 : (i : Int) < (la : Int) ∨ ¬ (i : Int) < (la : Int) ∧ ((i : Int) < (lb : Int) ∨ ¬ (i : Int) < (lb : Int) ∧ (0 : Int) < (c : Int)) := by omega
      clear hgo
      rcases hgo2 with h1 | ⟨h1, h2 | ⟨h2, h3⟩⟩
      all_goals
        go_wp2_with fail
        refine cA.mono ?_
        rintro e w' ⟨rfl, rfl⟩
        go_wp2_with fail
        refine cB.mono ?_
        rintro e w' ⟨rfl, rfl⟩
        clear cA cB
        go_wp2_with (at_builtin; refine wpList_append_own _ rfl _ _ 22 rfl w.heap.size 5 i0 (.int .u8 0) 1 1 Tryd.underlying22 hi0 hz0 hz1 hz2 rfl (by decide) _ _ _ rfl (hown.alloc _) ⟨wr.heap.size, 0, none⟩ 1 1 [.int .u8 ((x : Int) % 256)] rfl rfl (cell_one_new _ _ _) (by intro u hu; simp at hu; subst hu; rfl) (by unfold maxLen; omega) (by omega) (by simp; omega) ?_)
        intro v' w1 hown' hgrow _
        have R := rel_push hsz hown HQ.out hown' hgrow
        rw [show ((x : Int) % 256) = ((x % 256 : Nat) : Int) from by omega, show nI o ++ [((x % 256 : Nat) : Int)] = nI (o ++ [x % 256]) from by simp [nI]] at R
        clear hown' hgrow
        go_wp2
        go_roundw
        case rel => exact ⟨i + 1, x / 256, o ++ [x % 256], by omega, by go_num, by go_num, HN1, R.1, R.2⟩
        case measure => simp [intOf] <;> omega
    · obtain rfl : c = 0 := by omega
      have HV : Hid (vL o = vL a + vL b) := HI.out.done (by rw [HA.out]; omega) (by rw [HB.out]; omega)
      have h1 : ¬ (i : Int) < (la : Int) := by omega
      have h2 : ¬ (i : Int) < (lb : Int) := by omega
      have HL : Hid (o.length = i) := HI.out.len
      obtain ⟨ao, co, rfl, ro⟩ := row_of_owns HO.out
      have cN := refNorm15_any o HI.out.dig ao i co wr ro (by omega)
      rw [HV.out] at cN
      clear hgo
      go_wp2_with fail
      refine cN.mono ?_
      rintro e w3 ⟨a3, c3, rfl, r3, q3⟩
      have q4 := HQ.out.trans (q3.mono HQ.out.size)
      go_wp2_with fail
      go_ret
      exact ⟨_, _, rfl, r3, q4⟩
/-- What Sub's loop keeps. -/
structure SubI (a b o : List Nat) (i c : Nat) : Prop where
  len : o.length = i
  dig : Dig o
  cl : c ≤ 1
  val : vL o + vTo (dg b) i = vTo (dg a) i + c * 256 ^ i
theorem SubI.next {a b o : List Nat} {i c x d : Nat} (h : SubI a b o i c) (ha : Dig a) (hb : Dig b) (hd : d ≤ 1) (hx9 : x < 256) (hx : x + dg b i + c = dg a i + 256 * d) : SubI a b (o ++ [x]) (i + 1) d := by
  refine ⟨by rw [List.length_append, h.len]; rfl, h.dig.snoc hx9, hd, ?_⟩
  have hv := h.val
  rw [vL_snoc, h.len, Nat.pow_succ]
  simp only [vTo]
  have e := congrArg (fun y => y * 256 ^ i) hx
  simp only [Nat.add_mul] at e
  rw [show d * (256 ^ i * 256) = 256 * d * 256 ^ i from by rw [Nat.mul_comm (256 ^ i) 256, ← Nat.mul_assoc, Nat.mul_comm d 256]]
  omega
theorem SubI.done {a b o : List Nat} {i c : Nat} (h : SubI a b o i c) (ha : Dig a) (hb : Dig b) (hi : a.length = i) (hab : vL b ≤ vL a) : vL o = vL a - vL b := by
  have hv := h.val
  have e1 : vTo (dg a) i = vL a := vL_to a i (by omega)
  have hal : vL a < 256 ^ i := by rw [← hi]; exact ha.vL_lt
  have e2 : vTo (dg b) i = vL b := by
    rcases Nat.lt_or_ge i b.length with h1 | h1
    · exact (vTo_tail (f := dg b) (n := i) (m := b.length) (by omega) (fun j hj => dg_top hb (n := i) (by omega) hj)).symm
    · exact vL_to b i h1
  rw [e1, e2] at hv
  have ho : vL o < 256 ^ i := by rw [← h.len]; exact h.dig.vL_lt
  have hc := h.cl
  rcases (show c = 0 ∨ c = 1 by omega) with rfl | rfl <;> omega
set_option maxHeartbeats 1600000 in
theorem refSub15_any (a b : List Nat) (aa ab : Option Addr) (la ca lb cb : Nat) (w : World) (da : Dig a) (db : Dig b) (ra : Row .u8 w aa la ca (nI a)) (rb : Row .u8 w ab lb cb (nI b)) (hla : la ≤ 100000) (hlb : lb ≤ 100000) :
    Calls Tryd.prog 45 #[.slice aa la ca, .slice ab lb cb] w (Gives w (nb (vL a - vL b))) := by
  obtain ⟨i0, hi0, hz0, hz1, hz2⟩ := info_parts Tryd.info5
  have HA : Hid (a.length = la) := by have := ra.hlen; rwa [nI_length] at this
  have cK := refCmp15_any a b aa ab la ca lb cb w da db ra rb hla hlb
  have hcl := cmp_bounds (vL a) (vL b)
  have hcg : cmpN (vL a) (vL b) < 0 ↔ vL a < vL b := by
    unfold cmpN
    split
    · omega
    · split <;> omega
  generalize cmpN (vL a) (vL b) = cc at *
  by_cases hlt : vL a < vL b
  · have hc0 : cc < 0 := hcg.2 hlt
    have HZ : Hid (nb (vL a - vL b) = []) := by show _ = _; rw [Nat.sub_eq_zero_of_le (by omega), nb_zero]
    clear hcg hlt
    go_enter Tryd.func45, Tryd.ntmps45
    go_wp2_with fail
    refine cK.mono ?_
    rintro e w' ⟨rfl, rfl⟩
    go_wp2_with fail
    go_ret
    unfold Gives
    rw [HZ.out]
    exact ⟨_, _, rfl, ⟨rfl, Nat.le_refl _, Nat.zero_le _, fun _ => rfl, fun h => absurd h (by simp)⟩, Below.refl _ _⟩
  · have hc0 : ¬ cc < 0 := fun h => hlt (hcg.1 h)
    have HE : Hid (vL b ≤ vL a) := by show _ ≤ _; omega
    clear hcg hlt
    go_enter Tryd.func45, Tryd.ntmps45
    go_wp2_with fail
    refine cK.mono ?_
    rintro e w' ⟨rfl, rfl⟩
    clear cK
    go_wp2_with fail
    go_loopw [5, 6, 7] (fun v c y wr => ∃ (i cc : Nat) (o : List Nat), i ≤ la ∧ y = .int .i64 (i : Int) ∧ c = .int .i64 (cc : Int) ∧ Hid (SubI a b o i cc) ∧ Hid (wr.ownsRow w.heap.size 5 1 v i ((nI o).map (Value.int .u8))) ∧ Hid (Below w.heap.size w wr)) (fun _ _ y _ => la - (intOf y).toNat)
    case atStart => exact ⟨0, 0, [], by omega, rfl, rfl, ⟨rfl, fun x hx => absurd hx (List.not_mem_nil), by decide, by simp [vTo, vL]⟩, World.ownsRow_nil _ _ _ _, Below.refl _ _⟩
    case round =>
      obtain ⟨i, c, o, hi, rfl, rfl, HI, HO, HQ⟩ := hrel
      have hcl := HI.out.cl
      have hsz : w.heap.size ≤ wr.heap.size := HQ.out.size
      by_cases hgo : i < la
      · have HN : Hid (∀ x d, d ≤ 1 → x < 256 → x + dg b i + c = dg a i + 256 * d → SubI a b (o ++ [x]) (i + 1) d) := fun x d h1 h2 h3 => HI.out.next da db h1 h2 h3
        have cA := at15_any a aa la ca i wr (ra.below HQ.out (Nat.le_refl _)) (by omega) (by omega) da
        have cB := at15_any b ab lb cb i wr (rb.below HQ.out (Nat.le_refl _)) (by omega) (by omega) db
        have hx1 := da.at i
        have hx2 := db.at i
        generalize dg a i = x1 at *
        generalize dg b i = x2 at *
        have hown := HO.out
        by_cases hneg : x1 < x2 + c
        · have HN1 := HN.out (x1 + 256 - x2 - c) 1 (by omega) (by omega) (by omega)
          have hs : (x1 : Int) - (x2 : Int) - (c : Int) < 0 := by omega
          have hs2 : (x1 : Int) - (x2 : Int) - (c : Int) + 256 = ((x1 + 256 - x2 - c : Nat) : Int) := by omega
          have hs9 : x1 + 256 - x2 - c < 256 := by omega
          generalize x1 + 256 - x2 - c = x at *
          clear HN
          go_wp2_with fail
          refine cA.mono ?_
          rintro e w' ⟨rfl, rfl⟩
          go_wp2_with fail
          refine cB.mono ?_
          rintro e w' ⟨rfl, rfl⟩
          clear cA cB
          go_wp2_with (at_builtin; refine wpList_append_own _ rfl _ _ 22 rfl w.heap.size 5 i0 (.int .u8 0) 1 1 Tryd.underlying22 hi0 hz0 hz1 hz2 rfl (by decide) _ _ _ rfl (hown.alloc _) ⟨wr.heap.size, 0, none⟩ 1 1 [.int .u8 (x : Int)] rfl rfl (cell_one_new _ _ _) (by intro u hu; simp at hu; subst hu; rfl) (by unfold maxLen; omega) (by omega) (by simp; omega) ?_)
          intro v' w1 hown' hgrow _
          have R := rel_push hsz hown HQ.out hown' hgrow
          rw [show nI o ++ [(x : Int)] = nI (o ++ [x]) from by simp [nI]] at R
          clear hown' hgrow
          go_wp2
          go_roundw
          case rel => exact ⟨i + 1, 1, o ++ [x], by omega, by go_num, by go_num, HN1, R.1, R.2⟩
          case measure => simp [intOf] <;> omega
        · have HN1 := HN.out (x1 - x2 - c) 0 (by omega) (by omega) (by omega)
          have hs : ¬ (x1 : Int) - (x2 : Int) - (c : Int) < 0 := by omega
          have hs2 : (x1 : Int) - (x2 : Int) - (c : Int) = ((x1 - x2 - c : Nat) : Int) := by omega
          have hs9 : x1 - x2 - c < 256 := by omega
          generalize x1 - x2 - c = x at *
          clear HN
          go_wp2_with fail
          refine cA.mono ?_
          rintro e w' ⟨rfl, rfl⟩
          go_wp2_with fail
          refine cB.mono ?_
          rintro e w' ⟨rfl, rfl⟩
          clear cA cB
          go_wp2_with (at_builtin; refine wpList_append_own _ rfl _ _ 22 rfl w.heap.size 5 i0 (.int .u8 0) 1 1 Tryd.underlying22 hi0 hz0 hz1 hz2 rfl (by decide) _ _ _ rfl (hown.alloc _) ⟨wr.heap.size, 0, none⟩ 1 1 [.int .u8 (x : Int)] rfl rfl (cell_one_new _ _ _) (by intro u hu; simp at hu; subst hu; rfl) (by unfold maxLen; omega) (by omega) (by simp; omega) ?_)
          intro v' w1 hown' hgrow _
          have R := rel_push hsz hown HQ.out hown' hgrow
          rw [show nI o ++ [(x : Int)] = nI (o ++ [x]) from by simp [nI]] at R
          clear hown' hgrow
          go_wp2
          go_roundw
          case rel => exact ⟨i + 1, 0, o ++ [x], by omega, by go_num, by go_num, HN1, R.1, R.2⟩
          case measure => simp [intOf] <;> omega
      · obtain rfl : i = la := by omega
        have HV : Hid (vL o = vL a - vL b) := HI.out.done da db HA.out HE.out
        obtain ⟨ao, co, rfl, ro⟩ := row_of_owns HO.out
        have cN := refNorm15_any o HI.out.dig ao i co wr ro (by omega)
        rw [HV.out] at cN
        clear hgo
        go_wp2_with fail
        refine cN.mono ?_
        rintro e w3 ⟨a3, c3, rfl, r3, q3⟩
        have q4 := HQ.out.trans (q3.mono HQ.out.size)
        go_wp2_with fail
        go_ret
        exact ⟨_, _, rfl, r3, q4⟩
end Go.Proofs.YtgofapndgjfnhaaDoor.N
