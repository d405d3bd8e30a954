/-
  Layer 13's reference: Primes, Start, Rounds.
-/
import Derived.Test.YthcnnglpncblaaaShaRef3
namespace Go.Proofs.Ythcnnglpncblaaa
open Go.RowKit
set_option linter.unusedVariables false
set_option maxRecDepth 8192

theorem apartR_take (p : Nat) (l : List Nat) (k : Nat) (hk : k < l.length) : apartR p (l.take (k + 1)) = (apartR p (l.take k) && !(Nat.beq (p % l[k]?.getD 0) 0)) := by
  unfold apartR
  rw [List.take_add_one, List.getElem?_eq_getElem hk, List.all_append]
  simp
set_option maxHeartbeats 1600000 in
theorem refPrimes_yes (n : Nat) (w : World) (hn : n ≤ 100) : Calls Try.prog 22 #[.int .i64 (n : Int)] w fun e w' =>
    ∃ v, e = .returned v ∧ w'.ownsRow w.heap.size 3 1 v n ((nI (prL.take n)).map (Value.int .i64)) ∧ Below w.heap.size w w' := by
  obtain ⟨i0, hi0, hz0, hz1, hz2⟩ := info_parts Try.info3
  go_enter Try.func22, Try.ntmps22
  go_wp2
  go_loopw [3, 4] (fun v y wr => ∃ p : Nat, 2 ≤ p ∧ p ≤ 542 ∧ y = .int .i64 (p : Int) ∧ Hid ((prTo p).length ≤ n) ∧ Hid (wr.ownsRow w.heap.size 3 1 v (prTo p).length ((nI (prTo p)).map (Value.int .i64))) ∧ Hid (Below w.heap.size w wr)) (fun _ y _ => 543 - (intOf y).toNat)
  case atStart => exact ⟨2, by omega, by omega, rfl, by rw [prTo_two]; exact Nat.zero_le _, by rw [prTo_two]; exact World.ownsRow_nil _ _ _ _, Below.refl _ _⟩
  case round =>
    obtain ⟨p, hp2, hp5, rfl, HL, HO, HB⟩ := hrel
    have hsz : w.heap.size ≤ wr.heap.size := HB.out.size
    obtain ⟨a, cap, rfl, hrow⟩ := row_of_owns HO.out
    by_cases hlt : (prTo p).length < n
    · have hp1 : p ≤ 541 := prTo_few hn hlt
      have hnx := prTo_next p hp2 hp1
      have hlL : (prTo p).length ≤ 100 := by omega
      have HN : Hid (prTo (p + 1) = (if apartR p (prTo p) = true then prTo p ++ [p] else prTo p)) := by show _ = _; rw [hnx.2]; exact hnx.1
      clear hnx
      have hmem : ∀ i, i < (prTo p).length → 0 < (prTo p)[i]?.getD 0 ∧ (prTo p)[i]?.getD 0 < 542 := fun i hi => by rw [List.getElem?_eq_getElem hi]; exact prTo_mem (List.getElem_mem hi)
      have HM : Hid (∀ i, i < (prTo p).length → 0 < (prTo p)[i]?.getD 0 ∧ (prTo p)[i]?.getD 0 < 542) := hmem
      clear hmem
      have HT : Hid (∀ k, k < (prTo p).length → apartR p ((prTo p).take (k + 1)) = (apartR p ((prTo p).take k) && !(Nat.beq (p % (prTo p)[k]?.getD 0) 0))) := fun k hk => apartR_take p (prTo p) k hk
      have HA : Hid (apartR p ((prTo p).take (prTo p).length) = apartR p (prTo p)) := by show _ = _; rw [List.take_length]
      have HLT : Hid ((prTo p).length < n) := hlt
      obtain ⟨wo, hwo⟩ : ∃ x, x = wr := ⟨_, rfl⟩
      subst hwo
      generalize hLL : (prTo p).length = L at *
      go_wp2
      go_loopw [5, 6] (fun b y ws => ∃ k : Nat, k ≤ L ∧ y = .int .i64 (k : Int) ∧ b = .bool (apartR p ((prTo p).take k)) ∧ ws = wo) (fun _ y _ => L - (intOf y).toNat)
      case atStart => exact ⟨0, Nat.zero_le _, rfl, rfl, rfl⟩
      case round =>
        obtain ⟨k, hk, rfl, rfl, rfl⟩ := hrel
        by_cases hkl : k < L
        · obtain ⟨b, off, rfl, hbs, hcell⟩ := hrow.hcell (by omega)
          have hc1 := hcell k hkl
          clear hcell
          rw [nI_get] at hc1
          have hq := HM.out k hkl
          have HT1 := HT.out k hkl
          have HT2 : Hid (apartR p ((prTo p).take (k + 1)) = (apartR p ((prTo p).take k) && !(Nat.beq (p % (prTo p)[k]?.getD 0) 0))) := HT1
          clear HT1
          generalize (prTo p)[k]?.getD 0 = q at *
          have hmod : (p : Int).tmod (q : Int) = ((p % q : Nat) : Int) := (Int.ofNat_tmod p q).symm
          have hml : p % q < q := Nat.mod_lt _ hq.1
          have hbq : (!(Nat.beq (p % q) 0)) = (((p % q : Nat) : Int) != 0) := by
            rw [Bool.eq_iff_iff]
            simp only [Bool.not_eq_true', bne_iff_ne, ne_eq]
            rw [← Bool.not_eq_true, Nat.beq_eq]
            omega
          rw [hbq] at HT2
          clear hbq
          generalize p % q = m at *
          have hq0 : ¬ (q : Int) = 0 := by omega
          generalize hbb : apartR p ((prTo p).take k) = bb at *
          clear hbb
          cases bb
          all_goals
            go_wp2
            go_roundw
            case rel => exact ⟨k + 1, by omega, by go_num, by rw [HT2.out]; simp, by first | trivial | rfl⟩
            case measure => simp [intOf]; omega
        · obtain rfl : k = L := by omega
          rw [HA.out]
          cases h : apartR p (prTo p)
          · have HE : Hid (prTo (p + 1) = prTo p) := by show _ = _; rw [HN.out, h]; rfl
            go_wp2
            go_roundw
            case rel =>
              refine ⟨p + 1, by omega, by omega, by go_num, ?_, ?_, HB⟩
              · rw [HE.out, hLL]; exact HL
              · rw [HE.out, hLL]; exact HO
            case measure => simp [intOf]; omega
          · have HE : Hid (prTo (p + 1) = prTo p ++ [p]) := by show _ = _; rw [HN.out, h]; rfl
            have hown := HO.out
            go_wp2_with (at_builtin; refine wpList_append_own _ rfl _ _ 42 rfl w.heap.size 3 i0 (.int .i64 0) 1 8 Try.underlying42 hi0 hz0 hz1 hz2 rfl (by decide) _ _ _ rfl (hown.alloc _) ⟨_, 0, none⟩ 1 1 [.int .i64 (p : Int)] rfl rfl (cell_one_new _ _ _) (by intro u hu; simp at hu; subst hu; rfl) (by unfold maxLen; omega) (by omega) (by simp; omega) ?_)
            intro v' w1 hown' hgrow _
            have R := rel_push hsz hown HB.out hown' hgrow
            rw [← nI_snoc, ← HE.out] at R
            have hLn : (prTo (p + 1)).length = k + 1 := by rw [HE.out]; simp [hLL]
            clear hown' hgrow
            go_wp2
            go_roundw
            case rel =>
              refine ⟨p + 1, by omega, by omega, by go_num, ?_, ?_, R.2⟩
              · rw [hLn]; have := HLT.out; show k + 1 ≤ n; omega
              · rw [hLn]; exact R.1
            case measure => simp [intOf]; omega
    · have e1 : (prTo p).length = n := by have := HL.out; omega
      have HT : Hid (prTo p = prL.take n) := by show _ = _; rw [prTo_take p hp2 hp5, e1]
      have hown := HO.out
      rw [HT.out, List.length_take, prL_length, Nat.min_eq_left hn] at hown
      rw [e1] at *
      go_wp2
      go_ret
      exact ⟨_, rfl, hown, HB.out⟩
theorem prL_take_get (n i : Nat) (h : i < n) : (prL.take n)[i]?.getD 0 = prL[i]?.getD 0 := by rw [List.getElem?_take, if_pos h]
theorem prL_get_lt (i : Nat) : prL[i]?.getD 0 < 542 := by
  rcases Nat.lt_or_ge i prL.length with h | h
  · rw [List.getElem?_eq_getElem h]; exact prL_lt _ (List.getElem_mem h)
  · rw [List.getElem?_eq_none h]; decide
theorem map_take_get (f : Nat → Nat) (n i : Nat) (L : List Nat) (h : (prL.take n).map f = L) (hn : n ≤ 100) (hi : i < n) : L[i]?.getD 0 = f (prL[i]?.getD 0) := by
  have hl : i < prL.length := by rw [prL_length]; omega
  rw [← h, List.getElem?_map, List.getElem?_take, if_pos hi, List.getElem?_eq_getElem hl]
  rfl
theorem take_snocN (ps : List Nat) (k : Nat) (h : k < ps.length) : ps.take (k + 1) = ps.take k ++ [ps[k]?.getD 0] := by
  rw [List.take_add_one, List.getElem?_eq_getElem h]; rfl
end Go.Proofs.Ythcnnglpncblaaa
