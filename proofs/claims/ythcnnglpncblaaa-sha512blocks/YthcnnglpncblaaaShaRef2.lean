/-
  Layer 13's reference, of numbers as digits: digits, Times, Greater, above, frac.
-/
import Derived.Test.YthcnnglpncblaaaShaRef
namespace Go.Proofs.Ythcnnglpncblaaa
open Go.RowKit
set_option linter.unusedVariables false
set_option maxRecDepth 8192

theorem belowN {B : Nat} {a w : World} (h : Below B a w) (n : Nat) : Below B a (w.drewN n) := ⟨h.os, h.tape, h.output, h.size, h.block⟩
theorem ownsSince {w w' : World} {base : Nat} {e : TypeId} {size : Nat} {v : Value} {n : Nat} {xs : List Value} (h : w.ownsRow base e size v n xs) (hb : Below w.heap.size w w') : w'.ownsRow base e size v n xs := by
  refine ⟨h.1, ?_⟩
  rcases h.2 with h2 | ⟨g, cap, cur, hv, hg, hh, r⟩
  · exact .inl h2
  · have hlt : g < w.heap.size := by
      rcases Nat.lt_or_ge g w.heap.size with hh' | hh'
      · exact hh'
      · rw [Array.getElem?_eq_none hh'] at hh; simp at hh
    exact .inr ⟨g, cap, cur, hv, hg, by rw [hb.block g hlt]; exact hh, r⟩
theorem nI_dg (l : List Nat) (i : Nat) : (nI l)[i]?.getD 0 = ((dg l i : Nat) : Int) := nI_get l i
theorem lt_pow_big (x k : Nat) (hx : x < 549755813888) (h : 0 < x / 65536 ^ k) : k < 3 := by
  rcases Nat.lt_or_ge k 3 with h1 | h1
  · exact h1
  · exfalso
    have h2 : 65536 ^ 3 ≤ 65536 ^ k := Nat.pow_le_pow_right (by decide) h1
    have h3 : x / 65536 ^ k = 0 := Nat.div_eq_of_lt (by omega)
    omega
set_option maxHeartbeats 3200000 in
theorem times13_any (a b : List Nat) (aa ab : Option Addr) (la ca lb cb : Nat) (w : World) (ha : Row .i64 w aa la ca (nI a)) (hb : Row .i64 w ab lb cb (nI b)) (da : Dig a) (db : Dig b) (hla : la ≤ 20) (hlb : lb ≤ 20) :
    Calls Try.prog 35 #[.slice aa la ca, .slice ab lb cb] w fun e w' =>
      ∃ v, e = .returned v ∧ ∃ out : List Nat, out.length = la + lb + 1 ∧ Dig out ∧ vL out = vL a * vL b ∧ w'.ownsRow w.heap.size 3 1 v (la + lb + 1) ((nI out).map (Value.int .i64)) ∧ Below w.heap.size w w' := by
  obtain ⟨i0, hi0, hz0, hz1, hz2⟩ := info_parts Try.info3
  have HA : Hid (a.length = la) := by have := ha.hlen; rwa [nI_length] at this
  have HBl : Hid (b.length = lb) := by have := hb.hlen; rwa [nI_length] at this
  have hmax : la + lb + 1 ≤ maxLen := by unfold maxLen; omega
  have hmk : ∀ w1 : World, w1.ownsRow w.heap.size 3 1 (.slice (some ⟨w.heap.size, 0, none⟩) (la + lb + 1) (la + lb + 1)) (la + lb + 1) (madeCells (Value.int IntKind.i64 0).cells ((la + lb + 1) * 1)).toList → w.grownBy w1 none →
      w1.ownsRow w.heap.size 3 1 (.slice (some ⟨w.heap.size, 0, none⟩) (la + lb + 1) (la + lb + 1)) (la + lb + 1) ((nI (List.replicate (la + lb + 1) 0)).map (Value.int .i64)) ∧ Below w.heap.size w w1 := fun w1 h1 h2 => by
    refine ⟨?_, (Below.refl _ _).grown h2 (Nat.le_refl _) (by simp)⟩
    rw [made_ints] at h1
    simpa [nI] using h1
  have hwr : IntKind.i64.wrap ((la : Int) + (lb : Int)) = ((la + lb : Nat) : Int) := by rw [IntKind.wrap_i64]; omega
  generalize hL : la + lb + 1 = L at *
  go_enter Try.func35, Try.ntmps35
  go_wp2_with (at_make; refine wpList_make_full _ rfl _ _ 42 rfl w.heap.size 3 i0 (.int .i64 0) 1 Try.underlying42 hi0 hz0 hz1 _ _ _ _ L rfl rfl (by omega) (by omega) (by rw [hz2]; omega) hmax (Nat.le_refl _) ?_; intro w1 hown1 hgrow1)
  obtain ⟨hown2, hb2⟩ := hmk w1 hown1 hgrow1
  clear hmk hown1 hgrow1
  go_loopw [6] (fun y wr => ∃ (i : Nat) (out : List Nat), i ≤ la ∧ y = .int .i64 (i : Int) ∧ Hid (out.length = a.length + b.length + 1) ∧ Hid (Dig out) ∧ Hid (vL out = vTo (dg a) i * vL b) ∧ Hid (wr.ownsRow w.heap.size 3 1 (.slice (some ⟨w.heap.size, 0, none⟩) L L) L ((nI out).map (Value.int .i64))) ∧ Hid (Below w.heap.size w wr)) (fun y _ => la - (intOf y).toNat)
  case atStart => exact ⟨0, List.replicate L 0, Nat.zero_le _, rfl, by rw [List.length_replicate, HA.out, HBl.out]; exact hL.symm, Dig.zero, by show _ = _; rw [vL_zero]; simp [vTo], hown2, hb2⟩
  case round =>
    clear hown2 hb2
    obtain ⟨i, o, hi, rfl, HOL, HOD, HOV, HO, HB⟩ := hrel
    by_cases hlt : i < la
    · have HT0 : Hid (TimI a b o o i 0 0) := TimI.begin HOL.out HOD.out HOV.out
      go_wp2
      go_loopw [7, 8] (fun c y ws => ∃ (k cc : Nat) (out : List Nat), k ≤ L ∧ y = .int .i64 (k : Int) ∧ c = .int .i64 (cc : Int) ∧ Hid (TimI a b o out i k cc) ∧ Hid (ws.ownsRow w.heap.size 3 1 (.slice (some ⟨w.heap.size, 0, none⟩) L L) L ((nI out).map (Value.int .i64))) ∧ Hid (Below w.heap.size w ws)) (fun _ y _ => L + 1 - (intOf y).toNat)
      case atStart => exact ⟨0, 0, o, Nat.zero_le _, rfl, rfl, HT0, HO, HB⟩
      case round =>
        clear HOL HOD HOV HO HB HT0
        obtain ⟨k, c, out, hk, rfl, rfl, HT, HO, HB⟩ := hrel
        have hcl := HT.out.clt
        by_cases hgo : k < lb ∨ 0 < c
        · have hroom := HT.out.room da db (by rw [HA.out]; exact hlt) (by rw [HBl.out]; exact hgo)
          rw [HA.out, HBl.out, hL] at hroom
          have hkk : lb ≤ k → k = lb := hroom.2
          have hik := hroom.1
          clear hroom
          have hik' : (i : Int) + (k : Int) < (L : Int) := by omega
          have HN : Hid (∀ x, x = dg out (i + k) + c + dg a i * dg b k → TimI a b o (out.set (i + k) (x % 65536)) i (k + 1) (x / 65536)) := fun x hx => HT.out.next da db (by rw [HA.out, HBl.out, hL]; exact hik) hx
          have hcell := owned_cell HO.out (i + k) hik
          rw [nI_dg] at hcell
          have hfz := HO.out.frozenAt (i + k)
          have hown := HO.out
          have hsz := HB.out.size
          obtain ⟨bA, oA, rfl, hbA, hcA⟩ := (ha.below HB.out (Nat.le_refl _)).hcell (by omega)
          have hcA1 := hcA i hlt
          clear hcA
          rw [nI_dg] at hcA1
          have b1 := da.at i
          have b3 := HT.out.dig.at (i + k)
          have eik : IntKind.i64.wrap ((i : Int) + (k : Int)) = ((i + k : Nat) : Int) := by rw [IntKind.wrap_i64]; omega
          have eik2 : (i : Int) + (k : Int) = ((i + k : Nat) : Int) := by omega
          by_cases hkb : k < lb
          · obtain ⟨bB, oB, rfl, hbB, hcB⟩ := (hb.below HB.out (Nat.le_refl _)).hcell (by omega)
            have hcB1 := hcB k hkb
            clear hcB
            rw [nI_dg] at hcB1
            have b2 := db.at k
            have hp := Nat.mul_le_mul (show dg a i ≤ 65535 by omega) (show dg b k ≤ 65535 by omega)
            generalize dg a i = x1 at *
            generalize dg b k = x2 at *
            generalize dg out (i + k) = x3 at *
            have hm : (x1 : Int) * (x2 : Int) = ((x1 * x2 : Nat) : Int) := (Int.natCast_mul x1 x2).symm
            generalize x1 * x2 = xx at *
            have HS : Hid (_ ∧ _) := owned_set (q := i + k) (x := ((x3 : Int) + (c : Int) + (xx : Int)) % 65536) (Nat.le_refl _) hown HB.out
            have HN1 := HN.out (x3 + c + xx) rfl
            have e1 : ((x3 : Int) + (c : Int) + (xx : Int)) % 65536 = (((x3 + c + xx) % 65536 : Nat) : Int) := by omega
            have HE1 : Hid (((x3 : Int) + (c : Int) + (xx : Int)) % 65536 = (((x3 + c + xx) % 65536 : Nat) : Int)) := e1
            clear e1
            generalize hikk : i + k = ik at *
            have HIK : Hid (i + k = ik) := hikk
            clear hikk
            have hlb' : (k : Int) < (lb : Int) := by omega
            clear HN hgo hkk
            go_wp2_with fail
            go_quiet (fail)
            go_wp2
            go_roundw
            case rel =>
              refine ⟨k + 1, (x3 + c + xx) / 65536, out.set ik ((x3 + c + xx) % 65536), by omega, by go_num, by go_num, HN1, ?_, ?_⟩
              · have := HS.out.1
                rw [HE1.out, nI_set] at this
                exact this
              · exact (belowN HB.out _).setCell (Nat.le_refl _) _
            case measure => simp [intOf]; omega
          · have hc0 : 0 < c := by omega
            have hz : dg b k = 0 := dg_past (by rw [HBl.out]; omega)
            rw [hz] at HN
            generalize dg a i = x1 at *
            generalize dg out (i + k) = x3 at *
            have HS : Hid (_ ∧ _) := owned_set (q := i + k) (x := ((x3 : Int) + (c : Int)) % 65536) (Nat.le_refl _) hown HB.out
            have HN1 := HN.out (x3 + c) (by omega)
            have HE1 : Hid (((x3 : Int) + (c : Int)) % 65536 = (((x3 + c) % 65536 : Nat) : Int)) := by show _ = _; omega
            generalize hikk : i + k = ik at *
            have HIK : Hid (i + k = ik) := hikk
            clear hikk
            have hlb' : ¬ (k : Int) < (lb : Int) := by omega
            clear HN hgo hkk hz
            go_wp2
            go_roundw
            case rel =>
              refine ⟨k + 1, (x3 + c) / 65536, out.set ik ((x3 + c) % 65536), by omega, by go_num, by go_num, HN1, ?_, ?_⟩
              · have := HS.out.1
                rw [HE1.out, nI_set] at this
                exact this
              · exact HS.out.2
            case measure => simp [intOf]; omega
        · obtain rfl : c = 0 := by omega
          have hge : lb ≤ k := by omega
          have HV : Hid (vL out = vTo (dg a) (i + 1) * vL b) := HT.out.done (by rw [HBl.out]; exact hge)
          have HOL : Hid (out.length = a.length + b.length + 1) := HT.out.len
          have HOD : Hid (Dig out) := HT.out.dig
          clear HT hgo
          have hlb' : ¬ (k : Int) < (lb : Int) := by omega
          go_wp2
          go_roundw
          case rel => exact ⟨i + 1, out, by omega, by go_num, HOL, HOD, HV, HO, HB⟩
          case measure => simp [intOf]; omega
    · obtain rfl : i = la := by omega
      have HV : Hid (vL o = vL a * vL b) := by
        show _ = _
        rw [HOV.out, show vTo (dg a) i = vL a from by unfold vL; rw [HA.out]]
      go_wp2
      go_ret
      exact ⟨_, rfl, o, by rw [HOL.out, HA.out, HBl.out, hL], HOD.out, HV.out, HO.out, HB.out⟩
end Go.Proofs.Ythcnnglpncblaaa
