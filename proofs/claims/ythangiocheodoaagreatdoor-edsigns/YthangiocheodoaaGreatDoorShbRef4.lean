/-
 The document's answer for layer 14 (casemateref14): Block.
-/
import Derived.Test.YthangiocheodoaaGreatDoorPackSg
namespace Go.Proofs.YthangiocheodoaaGreatDoor.B
open Go.RowKit
set_option linter.unusedVariables false
set_option maxRecDepth 8192

theorem moreW_get (l : List Nat) (k m j : Nat) (hj : j < l.length + k) : (moreW l (k + m))[j]?.getD 0 = (moreW l k)[j]?.getD 0 := by
 induction m with
 | zero => rfl
 | succ m ih =>
  rw [← Nat.add_assoc, moreW, List.getElem?_append_left (by rw [moreW_length]; omega), ih]
theorem more_word (l : List Nat) (n i : Nat) (hi : i < l.length) : (moreW l n)[i]?.getD 0 = l[i]?.getD 0 := by
 have h := moreW_get l 0 n i (by omega)
 rw [Nat.zero_add] at h
 exact h
theorem more_next (l : List Nat) (n k : Nat) (h16 : l.length = 16) (hk : k < n) : (moreW l n)[16 + k]?.getD 0 = ((moreW l n)[16 + k - 16]?.getD 0 + sg0 ((moreW l n)[16 + k - 15]?.getD 0) + (moreW l n)[16 + k - 7]?.getD 0 + sg1 ((moreW l n)[16 + k - 2]?.getD 0)) % 18446744073709551616 := by
 have hl : (moreW l k).length = 16 + k := by rw [moreW_length, h16]
 have g : ∀ j, j < 16 + k → (moreW l n)[j]?.getD 0 = (moreW l k)[j]?.getD 0 := fun j hj => by
  have h := moreW_get l k (n - k) j (by omega)
  rw [show k + (n - k) = n from by omega] at h
  exact h
 have g1 : (moreW l n)[16 + k]?.getD 0 = nextW (moreW l k) := by
  have h := moreW_get l (k + 1) (n - (k + 1)) (16 + k) (by omega)
  rw [show k + 1 + (n - (k + 1)) = n from by omega] at h
  have hm : moreW l (k + 1) = moreW l k ++ [nextW (moreW l k)] := rfl
  generalize nextW (moreW l k) = nx at *
  rw [h, hm, List.getElem?_append_right (by omega), hl, Nat.sub_self, List.getElem?_cons_zero, Option.getD_some]
 have hx : nextW (moreW l k) = ((moreW l k)[16 + k - 16]?.getD 0 + sg0 ((moreW l k)[16 + k - 15]?.getD 0) + (moreW l k)[16 + k - 7]?.getD 0 + sg1 ((moreW l k)[16 + k - 2]?.getD 0)) % 18446744073709551616 := by unfold nextW; rw [hl]
 rw [g1, hx, g (16 + k - 16) (by omega), g (16 + k - 15) (by omega), g (16 + k - 7) (by omega), g (16 + k - 2) (by omega)]
theorem spread_word (z : List Nat) (i : Nat) (hi : i < 16) : (spreadL z)[i]?.getD 0 = word8 z i := by
 unfold spreadL
 rw [more_word _ _ i (by rw [words16_length]; exact hi)]
 simp [words16, hi]
theorem spread_next (z : List Nat) (i : Nat) (h1 : 16 ≤ i) (h2 : i < 80) : (spreadL z)[i]?.getD 0 = ((spreadL z)[i - 16]?.getD 0 + sg0 ((spreadL z)[i - 15]?.getD 0) + (spreadL z)[i - 7]?.getD 0 + sg1 ((spreadL z)[i - 2]?.getD 0)) % 18446744073709551616 := by
 unfold spreadL
 have h := more_next (words16 z) 64 (i - 16) (words16_length z) (by omega)
 rw [show 16 + (i - 16) = i from by omega] at h
 exact h
theorem fill_get {L : List Nat} {n k j : Nat} (hL : L.length = n) (hk : k ≤ n) (hj : j < k) : (fillL L n k)[j]?.getD 0 = L[j]?.getD 0 := by
 unfold fillL
 rw [List.getElem?_append_left (by simp; omega), List.getElem?_take, if_pos hj]
theorem fill_nought {L : List Nat} {n k j : Nat} (hL : L.length = n) (hk : k ≤ j) (hj : j < n) : (fillL L n k)[j]?.getD 0 = 0 := by
 unfold fillL
 rw [List.getElem?_append_right (by simp; omega), List.getElem?_replicate]
 split <;> rfl
theorem set_same {l : List Nat} {j : Nat} (hj : j < l.length) (x : Nat) (hx : l[j]?.getD 0 = x) : l.set j x = l := by
 apply List.ext_getElem (by simp)
 intro i h1 h2
 rw [List.getElem_set]
 by_cases e : j = i
 ·subst e
  rw [if_pos rfl, ← hx, List.getElem?_eq_getElem hj]
  rfl
 ·rw [if_neg e]
/-- What was made, of which the first k words had the state added. -/
def plusQ (s q : S8) (k : Nat) : List Nat := (s.plus q).list.take k ++ q.list.drop k
set_option maxHeartbeats 6400000 in
theorem refBlock14 (s : S8) (K z : List Nat) (a : Option Addr) (cap : Nat) (w : World) (hs : s.Ok) (hK : K.length = 80) (hKl : ∀ x ∈ K, x < 18446744073709551616) (hr : Row .u8 w a 128 cap (nI z)) (hz : ∀ x ∈ z, x < 256) :
  Calls Tryz.prog 52 #[.agg ((nI K).map (Value.int .u64)).toArray, .agg ((nI s.list).map (Value.int .u64)).toArray, .slice a 128 cap] w fun e w' => e = .returned (.agg ((nI (mixL K s z).list).map (Value.int .u64)).toArray) ∧ Below w.heap.size w w' := by
 have HZ : Hid (∀ x ∈ z, x < 256) := hz
 have HK : Hid (K.length = 80) := hK
 have HKl : Hid (∀ x ∈ K, x < 18446744073709551616) := hKl
 have HSL : Hid ((spreadL z).length = 80) := spreadL_length z
 have HS : Hid (∀ x ∈ spreadL z, x < 18446744073709551616) := spreadL_lt z hz
 have HFin : Hid (∀ q, rndTo s K (spreadL z) 80 = q → mixL K s z = s.plus q) := fun q hq => by unfold mixL; rw [hq]
 have HWw : Hid (∀ i, i < 16 → (spreadL z)[i]?.getD 0 = word8 z i) := fun i hi => spread_word z i hi
 have HWn : Hid (∀ i, 16 ≤ i → i < 80 → (spreadL z)[i]?.getD 0 = ((spreadL z)[i - 16]?.getD 0 + sg0 ((spreadL z)[i - 15]?.getD 0) + (spreadL z)[i - 7]?.getD 0 + sg1 ((spreadL z)[i - 2]?.getD 0)) % 18446744073709551616) := fun i h1 h2 => spread_next z i h1 h2
 generalize spreadL z = W at *
 clear hz hK hKl
 generalize hX0 : ((nI K).map (Value.int .u64)).toArray = X0
 generalize hX1 : ((nI s.list).map (Value.int .u64)).toArray = X1
 have hz1 := Tryz.zeroValue75
 have hz2 := Tryz.zeroCells75_ne
 have hz3 := Tryz.zeroCells75_size
 have A3 := (((Arr.new w 75 .u64 (nI K) X0 hX0.symm).alloc (.cells X1 77)).alloc (.cells ((nI (List.replicate 8 0)).map (Value.int .u64)).toArray 77)).alloc (.cells Tryz.zeroCells75 75)
 have A4 := ((Arr.new (w.alloc (.cells X0 75)) 77 .u64 (nI s.list) X1 hX1.symm).alloc (.cells ((nI (List.replicate 8 0)).map (Value.int .u64)).toArray 77)).alloc (.cells Tryz.zeroCells75 75)
 have A6 := (Arr.new ((w.alloc (.cells X0 75)).alloc (.cells X1 77)) 77 .u64 (nI (List.replicate 8 0)) _ rfl).alloc (.cells Tryz.zeroCells75 75)
 have A7 := Arr.new (((w.alloc (.cells X0 75)).alloc (.cells X1 77)).alloc (.cells ((nI (List.replicate 8 0)).map (Value.int .u64)).toArray 77)) 75 .u64 (nI (List.replicate 80 0)) _ zero80
 have q1 := (below_three w (.cells X0 75) (.cells X1 77) (.cells ((nI (List.replicate 8 0)).map (Value.int .u64)).toArray 77)).alloc (by simp; omega) (.cells Tryz.zeroCells75 75)
 have y1 : (w.alloc (.cells X0 75)).heap.size = w.heap.size + 1 := by simp
 have y2 : ((w.alloc (.cells X0 75)).alloc (.cells X1 77)).heap.size = w.heap.size + 1 + 1 := by simp
 have y3 : (((w.alloc (.cells X0 75)).alloc (.cells X1 77)).alloc (.cells ((nI (List.replicate 8 0)).map (Value.int .u64)).toArray 77)).heap.size = w.heap.size + 1 + 1 + 1 := by simp
 rw [y1] at A4
 rw [y2] at A6
 rw [y3] at A7
 rw [← fillL_zero W 80] at A7
 go_enter Tryz.func52, Tryz.ntmps52
 go_wp2
 clear y1 y2 y3 hz1 hz2 hz3
 go_loopw [8] (fun y wr => ∃ i : Nat, i ≤ 80 ∧ y = .int .i64 (i : Int) ∧ Hid (Arr wr (w.heap.size + 1 + 1 + 1) 75 .u64 (nI (fillL W 80 i))) ∧ Hid (Arr wr w.heap.size 75 .u64 (nI K)) ∧ Hid (Arr wr (w.heap.size + 1) 77 .u64 (nI s.list)) ∧ Hid (Arr wr (w.heap.size + 1 + 1) 77 .u64 (nI (List.replicate 8 0))) ∧ Hid (Below w.heap.size w wr)) (fun y _ => 80 - (intOf y).toNat)
 case atStart => exact ⟨0, by omega, rfl, A7, A3, A4, A6, q1⟩
 case round =>
  clear A3 A4 A6 A7 q1 hX0 hX1
  obtain ⟨i, hi, rfl, HA7, HA3, HA4, HA6, HB⟩ := hrel
  have HFl : Hid ((fillL W 80 i).length = 80) := fillL_length HSL.out hi
  by_cases h80 : i < 80
  ·by_cases h16 : i < 16
   ·have hri := hr.below HB.out (Nat.le_refl _)
    have HE0 : Hid (Arr wr (w.heap.size + 1 + 1 + 1) 75 .u64 (nI ((fillL W 80 i).set i (pwr z i 0)))) := by
     show Arr _ _ _ _ _
     rw [set_same (by rw [HFl.out]; exact h80) _ (by rw [fill_nought HSL.out (Nat.le_refl _) h80]; rfl)]
     exact HA7.out
    have HE8 : Hid ((fillL W 80 i).set i (pwr z i 8) = fillL W 80 (i + 1)) := by
     show _ = _
     rw [pwr_eight, ← HWw.out i h16, fillL_next HSL.out h80]
    obtain ⟨wo, hwo⟩ : ∃ x, x = wr := ⟨_, rfl⟩
    subst hwo
    go_wp2
    go_loopw [9] (fun y wr => ∃ k : Nat, k ≤ 8 ∧ y = .int .i64 (k : Int) ∧ Hid (Arr wr (w.heap.size + 1 + 1 + 1) 75 .u64 (nI ((fillL W 80 i).set i (pwr z i k)))) ∧ Hid (Arr wr w.heap.size 75 .u64 (nI K)) ∧ Hid (Arr wr (w.heap.size + 1) 77 .u64 (nI s.list)) ∧ Hid (Arr wr (w.heap.size + 1 + 1) 77 .u64 (nI (List.replicate 8 0))) ∧ Hid (Below w.heap.size w wr)) (fun y _ => 8 - (intOf y).toNat)
    case atStart => exact ⟨0, by omega, rfl, HE0, HA3, HA4, HA6, HB⟩
    case round =>
     clear HE0 HA7 HA3 HA4 HA6 HB hri
     obtain ⟨k, hk, rfl, HA7, HA3, HA4, HA6, HB⟩ := hrel
     by_cases h8 : k < 8
     ·obtain ⟨b, off, rfl, hbs, hcell⟩ := (hr.below HB.out (Nat.le_refl _)).hcell (by omega)
      have hc1 := hcell (8 * i + k) (by omega)
      clear hcell
      rw [nI_get] at hc1
      have hx := getD_lt (by decide) HZ.out (8 * i + k)
      have hcl := HA7.out.cell i (by rw [nI_length, List.length_set, HFl.out]; exact h80)
      have hfz := HA7.out.unfrozen i
      rw [nI_get, List.getElem?_set_self (by rw [HFl.out]; exact h80)] at hcl
      have hpl : pwr z i k < 256 ^ 7 := Nat.lt_of_lt_of_le (pwr_lt z HZ.out i k) (Nat.pow_le_pow_right (by decide) (by omega))
      have HN : Hid (Arr (wr.setCell ⟨w.heap.size + 1 + 1 + 1, i, none⟩ (.int .u64 ((pwr z i k * 256 + z[8 * i + k]?.getD 0 : Nat) : Int))) (w.heap.size + 1 + 1 + 1) 75 .u64 (nI ((fillL W 80 i).set i (pwr z i (k + 1))))) := by
       show Arr _ _ _ _ _
       have := HA7.out.set (by rw [nI_length, List.length_set, HFl.out]; decide) i ((pwr z i k * 256 + z[8 * i + k]?.getD 0 : Nat) : Int)
       rw [nI_set, List.set_set] at this
       exact this
      simp only [Option.getD_some] at hcl
      generalize pwr z i k = p at *
      generalize z[8 * i + k]?.getD 0 = x at *
      have ho : bits .or .u64 (((p * 256 : Nat) : Int)) (x : Int) = ((p * 256 + x : Nat) : Int) := by rw [u64_or_nat _ _ (by omega) (by omega), or_byte p x hx]
      have hpl2 : p * 256 + x < 18446744073709551616 := by omega
      have hpl3 : p * 256 < 18446744073709551616 := by omega
      obtain ⟨px, hpx⟩ : ∃ y, p * 256 + x = y := ⟨_, rfl⟩
      rw [hpx] at HN ho hpl2
      obtain ⟨p256, hp256⟩ : ∃ y, p * 256 = y := ⟨_, rfl⟩
      have hp1 : (p : Int) * 256 = (p256 : Int) := by omega
      rw [hp256] at ho hpl3
      clear hpx hp256
      obtain ⟨ik, hik⟩ : ∃ y, 8 * i + k = y := ⟨_, rfl⟩
      have HIK : Hid (8 * i + k = ik) := hik
      rw [hik] at hc1
      have eik : (8 : Int) * (i : Int) + (k : Int) = (ik : Int) := by omega
      have hik2 : ik < 128 := by omega
      have tik : ((8 : Int) * (i : Int) + (k : Int)).toNat = ik := by omega
      clear hik
      go_wp2_with fail
      go_region
      go_wp2
      go_roundw
      case rel => exact ⟨k + 1, by omega, by go_num, HN, HA3.out.other _ _ (by show w.heap.size ≠ w.heap.size + 1 + 1 + 1; omega), HA4.out.other _ _ (by show w.heap.size + 1 ≠ w.heap.size + 1 + 1 + 1; omega), HA6.out.other _ _ (by show w.heap.size + 1 + 1 ≠ w.heap.size + 1 + 1 + 1; omega), (HB.out.drew).setCell (by show w.heap.size ≤ w.heap.size + 1 + 1 + 1; omega) _⟩
      case measure => simp [intOf]; omega
     ·obtain rfl : k = 8 := by omega
      rw [HE8.out] at HA7
      rw [show ((8 : Nat) : Int) = 8 from rfl]
      go_wp2
      go_roundw
      case rel => exact ⟨i + 1, by omega, by go_num, HA7, HA3, HA4, HA6, HB⟩
      case measure => simp [intOf]; omega
   ·have hlen : (nI (fillL W 80 i)).length = 80 := by rw [nI_length]; exact HFl.out
    have c16 := HA7.out.cell (i - 16) (by rw [hlen]; omega)
    have c15 := HA7.out.cell (i - 15) (by rw [hlen]; omega)
    have c7 := HA7.out.cell (i - 7) (by rw [hlen]; omega)
    have c2 := HA7.out.cell (i - 2) (by rw [hlen]; omega)
    have c0 := HA7.out.cell i (by rw [hlen]; omega)
    have hfz := HA7.out.unfrozen i
    rw [nI_get, fill_get HSL.out hi (by omega)] at c16 c15 c7 c2
    have HN : Hid (Arr (wr.setCell ⟨w.heap.size + 1 + 1 + 1, i, none⟩ (.int .u64 ((W[i]?.getD 0 : Nat) : Int))) (w.heap.size + 1 + 1 + 1) 75 .u64 (nI (fillL W 80 (i + 1)))) := by
     show Arr _ _ _ _ _
     have := HA7.out.set (by rw [hlen]; decide) i ((W[i]?.getD 0 : Nat) : Int)
     rw [nI_set, fillL_next HSL.out h80] at this
     exact this
    have b16 := getD_lt (by decide) HS.out (i - 16)
    have b15 := getD_lt (by decide) HS.out (i - 15)
    have b7 := getD_lt (by decide) HS.out (i - 7)
    have b2 := getD_lt (by decide) HS.out (i - 2)
    have hnx := HWn.out i (by omega) h80
    unfold sg0 sg1 at hnx
    have HX : Hid (_ = _) := hnx
    clear hnx
    generalize W[i]?.getD 0 = nx at *
    generalize W[i - 16]?.getD 0 = x16 at *
    generalize W[i - 15]?.getD 0 = x15 at *
    generalize W[i - 7]?.getD 0 = x7 at *
    generalize W[i - 2]?.getD 0 = x2 at *
    generalize (nI (fillL W 80 i))[i]?.getD 0 = x0 at *
    clear hlen
    have hi1 : 16 ≤ i := by omega
    have t16 : ((i : Int) - 16).toNat = i - 16 := by omega
    have t15 : ((i : Int) - 15).toNat = i - 15 := by omega
    have t7 : ((i : Int) - 7).toNat = i - 7 := by omega
    have t2 : ((i : Int) - 2).toNat = i - 2 := by omega
    have p16 : (0 : Int) ≤ (i : Int) - 16 ∧ (i : Int) - 16 < 80 := by omega
    have p15 : (0 : Int) ≤ (i : Int) - 15 ∧ (i : Int) - 15 < 80 := by omega
    have p7 : (0 : Int) ≤ (i : Int) - 7 ∧ (i : Int) - 7 < 80 := by omega
    have p2 : (0 : Int) ≤ (i : Int) - 2 ∧ (i : Int) - 2 < 80 := by omega
    obtain ⟨p16a, p16b⟩ := p16
    obtain ⟨p15a, p15b⟩ := p15
    obtain ⟨p7a, p7b⟩ := p7
    obtain ⟨p2a, p2b⟩ := p2
    have k1 : ∀ w, Calls Tryz.prog 90 #[.int .u64 (x15 : Int), .int .u64 1] w fun e' w' => e' = .returned (.int .u64 ((rr x15 1 : Nat) : Int)) ∧ w = w' := fun w => refRotr14 x15 1 w b15 (by decide) (by decide)
    have k8 : ∀ w, Calls Tryz.prog 90 #[.int .u64 (x15 : Int), .int .u64 8] w fun e' w' => e' = .returned (.int .u64 ((rr x15 8 : Nat) : Int)) ∧ w = w' := fun w => refRotr14 x15 8 w b15 (by decide) (by decide)
    have k19 : ∀ w, Calls Tryz.prog 90 #[.int .u64 (x2 : Int), .int .u64 19] w fun e' w' => e' = .returned (.int .u64 ((rr x2 19 : Nat) : Int)) ∧ w = w' := fun w => refRotr14 x2 19 w b2 (by decide) (by decide)
    have k61 : ∀ w, Calls Tryz.prog 90 #[.int .u64 (x2 : Int), .int .u64 61] w fun e' w' => e' = .returned (.int .u64 ((rr x2 61 : Nat) : Int)) ∧ w = w' := fun w => refRotr14 x2 61 w b2 (by decide) (by decide)
    have l7 := rr_lt x15 1 b15 (by decide)
    have l18 := rr_lt x15 8 b15 (by decide)
    have l17 := rr_lt x2 19 b2 (by decide)
    have l19 := rr_lt x2 61 b2 (by decide)
    have ld8 : x15 / 128 < 18446744073709551616 := by omega
    have ld10 : x2 / 64 < 18446744073709551616 := by omega
    have ed8 : (x15 : Int) / 128 = ((x15 / 128 : Nat) : Int) := by omega
    have ed10 : (x2 : Int) / 64 = ((x2 / 64 : Nat) : Int) := by omega
    generalize rr x15 1 = r7 at *
    generalize rr x15 8 = r18 at *
    generalize rr x2 19 = r17 at *
    generalize rr x2 61 = r19 at *
    generalize x15 / 128 = d8 at *
    generalize x2 / 64 = d10 at *
    have e1 : ∀ x : Int, x = ((r7 : Nat) : Int) → bits .xor .u64 x ((r18 : Nat) : Int) = ((r7 ^^^ r18 : Nat) : Int) := fun x hx => by subst hx; exact u64_xor_nat r7 r18 l7 l18
    have f1 := xlt l7 l18
    generalize r7 ^^^ r18 = y1 at *
    have e2 : ∀ x : Int, x = ((y1 : Nat) : Int) → bits .xor .u64 x ((d8 : Nat) : Int) = ((y1 ^^^ d8 : Nat) : Int) := fun x hx => by subst hx; exact u64_xor_nat y1 d8 f1 ld8
    have f2 := xlt f1 ld8
    generalize y1 ^^^ d8 = y2 at *
    have e3 : ∀ x : Int, x = ((r17 : Nat) : Int) → bits .xor .u64 x ((r19 : Nat) : Int) = ((r17 ^^^ r19 : Nat) : Int) := fun x hx => by subst hx; exact u64_xor_nat r17 r19 l17 l19
    have f3 := xlt l17 l19
    generalize r17 ^^^ r19 = y3 at *
    have e4 : ∀ x : Int, x = ((y3 : Nat) : Int) → bits .xor .u64 x ((d10 : Nat) : Int) = ((y3 ^^^ d10 : Nat) : Int) := fun x hx => by subst hx; exact u64_xor_nat y3 d10 f3 ld10
    have f4 := xlt f3 ld10
    generalize y3 ^^^ d10 = y4 at *
    have h80i : (i : Int) < 80 := by omega
    have h16i : ¬ (i : Int) < 16 := by omega
    go_wp2_with fail
    go_quiet (first
     | (go_at_call 90; with_reducible exact quietW (k1 _))
     | (go_at_call 90; with_reducible exact quietW (k8 _)))
    go_wp2_with fail
    have HNq : Hid (Arr ((wr.drewN nq).setCell ⟨w.heap.size + 1 + 1 + 1, i, none⟩ (.int .u64 (nx : Int))) (w.heap.size + 1 + 1 + 1) 75 .u64 (nI (fillL W 80 (i + 1)))) := HN
    have HA3q : Hid (Arr (wr.drewN nq) w.heap.size 75 .u64 (nI K)) := HA3.out.drewN nq
    have HA4q : Hid (Arr (wr.drewN nq) (w.heap.size + 1) 77 .u64 (nI s.list)) := HA4.out.drewN nq
    have HA6q : Hid (Arr (wr.drewN nq) (w.heap.size + 1 + 1) 77 .u64 (nI (List.replicate 8 0))) := HA6.out.drewN nq
    have HBq : Hid (Below w.heap.size w (wr.drewN nq)) := belowN HB.out nq
    replace c16 : (wr.drewN nq).cell? _ = _ := c16
    replace c7 : (wr.drewN nq).cell? _ = _ := c7
    replace c2 : (wr.drewN nq).cell? _ = _ := c2
    replace c0 : (wr.drewN nq).cell? _ = _ := c0
    replace hfz : (wr.drewN nq).frozen? _ = _ := hfz
    clear HN HA3 HA4 HA6 HB HA7 c15
    generalize wr.drewN nq = wq at *
    have p2c : (0 : Int) ≤ (i : Int) - 2 := by omega
    have p2d : (i : Int) - 2 < 80 := by omega
    have t2b : ((i : Int) - 2).toNat = i - 2 := by omega
    go_quiet (first
     | (go_at_call 90; with_reducible exact quietW (k19 _))
     | (go_at_call 90; with_reducible exact quietW (k61 _)))
    clear k1 k8 k19 k61
    have hn1 : i - 16 ≠ i := by omega
    have hn2 : i - 7 ≠ i := by omega
    go_wp2_with fail
    have p16c : (0 : Int) ≤ (i : Int) - 16 := by omega
    have p16d : (i : Int) - 16 < 80 := by omega
    have p7c : (0 : Int) ≤ (i : Int) - 7 := by omega
    have p7d : (i : Int) - 7 < 80 := by omega
    have t16b : ((i : Int) - 16).toNat = i - 16 := by omega
    have t7b : ((i : Int) - 7).toNat = i - 7 := by omega
    go_region
    rw [show IntKind.u64.wrap (IntKind.u64.wrap (IntKind.u64.wrap ((x16 : Int) + (y2 : Int)) + (x7 : Int)) + (y4 : Int)) = ((nx : Nat) : Int) from by rw [HX.out]; simp only [IntKind.wrap_u64]; omega]
    go_wp2
    go_roundw
    case rel => exact ⟨i + 1, by omega, by go_num, HNq, (HA3q.out.drewN _).other _ _ (by show w.heap.size ≠ w.heap.size + 1 + 1 + 1; omega), (HA4q.out.drewN _).other _ _ (by show w.heap.size + 1 ≠ w.heap.size + 1 + 1 + 1; omega), (HA6q.out.drewN _).other _ _ (by show w.heap.size + 1 + 1 ≠ w.heap.size + 1 + 1 + 1; omega), (belowN HBq.out _).setCell (by show w.heap.size ≤ w.heap.size + 1 + 1 + 1; omega) _⟩
    case measure => simp [intOf]; omega
  ·obtain rfl : i = 80 := by omega
   rw [fillL_full HSL.out] at HA7
   clear HFl HWw HWn h80 hi
   have HL8 : Hid ((nI s.list).length = 8) := by show _ = _; rw [nI_length]; rfl
   have A12 := Arr.new wr 77 .u64 (nI (List.replicate 8 0)) _ rfl
   have sB := HB.out.size
   have lt4 := HA4.out.lt
   have lt7 := HA7.out.lt
   have lt3 := HA3.out.lt
   have lt6 := HA6.out.lt
   rw [show ((80 : Nat) : Int) = 80 from rfl]
   go_wp2_with (first
    | (refine wpList_loadA rfl 77 _ rfl (w.heap.size + 1) rfl HA4.out Tryz.underlying77 Tryz.size77 HL8.out ?_)
    | (refine wpList_storeA rfl 77 _ _ rfl wr.heap.size (nI s.list) rfl rfl A12 Tryz.size77 (by decide +kernel) HL8.out ?_))
   have HA12 : Hid (Arr ((wr.alloc (.cells ((nI (List.replicate 8 0)).map (Value.int .u64)).toArray 77)).setRow wr.heap.size ((nI s.list).map (Value.int .u64)).toArray) wr.heap.size 77 .u64 (nI s.list)) := A12.whole (nI s.list)
   have HB7 : Hid (Arr ((wr.alloc (.cells ((nI (List.replicate 8 0)).map (Value.int .u64)).toArray 77)).setRow wr.heap.size ((nI s.list).map (Value.int .u64)).toArray) (w.heap.size + 1 + 1 + 1) 75 .u64 (nI W)) := (HA7.out.alloc (.cells ((nI (List.replicate 8 0)).map (Value.int .u64)).toArray 77)).whole_other _ (by omega)
   have HB3 : Hid (Arr ((wr.alloc (.cells ((nI (List.replicate 8 0)).map (Value.int .u64)).toArray 77)).setRow wr.heap.size ((nI s.list).map (Value.int .u64)).toArray) w.heap.size 75 .u64 (nI K)) := (HA3.out.alloc (.cells ((nI (List.replicate 8 0)).map (Value.int .u64)).toArray 77)).whole_other _ (by omega)
   have HB4 : Hid (Arr ((wr.alloc (.cells ((nI (List.replicate 8 0)).map (Value.int .u64)).toArray 77)).setRow wr.heap.size ((nI s.list).map (Value.int .u64)).toArray) (w.heap.size + 1) 77 .u64 (nI s.list)) := (HA4.out.alloc (.cells ((nI (List.replicate 8 0)).map (Value.int .u64)).toArray 77)).whole_other _ (by omega)
   have HB6 : Hid (Arr ((wr.alloc (.cells ((nI (List.replicate 8 0)).map (Value.int .u64)).toArray 77)).setRow wr.heap.size ((nI s.list).map (Value.int .u64)).toArray) (w.heap.size + 1 + 1) 77 .u64 (nI (List.replicate 8 0))) := (HA6.out.alloc (.cells ((nI (List.replicate 8 0)).map (Value.int .u64)).toArray 77)).whole_other _ (by omega)
   have HBB : Hid (Below w.heap.size w ((wr.alloc (.cells ((nI (List.replicate 8 0)).map (Value.int .u64)).toArray 77)).setRow wr.heap.size ((nI s.list).map (Value.int .u64)).toArray)) := below_setRow (HB.out.alloc sB (.cells ((nI (List.replicate 8 0)).map (Value.int .u64)).toArray 77)) sB _
   have hg12 : w.heap.size + 1 + 1 + 1 < wr.heap.size := lt7
   change Code.wp _ _ _ _ ((wr.alloc (.cells ((nI (List.replicate 8 0)).map (Value.int .u64)).toArray 77)).setRow wr.heap.size ((nI s.list).map (Value.int .u64)).toArray)
   clear A12 HA7 HA3 HA4 HA6 HB sB lt3 lt4 lt6 lt7
   generalize (wr.alloc (.cells ((nI (List.replicate 8 0)).map (Value.int .u64)).toArray 77)).setRow wr.heap.size ((nI s.list).map (Value.int .u64)).toArray = w2 at *
   generalize wr.heap.size = g12 at *
   go_wp2
   go_loopw [13] (fun y wr => ∃ k a b c d e f g h : Nat, k ≤ 80 ∧ y = .int .i64 (k : Int) ∧ Hid (rndTo s K W k = ⟨a, b, c, d, e, f, g, h⟩) ∧ Hid (Arr wr g12 77 .u64 (nI [a, b, c, d, e, f, g, h])) ∧ Hid (Arr wr (w.heap.size + 1 + 1 + 1) 75 .u64 (nI W)) ∧ Hid (Arr wr w.heap.size 75 .u64 (nI K)) ∧ Hid (Arr wr (w.heap.size + 1) 77 .u64 (nI s.list)) ∧ Hid (Arr wr (w.heap.size + 1 + 1) 77 .u64 (nI (List.replicate 8 0))) ∧ Hid (Below w.heap.size w wr)) (fun y _ => 80 - (intOf y).toNat)
   case atStart => exact ⟨0, s.a, s.b, s.c, s.d, s.e, s.f, s.g, s.h, by omega, rfl, rfl, HA12, HB7, HB3, HB4, HB6, HBB⟩
   case round =>
    clear HA12 HB7 HB3 HB4 HB6 HBB
    obtain ⟨k, a, b, c, d, e, f, g, h, hk, rfl, HQ, HA12, HA7, HA3, HA4, HA6, HB⟩ := hrel
    have hok := hs.to K W k
    rw [HQ.out] at hok
    obtain ⟨ba, bb, bc, bd, be, bf, bg, bh⟩ := hok
    dsimp only at ba bb bc bd be bf bg bh
    by_cases hlt : k < 80
    ·have cK := HA3.out.cell k (by rw [nI_length, HK.out]; exact hlt)
     have cW := HA7.out.cell k (by rw [nI_length, HSL.out]; exact hlt)
     rw [nI_get] at cK cW
     have lK := getD_lt (by decide) HKl.out k
     have lW := getD_lt (by decide) HS.out k
     have c0 : wr.cell? ⟨g12, 0, none⟩ = some (.int .u64 (a : Int)) := HA12.out.cell 0 (by rw [nI_length]; exact (by decide : 0 < 8))
     have c1 : wr.cell? ⟨g12, 1, none⟩ = some (.int .u64 (b : Int)) := HA12.out.cell 1 (by rw [nI_length]; exact (by decide : 1 < 8))
     have c2 : wr.cell? ⟨g12, 2, none⟩ = some (.int .u64 (c : Int)) := HA12.out.cell 2 (by rw [nI_length]; exact (by decide : 2 < 8))
     have c3 : wr.cell? ⟨g12, 3, none⟩ = some (.int .u64 (d : Int)) := HA12.out.cell 3 (by rw [nI_length]; exact (by decide : 3 < 8))
     have c4 : wr.cell? ⟨g12, 4, none⟩ = some (.int .u64 (e : Int)) := HA12.out.cell 4 (by rw [nI_length]; exact (by decide : 4 < 8))
     have c5 : wr.cell? ⟨g12, 5, none⟩ = some (.int .u64 (f : Int)) := HA12.out.cell 5 (by rw [nI_length]; exact (by decide : 5 < 8))
     have c6 : wr.cell? ⟨g12, 6, none⟩ = some (.int .u64 (g : Int)) := HA12.out.cell 6 (by rw [nI_length]; exact (by decide : 6 < 8))
     have c7 : wr.cell? ⟨g12, 7, none⟩ = some (.int .u64 (h : Int)) := HA12.out.cell 7 (by rw [nI_length]; exact (by decide : 7 < 8))
     have HN0 : Hid (rndTo s K W (k + 1) = ⟨((h + (rr e 14 ^^^ rr e 18 ^^^ rr e 41) + ((e &&& f) ^^^ ((18446744073709551615 - e) &&& g)) + K[k]?.getD 0 + W[k]?.getD 0) + ((rr a 28 ^^^ rr a 34 ^^^ rr a 39) + ((a &&& b) ^^^ (a &&& c) ^^^ (b &&& c)))) % 18446744073709551616, a, b, c, (d + (h + (rr e 14 ^^^ rr e 18 ^^^ rr e 41) + ((e &&& f) ^^^ ((18446744073709551615 - e) &&& g)) + K[k]?.getD 0 + W[k]?.getD 0)) % 18446744073709551616, e, f, g⟩) := by
      show (rndTo s K W k).rnd _ _ = _
      rw [HQ.out]
      rfl
     generalize K[k]?.getD 0 = kk at *
     generalize W[k]?.getD 0 = ww at *
     have k14 : ∀ w, Calls Tryz.prog 91 #[.int .u64 (e : Int), .int .u64 14, .int .u64 18, .int .u64 41] w fun e' w' => e' = .returned (.int .u64 ((rr e 14 ^^^ rr e 18 ^^^ rr e 41 : Nat) : Int)) ∧ w = w' := fun w => refThree14 e 14 18 41 w be (by decide) (by decide) (by decide) (by decide) (by decide) (by decide)
     have k28 : ∀ w, Calls Tryz.prog 91 #[.int .u64 (a : Int), .int .u64 28, .int .u64 34, .int .u64 39] w fun e' w' => e' = .returned (.int .u64 ((rr a 28 ^^^ rr a 34 ^^^ rr a 39 : Nat) : Int)) ∧ w = w' := fun w => refThree14 a 28 34 39 w ba (by decide) (by decide) (by decide) (by decide) (by decide) (by decide)
     have f2 : rr e 14 ^^^ rr e 18 ^^^ rr e 41 < 18446744073709551616 := xlt (xlt (rr_lt e 14 be (by decide)) (rr_lt e 18 be (by decide))) (rr_lt e 41 be (by decide))
     have f4 : rr a 28 ^^^ rr a 34 ^^^ rr a 39 < 18446744073709551616 := xlt (xlt (rr_lt a 28 ba (by decide)) (rr_lt a 34 ba (by decide))) (rr_lt a 39 ba (by decide))
     generalize rr e 14 ^^^ rr e 18 ^^^ rr e 41 = y2 at *
     generalize rr a 28 ^^^ rr a 34 ^^^ rr a 39 = y4 at *
     have e5 := u64_and_nat e f be bf
     have f5 : e &&& f < 18446744073709551616 := alt bf
     generalize e &&& f = y5 at *
     have e0 : bits .xor .u64 (if IntKind.u64.signed = true then -1 else IntKind.u64.max) ((e : Nat) : Int) = ((18446744073709551615 - e : Nat) : Int) := by
      rw [← not64 e be]
      exact u64_xor_nat 18446744073709551615 e (by decide) be
     have e6 := u64_and_nat (18446744073709551615 - e) g (by omega) bg
     have f6 : (18446744073709551615 - e) &&& g < 18446744073709551616 := alt bg
     generalize (18446744073709551615 - e) &&& g = y6 at *
     generalize 18446744073709551615 - e = ne at *
     have e7 := u64_xor_nat y5 y6 f5 f6
     have f7 := xlt f5 f6
     generalize y5 ^^^ y6 = y7 at *
     have e8 := u64_and_nat a b ba bb
     have f8 : a &&& b < 18446744073709551616 := alt bb
     generalize a &&& b = y8 at *
     have e9 := u64_and_nat a c ba bc
     have f9 : a &&& c < 18446744073709551616 := alt bc
     generalize a &&& c = y9 at *
     have e10 := u64_and_nat b c bb bc
     have f10 : b &&& c < 18446744073709551616 := alt bc
     generalize b &&& c = y10 at *
     have e11 := u64_xor_nat y8 y9 f8 f9
     have f11 := xlt f8 f9
     generalize y8 ^^^ y9 = y11 at *
     have e12 := u64_xor_nat y11 y10 f11 f10
     have f12 := xlt f11 f10
     generalize y11 ^^^ y10 = y12 at *
     obtain ⟨u1, hu1⟩ : ∃ x, (h + y2) % 18446744073709551616 = x := ⟨_, rfl⟩
     obtain ⟨u2, hu2⟩ : ∃ x, (u1 + y7) % 18446744073709551616 = x := ⟨_, rfl⟩
     obtain ⟨u3, hu3⟩ : ∃ x, (u2 + kk) % 18446744073709551616 = x := ⟨_, rfl⟩
     obtain ⟨t1, ht1⟩ : ∃ x, (u3 + ww) % 18446744073709551616 = x := ⟨_, rfl⟩
     obtain ⟨t2, ht2⟩ : ∃ x, (y4 + y12) % 18446744073709551616 = x := ⟨_, rfl⟩
     obtain ⟨na, hna⟩ : ∃ x, (t1 + t2) % 18446744073709551616 = x := ⟨_, rfl⟩
     obtain ⟨nE, hnE⟩ : ∃ x, (d + t1) % 18446744073709551616 = x := ⟨_, rfl⟩
     have HN : Hid (rndTo s K W (k + 1) = ⟨na, a, b, c, nE, e, f, g⟩) := by
      show _ = _
      rw [HN0.out]
      congr 1 <;> omega
     have w1 : IntKind.u64.wrap ((h : Int) + (y2 : Int)) = (u1 : Int) := by rw [IntKind.wrap_u64]; omega
     have w2' : IntKind.u64.wrap ((u1 : Int) + (y7 : Int)) = (u2 : Int) := by rw [IntKind.wrap_u64]; omega
     have w3 : IntKind.u64.wrap ((u2 : Int) + (kk : Int)) = (u3 : Int) := by rw [IntKind.wrap_u64]; omega
     have w4 : IntKind.u64.wrap ((u3 : Int) + (ww : Int)) = (t1 : Int) := by rw [IntKind.wrap_u64]; omega
     have w5 : IntKind.u64.wrap ((y4 : Int) + (y12 : Int)) = (t2 : Int) := by rw [IntKind.wrap_u64]; omega
     have w6 : IntKind.u64.wrap ((t1 : Int) + (t2 : Int)) = (na : Int) := by rw [IntKind.wrap_u64]; omega
     have w7 : IntKind.u64.wrap ((d : Int) + (t1 : Int)) = (nE : Int) := by rw [IntKind.wrap_u64]; omega
     clear HN0 hu1 hu2 hu3 ht1 ht2 hna hnE
     have hlti : (k : Int) < 80 := by omega
     go_wp2_with fail
     go_quiet (first
      | (go_at_call 91; with_reducible exact quietW (k14 _)))
     have A12q : Arr (wr.drewN nq) g12 77 .u64 (nI [a, b, c, d, e, f, g, h]) := HA12.out.drewN nq
     have HB7 : Hid (Arr (wr.drewN nq) (w.heap.size + 1 + 1 + 1) 75 .u64 (nI W)) := HA7.out.drewN nq
     have HB3 : Hid (Arr (wr.drewN nq) w.heap.size 75 .u64 (nI K)) := HA3.out.drewN nq
     have HB4 : Hid (Arr (wr.drewN nq) (w.heap.size + 1) 77 .u64 (nI s.list)) := HA4.out.drewN nq
     have HB6 : Hid (Arr (wr.drewN nq) (w.heap.size + 1 + 1) 77 .u64 (nI (List.replicate 8 0))) := HA6.out.drewN nq
     have HBB : Hid (Below w.heap.size w (wr.drewN nq)) := belowN HB.out nq
     replace c0 : (wr.drewN nq).cell? _ = _ := c0
     replace c1 : (wr.drewN nq).cell? _ = _ := c1
     replace c2 : (wr.drewN nq).cell? _ = _ := c2
     replace c3 : (wr.drewN nq).cell? _ = _ := c3
     replace c4 : (wr.drewN nq).cell? _ = _ := c4
     replace c5 : (wr.drewN nq).cell? _ = _ := c5
     replace c6 : (wr.drewN nq).cell? _ = _ := c6
     replace c7 : (wr.drewN nq).cell? _ = _ := c7
     clear HA12 HA7 HA3 HA4 HA6 HB cK cW
     generalize wr.drewN nq = wq at *
     go_wp2_with fail
     refine (k28 _).mono ?_
     rintro e' w' ⟨rfl, rfl⟩
     clear k14 k28
     go_wp2_with (refine wpList_storeA rfl 77 _ _ rfl g12 (nI [na, a, b, c, nE, e, f, g]) rfl rfl A12q Tryz.size77 (by rw [nI_length]; rfl) (by rw [nI_length]; rfl) ?_)
     have HA12 : Hid (Arr (wq.setRow g12 ((nI [na, a, b, c, nE, e, f, g]).map (Value.int .u64)).toArray) g12 77 .u64 (nI [na, a, b, c, nE, e, f, g])) := A12q.whole _
     go_roundw
     case rel =>
      refine ⟨k + 1, na, a, b, c, nE, e, f, g, by omega, by go_num, HN, ?_, ?_, ?_, ?_, ?_, ?_⟩
      ·exact HA12
      ·exact HB7.out.whole_other _ (by omega)
      ·exact HB3.out.whole_other _ (by omega)
      ·exact HB4.out.whole_other _ (by omega)
      ·exact HB6.out.whole_other _ (by omega)
      ·exact below_setRow HBB.out (by omega) _
     case measure => simp [intOf]; omega
    ·obtain rfl : k = 80 := by omega
     have HM : Hid (mixL K s z = s.plus ⟨a, b, c, d, e, f, g, h⟩) := HFin.out _ HQ.out
     have HP : Hid (∀ k, k ≤ 8 → (plusQ s ⟨a, b, c, d, e, f, g, h⟩ k).length = 8) := fun k hk => by simp [plusQ, S8.list, S8.plus]; omega
     rw [show ((80 : Nat) : Int) = 80 from rfl]
     clear HQ HFin HA3 HA7 HSL HS HK HKl HZ hr ba bb bc bd be bf bg bh
     go_wp2
     go_loopw [18] (fun y wr => ∃ k : Nat, k ≤ 8 ∧ y = .int .i64 (k : Int) ∧ Hid (Arr wr g12 77 .u64 (nI (plusQ s ⟨a, b, c, d, e, f, g, h⟩ k))) ∧ Hid (Arr wr (w.heap.size + 1) 77 .u64 (nI s.list)) ∧ Hid (Arr wr (w.heap.size + 1 + 1) 77 .u64 (nI (List.replicate 8 0))) ∧ Hid (Below w.heap.size w wr)) (fun y _ => 8 - (intOf y).toNat)
     case atStart => exact ⟨0, by omega, rfl, HA12, HA4, HA6, HB⟩
     case round =>
      clear HA12 HA4 HA6 HB
      obtain ⟨k, hk, rfl, HA12, HA4, HA6, HB⟩ := hrel
      rcases (show k = 0 ∨ k = 1 ∨ k = 2 ∨ k = 3 ∨ k = 4 ∨ k = 5 ∨ k = 6 ∨ k = 7 ∨ k = 8 by omega) with rfl | rfl | rfl | rfl | rfl | rfl | rfl | rfl | rfl
      ·have cQ : wr.cell? ⟨g12, 0, none⟩ = some (.int .u64 (a : Int)) := HA12.out.cell 0 (by rw [nI_length, HP.out 0 (by decide)]; decide)
       have cS : wr.cell? ⟨w.heap.size + 1, 0, none⟩ = some (.int .u64 (s.a : Int)) := HA4.out.cell 0 (by rw [nI_length]; exact (by decide : 0 < 8))
       have fS := HA12.out.unfrozen 0
       have HN : Hid (Arr (wr.setCell ⟨g12, 0, none⟩ (.int .u64 (IntKind.u64.wrap ((a : Int) + (s.a : Int))))) g12 77 .u64 (nI (plusQ s ⟨a, b, c, d, e, f, g, h⟩ 1))) := by
        show Arr _ _ _ _ _
        have := HA12.out.set (by rw [nI_length, HP.out 0 (by decide)]; decide) 0 (((s.a + a) % 18446744073709551616 : Nat) : Int)
        rw [show IntKind.u64.wrap ((a : Int) + (s.a : Int)) = (((s.a + a) % 18446744073709551616 : Nat) : Int) from by rw [IntKind.wrap_u64]; omega]
        exact this
       go_wp2_with fail
       go_region
       go_wp2
       go_roundw
       case rel => exact ⟨1, by decide, rfl, HN, HA4.out.other _ _ (by show w.heap.size + 1 ≠ g12; omega), HA6.out.other _ _ (by show w.heap.size + 1 + 1 ≠ g12; omega), (HB.out.drew).setCell (by show w.heap.size ≤ g12; omega) _⟩
       case measure => decide
      ·have cQ : wr.cell? ⟨g12, 1, none⟩ = some (.int .u64 (b : Int)) := HA12.out.cell 1 (by rw [nI_length, HP.out 1 (by decide)]; decide)
       have cS : wr.cell? ⟨w.heap.size + 1, 1, none⟩ = some (.int .u64 (s.b : Int)) := HA4.out.cell 1 (by rw [nI_length]; exact (by decide : 1 < 8))
       have fS := HA12.out.unfrozen 1
       have HN : Hid (Arr (wr.setCell ⟨g12, 1, none⟩ (.int .u64 (IntKind.u64.wrap ((b : Int) + (s.b : Int))))) g12 77 .u64 (nI (plusQ s ⟨a, b, c, d, e, f, g, h⟩ 2))) := by
        show Arr _ _ _ _ _
        have := HA12.out.set (by rw [nI_length, HP.out 1 (by decide)]; decide) 1 (((s.b + b) % 18446744073709551616 : Nat) : Int)
        rw [show IntKind.u64.wrap ((b : Int) + (s.b : Int)) = (((s.b + b) % 18446744073709551616 : Nat) : Int) from by rw [IntKind.wrap_u64]; omega]
        exact this
       go_wp2_with fail
       go_region
       go_wp2
       go_roundw
       case rel => exact ⟨2, by decide, rfl, HN, HA4.out.other _ _ (by show w.heap.size + 1 ≠ g12; omega), HA6.out.other _ _ (by show w.heap.size + 1 + 1 ≠ g12; omega), (HB.out.drew).setCell (by show w.heap.size ≤ g12; omega) _⟩
       case measure => decide
      ·have cQ : wr.cell? ⟨g12, 2, none⟩ = some (.int .u64 (c : Int)) := HA12.out.cell 2 (by rw [nI_length, HP.out 2 (by decide)]; decide)
       have cS : wr.cell? ⟨w.heap.size + 1, 2, none⟩ = some (.int .u64 (s.c : Int)) := HA4.out.cell 2 (by rw [nI_length]; exact (by decide : 2 < 8))
       have fS := HA12.out.unfrozen 2
       have HN : Hid (Arr (wr.setCell ⟨g12, 2, none⟩ (.int .u64 (IntKind.u64.wrap ((c : Int) + (s.c : Int))))) g12 77 .u64 (nI (plusQ s ⟨a, b, c, d, e, f, g, h⟩ 3))) := by
        show Arr _ _ _ _ _
        have := HA12.out.set (by rw [nI_length, HP.out 2 (by decide)]; decide) 2 (((s.c + c) % 18446744073709551616 : Nat) : Int)
        rw [show IntKind.u64.wrap ((c : Int) + (s.c : Int)) = (((s.c + c) % 18446744073709551616 : Nat) : Int) from by rw [IntKind.wrap_u64]; omega]
        exact this
       go_wp2_with fail
       go_region
       go_wp2
       go_roundw
       case rel => exact ⟨3, by decide, rfl, HN, HA4.out.other _ _ (by show w.heap.size + 1 ≠ g12; omega), HA6.out.other _ _ (by show w.heap.size + 1 + 1 ≠ g12; omega), (HB.out.drew).setCell (by show w.heap.size ≤ g12; omega) _⟩
       case measure => decide
      ·have cQ : wr.cell? ⟨g12, 3, none⟩ = some (.int .u64 (d : Int)) := HA12.out.cell 3 (by rw [nI_length, HP.out 3 (by decide)]; decide)
       have cS : wr.cell? ⟨w.heap.size + 1, 3, none⟩ = some (.int .u64 (s.d : Int)) := HA4.out.cell 3 (by rw [nI_length]; exact (by decide : 3 < 8))
       have fS := HA12.out.unfrozen 3
       have HN : Hid (Arr (wr.setCell ⟨g12, 3, none⟩ (.int .u64 (IntKind.u64.wrap ((d : Int) + (s.d : Int))))) g12 77 .u64 (nI (plusQ s ⟨a, b, c, d, e, f, g, h⟩ 4))) := by
        show Arr _ _ _ _ _
        have := HA12.out.set (by rw [nI_length, HP.out 3 (by decide)]; decide) 3 (((s.d + d) % 18446744073709551616 : Nat) : Int)
        rw [show IntKind.u64.wrap ((d : Int) + (s.d : Int)) = (((s.d + d) % 18446744073709551616 : Nat) : Int) from by rw [IntKind.wrap_u64]; omega]
        exact this
       go_wp2_with fail
       go_region
       go_wp2
       go_roundw
       case rel => exact ⟨4, by decide, rfl, HN, HA4.out.other _ _ (by show w.heap.size + 1 ≠ g12; omega), HA6.out.other _ _ (by show w.heap.size + 1 + 1 ≠ g12; omega), (HB.out.drew).setCell (by show w.heap.size ≤ g12; omega) _⟩
       case measure => decide
      ·have cQ : wr.cell? ⟨g12, 4, none⟩ = some (.int .u64 (e : Int)) := HA12.out.cell 4 (by rw [nI_length, HP.out 4 (by decide)]; decide)
       have cS : wr.cell? ⟨w.heap.size + 1, 4, none⟩ = some (.int .u64 (s.e : Int)) := HA4.out.cell 4 (by rw [nI_length]; exact (by decide : 4 < 8))
       have fS := HA12.out.unfrozen 4
       have HN : Hid (Arr (wr.setCell ⟨g12, 4, none⟩ (.int .u64 (IntKind.u64.wrap ((e : Int) + (s.e : Int))))) g12 77 .u64 (nI (plusQ s ⟨a, b, c, d, e, f, g, h⟩ 5))) := by
        show Arr _ _ _ _ _
        have := HA12.out.set (by rw [nI_length, HP.out 4 (by decide)]; decide) 4 (((s.e + e) % 18446744073709551616 : Nat) : Int)
        rw [show IntKind.u64.wrap ((e : Int) + (s.e : Int)) = (((s.e + e) % 18446744073709551616 : Nat) : Int) from by rw [IntKind.wrap_u64]; omega]
        exact this
       go_wp2_with fail
       go_region
       go_wp2
       go_roundw
       case rel => exact ⟨5, by decide, rfl, HN, HA4.out.other _ _ (by show w.heap.size + 1 ≠ g12; omega), HA6.out.other _ _ (by show w.heap.size + 1 + 1 ≠ g12; omega), (HB.out.drew).setCell (by show w.heap.size ≤ g12; omega) _⟩
       case measure => decide
      ·have cQ : wr.cell? ⟨g12, 5, none⟩ = some (.int .u64 (f : Int)) := HA12.out.cell 5 (by rw [nI_length, HP.out 5 (by decide)]; decide)
       have cS : wr.cell? ⟨w.heap.size + 1, 5, none⟩ = some (.int .u64 (s.f : Int)) := HA4.out.cell 5 (by rw [nI_length]; exact (by decide : 5 < 8))
       have fS := HA12.out.unfrozen 5
       have HN : Hid (Arr (wr.setCell ⟨g12, 5, none⟩ (.int .u64 (IntKind.u64.wrap ((f : Int) + (s.f : Int))))) g12 77 .u64 (nI (plusQ s ⟨a, b, c, d, e, f, g, h⟩ 6))) := by
        show Arr _ _ _ _ _
        have := HA12.out.set (by rw [nI_length, HP.out 5 (by decide)]; decide) 5 (((s.f + f) % 18446744073709551616 : Nat) : Int)
        rw [show IntKind.u64.wrap ((f : Int) + (s.f : Int)) = (((s.f + f) % 18446744073709551616 : Nat) : Int) from by rw [IntKind.wrap_u64]; omega]
        exact this
       go_wp2_with fail
       go_region
       go_wp2
       go_roundw
       case rel => exact ⟨6, by decide, rfl, HN, HA4.out.other _ _ (by show w.heap.size + 1 ≠ g12; omega), HA6.out.other _ _ (by show w.heap.size + 1 + 1 ≠ g12; omega), (HB.out.drew).setCell (by show w.heap.size ≤ g12; omega) _⟩
       case measure => decide
      ·have cQ : wr.cell? ⟨g12, 6, none⟩ = some (.int .u64 (g : Int)) := HA12.out.cell 6 (by rw [nI_length, HP.out 6 (by decide)]; decide)
       have cS : wr.cell? ⟨w.heap.size + 1, 6, none⟩ = some (.int .u64 (s.g : Int)) := HA4.out.cell 6 (by rw [nI_length]; exact (by decide : 6 < 8))
       have fS := HA12.out.unfrozen 6
       have HN : Hid (Arr (wr.setCell ⟨g12, 6, none⟩ (.int .u64 (IntKind.u64.wrap ((g : Int) + (s.g : Int))))) g12 77 .u64 (nI (plusQ s ⟨a, b, c, d, e, f, g, h⟩ 7))) := by
        show Arr _ _ _ _ _
        have := HA12.out.set (by rw [nI_length, HP.out 6 (by decide)]; decide) 6 (((s.g + g) % 18446744073709551616 : Nat) : Int)
        rw [show IntKind.u64.wrap ((g : Int) + (s.g : Int)) = (((s.g + g) % 18446744073709551616 : Nat) : Int) from by rw [IntKind.wrap_u64]; omega]
        exact this
       go_wp2_with fail
       go_region
       go_wp2
       go_roundw
       case rel => exact ⟨7, by decide, rfl, HN, HA4.out.other _ _ (by show w.heap.size + 1 ≠ g12; omega), HA6.out.other _ _ (by show w.heap.size + 1 + 1 ≠ g12; omega), (HB.out.drew).setCell (by show w.heap.size ≤ g12; omega) _⟩
       case measure => decide
      ·have cQ : wr.cell? ⟨g12, 7, none⟩ = some (.int .u64 (h : Int)) := HA12.out.cell 7 (by rw [nI_length, HP.out 7 (by decide)]; decide)
       have cS : wr.cell? ⟨w.heap.size + 1, 7, none⟩ = some (.int .u64 (s.h : Int)) := HA4.out.cell 7 (by rw [nI_length]; exact (by decide : 7 < 8))
       have fS := HA12.out.unfrozen 7
       have HN : Hid (Arr (wr.setCell ⟨g12, 7, none⟩ (.int .u64 (IntKind.u64.wrap ((h : Int) + (s.h : Int))))) g12 77 .u64 (nI (plusQ s ⟨a, b, c, d, e, f, g, h⟩ 8))) := by
        show Arr _ _ _ _ _
        have := HA12.out.set (by rw [nI_length, HP.out 7 (by decide)]; decide) 7 (((s.h + h) % 18446744073709551616 : Nat) : Int)
        rw [show IntKind.u64.wrap ((h : Int) + (s.h : Int)) = (((s.h + h) % 18446744073709551616 : Nat) : Int) from by rw [IntKind.wrap_u64]; omega]
        exact this
       go_wp2_with fail
       go_region
       go_wp2
       go_roundw
       case rel => exact ⟨8, by decide, rfl, HN, HA4.out.other _ _ (by show w.heap.size + 1 ≠ g12; omega), HA6.out.other _ _ (by show w.heap.size + 1 + 1 ≠ g12; omega), (HB.out.drew).setCell (by show w.heap.size ≤ g12; omega) _⟩
       case measure => decide
      ·have A12 : Arr wr g12 77 .u64 (nI (s.plus ⟨a, b, c, d, e, f, g, h⟩).list) := HA12.out
       rw [← HM.out] at A12
       have HL : Hid ((nI (mixL K s z).list).length = 8) := by show _ = _; rw [nI_length]; rfl
       go_wp2_with (first
        | (refine wpList_loadA rfl 77 _ rfl g12 rfl A12 Tryz.underlying77 Tryz.size77 HL.out ?_)
        | (refine wpList_storeA rfl 77 _ _ rfl (w.heap.size + 1 + 1) (nI (mixL K s z).list) rfl rfl HA6.out Tryz.size77 (by decide +kernel) HL.out ?_))
       exact bodyPost_ret (resA rfl _ _ (w.heap.size + 1 + 1) rfl (HA6.out.whole _) Tryz.underlying77 Tryz.size77 HL.out) rfl ⟨rfl, below_setRow HB.out (by omega) _⟩
end Go.Proofs.YthangiocheodoaaGreatDoor.B
