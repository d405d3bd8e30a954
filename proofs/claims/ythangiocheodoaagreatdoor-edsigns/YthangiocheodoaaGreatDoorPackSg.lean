/-
 Layer 13's reference: Pad.
-/
import Derived.Test.YthangiocheodoaaGreatDoorPackSb
import Derived.Test.YthangiocheodoaaGreatDoorPackSc
import Derived.Test.YthangiocheodoaaGreatDoorPackSa
import Derived.Test.YthangiocheodoaaGreatDoorPackSd
import Derived.Test.YthangiocheodoaaGreatDoorPackSe
namespace Go.Proofs.YthangiocheodoaaGreatDoor
open Go.RowKit
set_option linter.unusedVariables false
set_option maxRecDepth 8192

theorem pow256 (k : Nat) : 256 ^ k = 2 ^ (8 * k) := by rw [show 256 = 2 ^ 8 from rfl, ← Nat.pow_mul]
theorem pad_go {n k : Nat} (h : k < noughts n) : (n + 1 + k + 8) % 64 ≠ 0 := by unfold noughts at h; omega
theorem pad_end (n : Nat) : (n + 1 + noughts n + 8) % 64 = 0 := by unfold noughts; omega
/-- The padding as it grows. -/
def padTo (n k : Nat) : List Nat := 128 :: List.replicate k 0
theorem padTo_snoc (n k : Nat) : padTo n k ++ [0] = padTo n (k + 1) := by simp [padTo, List.replicate_succ']
theorem rel_push_u8 {B : Nat} {e : TypeId} {w wr w1 : World} {v v' : Value} {o : Obj} {n : Nat} {xs : List Nat} {x : Nat} (hB : B ≤ wr.heap.size)
  (hown : wr.ownsRow B e 1 v n ((nI xs).map (Value.int .u8))) (hnx : Below B w wr)
  (hown' : w1.ownsRow B e 1 v' (n + 1) ((nI xs).map (Value.int .u8) ++ [.int .u8 (x : Int)])) (hgrow : (wr.alloc o).grownBy w1 v.ownBlock) :
  w1.ownsRow B e 1 v' (n + 1) ((nI (xs ++ [x])).map (Value.int .u8)) ∧ Below B w w1 := by
 have R := rel_push hB hown hnx hown' hgrow
 rw [← nI_snoc] at R
 exact R
end Go.Proofs.YthangiocheodoaaGreatDoor

/-
 The document's answer for layer 14 (casemateref14): root.
-/
namespace Go.Proofs.YthangiocheodoaaGreatDoor.B
open Go.RowKit
set_option linter.unusedVariables false
set_option maxRecDepth 8192

/-- Five digits of which the lowest n bits are nought. -/
structure DI (l : List Nat) (n : Nat) : Prop where
 len : l.length = 5
 dig : Dig l
 low : ∀ i, 2 ^ (min 16 (n - 16 * i)) ∣ dg l i
theorem DI.zero : DI (List.replicate 5 0) 69 := ⟨rfl, Dig.zero, fun i => by
 have : dg (List.replicate 5 0) i = 0 := by unfold dg; rw [List.getElem?_replicate]; split <;> rfl
 rw [this]; exact Nat.dvd_zero _⟩
theorem DI.weak {l : List Nat} {n m : Nat} (h : DI l n) (hm : m ≤ n) : DI l m := ⟨h.len, h.dig, fun i => Nat.dvd_trans (Nat.pow_dvd_pow 2 (by omega)) (h.low i)⟩
theorem pow_bit (b : Nat) : 2 ^ b = 2 ^ (b % 16) * 65536 ^ (b / 16) := by
 rw [show (65536 : Nat) = 2 ^ 16 from rfl, ← Nat.pow_mul, ← Nat.pow_add]
 congr 1
 omega
theorem DI.room {l : List Nat} {b : Nat} (h : DI l (b + 1)) : dg l (b / 16) + 2 ^ (b % 16) < 65536 := by
 have h1 := h.low (b / 16)
 have e : min 16 (b + 1 - 16 * (b / 16)) = b % 16 + 1 := by omega
 rw [e] at h1
 have h2 := h.dig.at (b / 16)
 obtain ⟨q, hq⟩ := h1
 have hp : 2 ^ (b % 16 + 1) = 2 * 2 ^ (b % 16) := by rw [Nat.pow_succ]; omega
 have hr : b % 16 ≤ 15 := by omega
 have h3 : 2 ^ (b % 16) * 2 ^ (15 - b % 16) = 32768 := by rw [← Nat.pow_add, show b % 16 + (15 - b % 16) = 15 from by omega]
 have hpos : 0 < 2 ^ (b % 16) := Nat.two_pow_pos _
 rw [hq, hp] at h2 ⊢
 generalize 2 ^ (b % 16) = W at *
 generalize 2 ^ (15 - b % 16) = V at *
 have h4 : 2 * W * V = 65536 := by rw [Nat.mul_assoc, h3]
 have h5 : q < V := by
  rcases Nat.lt_or_ge q V with h' | h'
  ·exact h'
  ·have := Nat.mul_le_mul_left (2 * W) h'; omega
 have h6 := Nat.mul_le_mul_left (2 * W) (show q + 1 ≤ V from h5)
 rw [Nat.mul_add] at h6
 omega
theorem DI.add {l : List Nat} {b : Nat} (h : DI l (b + 1)) (hb : b ≤ 68) : DI (l.set (b / 16) (dg l (b / 16) + 2 ^ (b % 16))) b ∧ vL (l.set (b / 16) (dg l (b / 16) + 2 ^ (b % 16))) = vL l + 2 ^ b := by
 have hj : b / 16 < l.length := by rw [h.len]; omega
 refine ⟨⟨by rw [List.length_set]; exact h.len, h.dig.set _ h.room, fun i => ?_⟩, ?_⟩
 ·rw [dg_set hj i]
  by_cases e : i = b / 16
  ·rw [if_pos e]
   subst e
   have e2 : min 16 (b - 16 * (b / 16)) = b % 16 := by omega
   rw [e2]
   have h1 := h.low (b / 16)
   rw [show min 16 (b + 1 - 16 * (b / 16)) = b % 16 + 1 from by omega] at h1
   exact Nat.dvd_add (Nat.dvd_trans (Nat.pow_dvd_pow 2 (by omega)) h1) (Nat.dvd_refl _)
  ·rw [if_neg e]
   exact Nat.dvd_trans (Nat.pow_dvd_pow 2 (by omega)) (h.low i)
 ·have hs := vL_set (l := l) (j := b / 16) (x := dg l (b / 16) + 2 ^ (b % 16)) hj
  rw [Nat.add_mul, ← pow_bit b] at hs
  omega
theorem set_back {l : List Nat} {j x : Nat} (hj : j < l.length) : (l.set j x).set j (dg l j) = l := by
 apply List.ext_getElem (by simp)
 intro i h1 h2
 rw [List.getElem_set]
 by_cases e : j = i
 ·subst e
  rw [if_pos rfl]
  unfold dg
  rw [List.getElem?_eq_getElem hj]
  rfl
 ·rw [if_neg e, List.getElem_set, if_neg e]
theorem DI.four {l : List Nat} {n : Nat} (h : DI l n) : ((dg l 3 * 65536 + dg l 2) * 65536 + dg l 1) * 65536 + dg l 0 = vL l % 18446744073709551616 := by
 have e : vL l = vTo (dg l) 5 := by unfold vL; rw [h.len]
 have h0 := h.dig.at 0
 have h1 := h.dig.at 1
 have h2 := h.dig.at 2
 have h3 := h.dig.at 3
 have h4 := h.dig.at 4
 rw [e]
 simp only [vTo]
 omega
set_option maxHeartbeats 6400000 in
theorem root14_any (p pw : Nat) (w : World) (hpw : pw ≤ 3) (hp : p < 65536) : Calls Tryz.prog 89 #[.int .i64 (p : Int), .int .i64 (pw : Int)] w fun e w' =>
  e = .returned (.int .u64 ((frTo pw (p * 65536 ^ (4 * pw)) 69 % 18446744073709551616 : Nat) : Int)) ∧ Below w.heap.size w w' := by
 obtain ⟨i0, hi0, hz0, hz1, hz2⟩ := info_parts Tryz.info3
 obtain ⟨lim, hlim⟩ : ∃ x, p * 65536 ^ (4 * pw) = x := ⟨_, rfl⟩
 have HLim : Hid (p * 65536 ^ (4 * pw) = lim) := hlim
 rw [hlim]
 clear hlim
 have hmk : ∀ (u : World) (n : Nat) (w1 : World), w1.ownsRow u.heap.size 3 1 (.slice (some ⟨u.heap.size, 0, none⟩) n n) n (madeCells (Value.int IntKind.i64 0).cells (n * 1)).toList → u.grownBy w1 none →
   w1.ownsRow u.heap.size 3 1 (.slice (some ⟨u.heap.size, 0, none⟩) n n) n ((nI (List.replicate n 0)).map (Value.int .i64)) ∧ Below u.heap.size u w1 := fun u n w1 h1 h2 => by
  refine ⟨?_, (Below.refl _ _).grown h2 (Nat.le_refl _) (by simp)⟩
  rw [made_ints] at h1
  rw [show nI (List.replicate n 0) = List.replicate n 0 from by simp [nI]]
  exact h1
 go_enter Tryz.func89, Tryz.ntmps89
 go_wp2_with (at_make; refine wpList_make_full _ rfl _ _ 111 rfl w.heap.size 3 i0 (.int .i64 0) 1 Tryz.underlying111 hi0 hz0 hz1 _ _ _ _ 5 rfl rfl (by omega) (by omega) (by rw [hz2]; omega) (by decide) (Nat.le_refl _) ?_; intro w1 hown1 hgrow1)
 obtain ⟨o1, q1⟩ := hmk w 5 w1 hown1 hgrow1
 have A1 : Arr w1 w.heap.size 3 .i64 (nI (List.replicate 5 0)) := heap_of_owns o1
 clear hown1 hgrow1 o1
 go_loopw [6] (fun y wr => ∃ (k : Nat) (l : List Nat), k ≤ 69 ∧ y = .int .i64 (68 - (k : Int)) ∧ Hid (DI l (69 - k)) ∧ Hid (vL l = frTo pw lim k) ∧ Hid (Arr wr w.heap.size 3 .i64 (nI l)) ∧ Hid (Below w.heap.size w wr)) (fun y _ => (intOf y + 1).toNat)
 case atStart => exact ⟨0, List.replicate 5 0, by omega, rfl, DI.zero, by show _ = _; rw [vL_zero]; rfl, A1, q1⟩
 case round =>
  clear A1 q1
  obtain ⟨k, l, hk, rfl, HD, HV, HA, HB⟩ := hrel
  by_cases hlt : k < 69
  ·obtain ⟨b, hb⟩ : ∃ b, 68 - k = b := ⟨_, rfl⟩
   have HBk : Hid (68 - k = b) := hb
   rw [show 69 - k = b + 1 from by omega] at HD
   have eb : (68 : Int) - (k : Int) = (b : Int) := by omega
   rw [eb]
   have hb68 : b ≤ 68 := by omega
   have hroom := HD.out.room
   have hadd := HD.out.add hb68
   have HF : Hid (frTo pw lim (k + 1) = bif Nat.blt lim ((frTo pw lim k + 2 ^ (68 - k)) ^ pw) then frTo pw lim k else frTo pw lim k + 2 ^ (68 - k)) := rfl
   rw [hb, ← HV.out, ← hadd.2] at HF
   have HDW : Hid (DI l b) := HD.out.weak (by omega)
   have hcell := HA.out.cell (b / 16) (by rw [nI_length, HD.out.len]; omega)
   have hfz := HA.out.unfrozen (b / 16)
   rw [nI_dg] at hcell
   have HA2 : Hid (Arr (wr.setCell ⟨w.heap.size, b / 16, none⟩ (.int .i64 ((dg l (b / 16) + 2 ^ (b % 16) : Nat) : Int))) w.heap.size 3 .i64 (nI (l.set (b / 16) (dg l (b / 16) + 2 ^ (b % 16))))) := by
    show Arr _ _ _ _ _
    have := HA.out.set (by rw [nI_length, HD.out.len]; decide) (b / 16) ((dg l (b / 16) + 2 ^ (b % 16) : Nat) : Int)
    rw [nI_set] at this
    exact this
   have HBack : Hid ((l.set (b / 16) (dg l (b / 16) + 2 ^ (b % 16))).set (b / 16) (dg l (b / 16)) = l) := set_back (by rw [HD.out.len]; omega)
   have HCell : Hid ((nI (l.set (b / 16) (dg l (b / 16) + 2 ^ (b % 16))))[b / 16]?.getD 0 = ((dg l (b / 16) + 2 ^ (b % 16) : Nat) : Int)) := by
    show _ = _
    rw [nI_dg, dg_set (by rw [HD.out.len]; omega), if_pos rfl]
   have HD2 : Hid (DI (l.set (b / 16) (dg l (b / 16) + 2 ^ (b % 16))) b) := hadd.1
   have hjt : (b : Int).tdiv 16 = ((b / 16 : Nat) : Int) := by rw [Int.tdiv_eq_ediv_of_nonneg (by omega)]; omega
   have hrt : (b : Int).tmod 16 = ((b % 16 : Nat) : Int) := by rw [Int.tmod_eq_emod_of_nonneg (by omega)]; omega
   have hje : (b : Int) / 16 = ((b / 16 : Nat) : Int) := by omega
   have hre : (b : Int) % 16 = ((b % 16 : Nat) : Int) := by omega
   have hj5 : b / 16 < 5 := by omega
   have hr16 : b % 16 ≤ 15 := by omega
   have HR2 : Hid (∀ t, t ≤ b % 16 → 2 ^ t ≤ 2 ^ (b % 16)) := fun t ht => Nat.pow_le_pow_right (by decide) ht
   clear hadd HD
   generalize b / 16 = j at *
   generalize b % 16 = r at *
   generalize dg l j = d at *
   have HW2 : Hid (2 ^ r < 65536) := by show _ < _; omega
   go_wp2
   go_loop [7, 8] (fun v y => ∃ t : Nat, t ≤ r ∧ y = .int .i64 (t : Int) ∧ v = .int .i64 ((2 ^ t : Nat) : Int)) (fun _ y => r - (intOf y).toNat)
   case atStart => exact ⟨0, Nat.zero_le _, rfl, rfl⟩
   case round =>
    obtain ⟨t, ht, rfl, rfl⟩ := hrel
    have hpt := HR2.out t ht
    have hw2 := HW2.out
    by_cases htr : t < r
    ·have HS : Hid (2 ^ (t + 1) = 2 * 2 ^ t) := by show _ = _; rw [Nat.pow_succ]; omega
     generalize 2 ^ t = vt at *
     generalize 2 ^ r = vr at *
     have hti : (t : Int) < (r : Int) := by omega
     go_wp2
     go_round
     case rel => exact ⟨t + 1, by omega, by go_num, by rw [HS.out]; go_num⟩
     case measure => simp [intOf]; omega
    ·obtain rfl : t = r := by omega
     have hti : ¬ (t : Int) < (t : Int) := by omega
     have hj5i : (j : Int) < 5 := by omega
     generalize hvt : 2 ^ t = W at *
     clear hvt hw2 hpt HR2
     generalize l.set j (d + W) = l2 at *
     obtain ⟨dW, hdW⟩ : ∃ x, d + W = x := ⟨_, rfl⟩
     rw [hdW] at HA2 hroom HCell
     have esum : (d : Int) + (W : Int) = (dW : Int) := by omega
     have esub : (dW : Int) - (W : Int) = (d : Int) := by omega
     have hdl : d < 65536 := by omega
     have hWl : W < 65536 := by omega
     clear hdW
     have qs : Below w.heap.size w (wr.setCell ⟨w.heap.size, j, none⟩ (.int .i64 (dW : Int))) := HB.out.setCell (Nat.le_refl _) _
     have ss := qs.size
     have lt2 := HA2.out.lt
     have R1 : Row .i64 ((wr.setCell ⟨w.heap.size, j, none⟩ (.int .i64 (dW : Int))).alloc (.cells #[Value.int .i64 1] 3)) (some ⟨(wr.setCell ⟨w.heap.size, j, none⟩ (.int .i64 (dW : Int))).heap.size, 0, none⟩) 1 1 (nI [1]) := row_new .i64 _ 3 _ rfl (nI [1]) 1 rfl (by decide) _ rfl
     have A2 := HA2.out.alloc (.cells #[Value.int .i64 1] 3)
     have q2 := qs.alloc ss (.cells #[Value.int .i64 1] 3)
     have HSz : Hid ((wr.setCell ⟨w.heap.size, j, none⟩ (.int .i64 (dW : Int))).heap.size = wr.heap.size) := by show _ = _; simp
     go_wp2
     rw [HSz.out] at R1
     have hsw : (wr.setCell ⟨w.heap.size, j, none⟩ (.int .i64 (dW : Int))).heap.size ≤ ((wr.setCell ⟨w.heap.size, j, none⟩ (.int .i64 (dW : Int))).alloc (.cells #[Value.int .i64 1] 3)).heap.size := by simp
     change Code.wp _ _ _ _ ((wr.setCell ⟨w.heap.size, j, none⟩ (.int .i64 (dW : Int))).alloc (.cells #[Value.int .i64 1] 3))
     clear HSz
     generalize (wr.setCell ⟨w.heap.size, j, none⟩ (.int .i64 (dW : Int))).alloc (.cells #[Value.int .i64 1] 3) = w2 at *
     have HA3 : Hid (Arr w2 w.heap.size 3 .i64 (nI l2)) := A2
     have HQ2 : Hid (Below w.heap.size w w2) := q2
     have hls : w.heap.size < w2.heap.size := A2.lt
     have HLl2 : Hid (l2.length = 5) := HD2.out.len
     have HDig2 : Hid (Dig l2) := HD2.out.dig
     clear A2 q2 qs ss HA2 lt2 hsw hcell hfz
     go_loopw [9, 10] (fun v y wr => ∃ (i : Nat) (out : List Nat) (a : Option Addr) (c : Nat), i ≤ pw ∧ y = .int .i64 (i : Int) ∧ v = .slice a out.length c ∧ Hid (out.length ≤ 1 + 6 * i) ∧ Hid (Dig out) ∧ Hid (vL out = vL l2 ^ i) ∧ Hid (Row .i64 wr a out.length c (nI out)) ∧ Hid (Below w2.heap.size w2 wr)) (fun _ y _ => pw - (intOf y).toNat)
     case atStart => exact ⟨0, [1], _, 1, Nat.zero_le _, rfl, rfl, Nat.le_refl _, by intro z hz; simp at hz; subst hz; decide, by show _ = _; simp [vL, vTo, dg], R1, Below.refl _ _⟩
     case round =>
      obtain ⟨i, out, a, c, hi, rfl, rfl, HL, HDo, HVo, HR, HB3⟩ := hrel
      have hl := HL.out
      by_cases hip : i < pw
      ·have rl : Row .i64 wr (some ⟨w.heap.size, 0, none⟩) 5 5 (nI l2) := (HA3.out.below HB3.out hls).row (by rw [nI_length, HLl2.out]; decide) 5 (by rw [nI_length]; exact HLl2.out)
       go_wp2_with fail
       refine (times13_any out l2 _ _ _ _ _ _ _ HR.out rl HDo.out HDig2.out (by omega) (by omega)).mono ?_
       rintro e w3 ⟨v3, rfl, out3, hl3, hd3, hv3, hown3, q3⟩
       obtain ⟨a3, c3, rfl, row3⟩ := row_of_owns hown3
       have HV3 : Hid (vL out3 = vL l2 ^ (i + 1)) := by show _ = _; rw [hv3, HVo.out, Nat.pow_succ]
       have HB4 : Hid (Below w2.heap.size w2 w3) := HB3.out.trans (q3.mono HB3.out.size)
       clear hv3 hown3 rl
       have HL3 : Hid (out3.length ≤ 1 + 6 * (i + 1)) := by show _ ≤ _; omega
       rw [← hl3] at row3
       generalize out.length + 5 + 1 = L3 at *
       subst hl3
       go_wp2
       go_roundw
       case rel => exact ⟨i + 1, out3, a3, c3, by omega, by go_num, rfl, HL3, hd3, HV3, row3, HB4⟩
       case measure => simp [intOf]; omega
      ·obtain rfl : i = pw := by omega
       obtain ⟨wo, hwo⟩ : ∃ x, x = wr := ⟨_, rfl⟩
       subst hwo
       obtain ⟨i4, hi4⟩ : ∃ x, 4 * i = x := ⟨_, rfl⟩
       have HI4 : Hid (4 * i = i4) := hi4
       have e4 : (4 : Int) * (i : Int) = (i4 : Int) := by omega
       have hi4l : i4 ≤ 12 := by omega
       clear hi4
       have sB3 := HB3.out.size
       have HWv : Hid (vL (List.replicate i4 0 ++ [p]) = lim) := by
        show _ = _
        rw [vL_snoc, vL_zero, List.length_replicate, ← HLim.out, HI4.out]
        omega
       have HDWn : Hid (Dig (List.replicate i4 0 ++ [p])) := by
        intro z hz
        simp only [List.mem_append, List.mem_replicate, List.mem_singleton] at hz
        rcases hz with ⟨_, rfl⟩ | rfl
        ·decide
        ·exact hp
       go_wp2_with (first
        | (at_make; refine wpList_make_full _ rfl _ _ 111 rfl wo.heap.size 3 i0 (.int .i64 0) 1 Tryz.underlying111 hi0 hz0 hz1 _ _ _ _ i4 rfl rfl (by omega) (by omega) (by rw [hz2]; omega) (by unfold maxLen; omega) (Nat.le_refl _) ?_; intro w5 hown5 hgrow5; obtain ⟨o5, q5⟩ := hmk wo i4 w5 hown5 hgrow5; clear hown5 hgrow5; have s5 := q5.size)
        | (at_builtin; refine wpList_append_own _ rfl _ _ 111 rfl wo.heap.size 3 i0 (.int .i64 0) 1 8 Tryz.underlying111 hi0 hz0 hz1 hz2 rfl (by decide) _ _ _ rfl (o5.alloc _) ⟨_, 0, none⟩ 1 1 [.int .i64 (p : Int)] rfl rfl (cell_one_new _ _ _) (by intro u hu; simp at hu; subst hu; rfl) (by unfold maxLen; omega) (by omega) (by simp; omega) ?_))
       intro v6 w6 hown6 hgrow6 _
       have R6 := rel_push s5 o5 q5 hown6 hgrow6
       rw [← nI_snoc] at R6
       clear hown6 hgrow6 o5 q5 s5
       obtain ⟨a6, c6, rfl, row6⟩ := row_of_owns R6.1
       have rowO := HR.out.below R6.2 (Nat.le_refl _)
       have q6 : Below w2.heap.size w2 w6 := HB3.out.trans (R6.2.mono sB3)
       clear R6
       have A6 := HA3.out.below q6 hls
       have Q6 : Below w.heap.size w w6 := HQ2.out.trans (q6.mono (by omega))
       generalize List.replicate i4 0 ++ [p] = want at *
       go_wp2_with fail
       refine (greater13_any out want _ _ _ _ _ _ _ rowO row6 HDo.out HDWn.out (by omega) (by omega)).mono ?_
       rintro e w7 ⟨rfl, rfl⟩
       rw [HWv.out, HVo.out]
       have hblt : Nat.blt lim (vL l2 ^ i) = decide (lim < vL l2 ^ i) := by rw [Bool.eq_iff_iff, Nat.blt_eq, decide_eq_true_iff]
       rw [hblt] at HF
       clear hblt HDo HVo HR HB3 rowO row6 HL hl HWv HDWn
       have c6' := A6.cell j (by rw [nI_length, HLl2.out]; exact hj5)
       have f6 := A6.unfrozen j
       have HC6 : Hid ((nI l2)[j]?.getD 0 = (dW : Int)) := HCell.out
       rw [HC6.out] at c6'
       generalize decide (lim < vL l2 ^ i) = tf at *
       cases tf
       ·have HV7 : Hid (vL l2 = frTo i lim (k + 1)) := HF.out.symm
        have HA7 : Hid (Arr w6 w.heap.size 3 .i64 (nI l2)) := A6
        have HB7 : Hid (Below w.heap.size w w6) := Q6
        have HD7 : Hid (DI l2 (69 - (k + 1))) := by have h := HD2.out; rwa [show b = 69 - (k + 1) from by omega] at h
        clear HF A6 Q6 c6' f6 HV HDW HBack
        go_wp2
        go_roundw
        case rel => exact ⟨k + 1, l2, by omega, by go_num, HD7, HV7, HA7, HB7⟩
        case measure => simp [intOf] <;> omega
       ·have HV7 : Hid (vL l = frTo i lim (k + 1)) := HF.out.symm
        have HA7 : Hid (Arr (w6.setCell ⟨w.heap.size, j, none⟩ (.int .i64 (d : Int))) w.heap.size 3 .i64 (nI l)) := by
         show Arr _ _ _ _ _
         have h := A6.set (by rw [nI_length, HLl2.out]; decide) j (d : Int)
         rw [nI_set, HBack.out] at h
         exact h
        have HB7 : Hid (Below w.heap.size w (w6.setCell ⟨w.heap.size, j, none⟩ (.int .i64 (d : Int)))) := Q6.setCell (Nat.le_refl _) _
        have HD7 : Hid (DI l (69 - (k + 1))) := by have h := HDW.out; rwa [show b = 69 - (k + 1) from by omega] at h
        clear HF A6 Q6 HV HDW HBack
        go_wp2
        go_roundw
        case rel => exact ⟨k + 1, l, by omega, by go_num, HD7, HV7, HA7, HB7⟩
        case measure => simp [intOf] <;> omega
  ·obtain rfl : k = 69 := by omega
   have HX : Hid (((dg l 3 * 65536 + dg l 2) * 65536 + dg l 1) * 65536 + dg l 0 = frTo pw lim 69 % 18446744073709551616) := by show _ = _; rw [HD.out.four, HV.out]
   have hcl : ∀ i, i < 5 → wr.cell? ⟨w.heap.size, i, none⟩ = some (.int .i64 ((dg l i : Nat) : Int)) := fun i hi => by
    have h := HA.out.cell i (by rw [nI_length, HD.out.len]; exact hi)
    rwa [nI_dg] at h
   have c0 := hcl 0 (by decide)
   have c1 := hcl 1 (by decide)
   have c2 := hcl 2 (by decide)
   have c3 := hcl 3 (by decide)
   have d0 := HD.out.dig.at 0
   have d1 := HD.out.dig.at 1
   have d2 := HD.out.dig.at 2
   have d3 := HD.out.dig.at 3
   clear hcl HA
   generalize dg l 0 = x0 at *
   generalize dg l 1 = x1 at *
   generalize dg l 2 = x2 at *
   generalize dg l 3 = x3 at *
   obtain ⟨y2, hy2⟩ : ∃ y, x3 * 65536 + x2 = y := ⟨_, rfl⟩
   obtain ⟨y1, hy1⟩ : ∃ y, y2 * 65536 + x1 = y := ⟨_, rfl⟩
   obtain ⟨y0, hy0⟩ : ∃ y, y1 * 65536 + x0 = y := ⟨_, rfl⟩
   rw [hy2, hy1, hy0] at HX
   have b2 : y2 < 4294967296 := by omega
   have b1 : y1 < 281474976710656 := by omega
   have b0 : y0 < 18446744073709551616 := by omega
   have HY2 : Hid (x3 * 65536 + x2 = y2) := hy2
   have HY1 : Hid (y2 * 65536 + x1 = y1) := hy1
   have HY0 : Hid (y1 * 65536 + x0 = y0) := hy0
   clear hy2 hy1 hy0
   have e68 : (68 : Int) - ((69 : Nat) : Int) = -1 := rfl
   rw [e68]
   clear e68
   go_wp2
   go_loop [12, 13] (fun v y => (y = .int .i64 3 ∧ v = .int .u64 0) ∨ (y = .int .i64 2 ∧ v = .int .u64 (x3 : Int)) ∨ (y = .int .i64 1 ∧ v = .int .u64 (y2 : Int)) ∨ (y = .int .i64 0 ∧ v = .int .u64 (y1 : Int)) ∨ (y = .int .i64 (-1) ∧ v = .int .u64 (y0 : Int))) (fun _ y => (intOf y + 1).toNat)
   case atStart => exact .inl ⟨rfl, rfl⟩
   case round =>
    rcases hrel with ⟨rfl, rfl⟩ | ⟨rfl, rfl⟩ | ⟨rfl, rfl⟩ | ⟨rfl, rfl⟩ | ⟨rfl, rfl⟩
    ·go_wp2
     go_round
     case rel => exact .inr (.inl ⟨rfl, by go_num⟩)
     case measure => decide
    ·go_wp2
     go_round
     case rel => exact .inr (.inr (.inl ⟨rfl, by have := HY2.out; go_num⟩))
     case measure => decide
    ·go_wp2
     go_round
     case rel => exact .inr (.inr (.inr (.inl ⟨rfl, by have := HY1.out; go_num⟩)))
     case measure => decide
    ·go_wp2
     go_round
     case rel => exact .inr (.inr (.inr (.inr ⟨rfl, by have := HY0.out; go_num⟩)))
     case measure => decide
    ·go_wp2
     go_ret
     exact ⟨ret_int (by have := HX.out; omega), HB.out⟩
end Go.Proofs.YthangiocheodoaaGreatDoor.B

/-
 The document's answer for layer 14 (casemateref14): Start, Rounds. (Written by tools/gen/shb_ref2.py.)
-/
namespace Go.Proofs.YthangiocheodoaaGreatDoor.B
open Go.RowKit
set_option linter.unusedVariables false
set_option maxRecDepth 8192

set_option maxHeartbeats 1600000 in
theorem refStart14 (w : World) : Calls Tryz.prog 51 #[] w fun e w' => e = .returned (.agg ((nI SL).map (Value.int .u64)).toArray) ∧ Below w.heap.size w w' := by
 have HSL : Hid (SL.length = 8) := by show _ = _; decide +kernel
 go_enter Tryz.func51, Tryz.ntmps51
 go_wp2_with fail
 have A0 := (Arr.new w 77 .u64 (nI (List.replicate 8 0)) _ rfl).alloc (.cells ((nI (List.replicate 8 0)).map (Value.int .u64)).toArray 77)
 have A1 := Arr.new (w.alloc (.cells ((nI (List.replicate 8 0)).map (Value.int .u64)).toArray 77)) 77 .u64 (nI (List.replicate 8 0)) _ rfl
 have hs : (w.alloc (.cells ((nI (List.replicate 8 0)).map (Value.int .u64)).toArray 77)).heap.size = w.heap.size + 1 := by simp
 have hs2 : ((w.alloc (.cells ((nI (List.replicate 8 0)).map (Value.int .u64)).toArray 77)).alloc (.cells ((nI (List.replicate 8 0)).map (Value.int .u64)).toArray 77)).heap.size = w.heap.size + 2 := by simp
 have q1 := below_two w (.cells ((nI (List.replicate 8 0)).map (Value.int .u64)).toArray 77) (.cells ((nI (List.replicate 8 0)).map (Value.int .u64)).toArray 77)
 rw [hs] at A1
 clear hs
 change Calls Tryz.prog _ _ ((w.alloc (.cells ((nI (List.replicate 8 0)).map (Value.int .u64)).toArray 77)).alloc (.cells ((nI (List.replicate 8 0)).map (Value.int .u64)).toArray 77)) _
 generalize (w.alloc (.cells ((nI (List.replicate 8 0)).map (Value.int .u64)).toArray 77)).alloc (.cells ((nI (List.replicate 8 0)).map (Value.int .u64)).toArray 77) = w1 at *
 refine (refPrimes_yes 8 _ (by decide)).mono ?_
 rintro e w2 ⟨v2, rfl, hown2, q2⟩
 obtain ⟨a2, c2, rfl, _⟩ := row_of_owns hown2
 have q12 : Below w.heap.size w w2 := q1.trans (q2.mono (by omega))
 replace A0 := A0.below q2 (by omega)
 replace A1 := A1.below q2 (by omega)
 have hs3 := q2.size
 clear q1 q2
 go_wp2
 go_loopw [3] (fun y wr => ∃ k : Nat, k ≤ 8 ∧ y = .int .i64 (k : Int) ∧ Hid (Arr wr (w.heap.size + 1) 77 .u64 (nI (fillL SL 8 k))) ∧ Hid (Arr wr w.heap.size 77 .u64 (nI (List.replicate 8 0))) ∧ Hid (Below w.heap.size w wr) ∧ Hid (wr.ownsRow w1.heap.size 3 1 (.slice a2 8 c2) 8 ((nI (prL.take 8)).map (Value.int .i64)))) (fun y _ => 8 - (intOf y).toNat)
 case atStart => exact ⟨0, by omega, rfl, by rw [fillL_zero]; exact A1, A0, q12, hown2⟩
 case round =>
  clear A0 A1 q12 hown2
  obtain ⟨k, hk, rfl, HA1, HA0, HB, HO⟩ := hrel
  by_cases hlt : k < 8
  ·obtain ⟨a3, c3, e3, row3⟩ := row_of_owns HO.out
   simp only [Value.slice.injEq, true_and] at e3
   obtain ⟨rfl, rfl⟩ := e3
   obtain ⟨b, off, rfl, hbs, hcell⟩ := row3.hcell (by omega)
   have hc1 := hcell k hlt
   clear hcell row3
   rw [nI_get, prL_take_get 8 k hlt] at hc1
   have HS : Hid (SL[k]?.getD 0 = frTo 2 (prL[k]?.getD 0 * 65536 ^ 8) 69 % 18446744073709551616) := by show _ = _; rw [map_take_get _ 8 k SL SL_doc (by decide) hlt]
   have hp := prL_get_lt k
   generalize prL[k]?.getD 0 = p at *
   have hroot := root14_any p 2 wr (by decide) (by omega)
   rw [show 4 * 2 = 8 from rfl] at hroot
   have hzlt : frTo 2 (p * 65536 ^ 8) 69 % 18446744073709551616 < 18446744073709551616 := Nat.mod_lt _ (by decide)
   generalize hz0 : frTo 2 (p * 65536 ^ 8) 69 % 18446744073709551616 = z at *
   clear hz0



   go_wp2_with fail
   refine hroot.mono ?_
   rintro e w3 ⟨rfl, q3⟩
   have sB := HB.out.size
   have A3 := HA1.out.below q3 HA1.out.lt
   have hcl := A3.cell k (by rw [nI_length, fillL_length HSL.out hk]; exact hlt)
   have hfz := A3.unfrozen k
   have HA1' : Hid (Arr (w3.setCell ⟨w.heap.size + 1, k, none⟩ (.int .u64 (z : Int))) (w.heap.size + 1) 77 .u64 (nI (fillL SL 8 (k + 1)))) := by
    show Arr _ _ _ _ _
    have := A3.set (by rw [nI_length, fillL_length HSL.out hk]; decide) k (z : Int)
    rw [nI_set, ← HS.out, fillL_next HSL.out hlt, HS.out] at this
    exact this
   have HO3 := ownsSince HO.out q3
   have HB3 := HB.out.trans (q3.mono sB)
   have A03 := HA0.out.below q3 (by have := HA0.out.lt; omega)
   clear q3 A3
   go_wp2
   go_roundw
   case rel => exact ⟨k + 1, by omega, by go_num, HA1', A03.other _ _ (by show w.heap.size ≠ w.heap.size + 1; omega), HB3.setCell (by show w.heap.size ≤ w.heap.size + 1; omega) _, ownsRow_setCell_below HO3 (by show w.heap.size + 1 < w1.heap.size; omega) _⟩
   case measure => simp [intOf]; omega
  ·obtain rfl : k = 8 := by omega
   have A1 := HA1.out
   rw [fillL_full HSL.out] at A1
   have hl : (nI SL).length = 8 := by rw [nI_length]; exact HSL.out
   have HL : Hid ((nI SL).length = 8) := hl
   clear hl
   go_wp2_with (first
    | (refine wpList_loadA rfl 77 _ rfl (w.heap.size + 1) rfl A1 Tryz.underlying77 Tryz.size77 HL.out ?_)
    | (refine wpList_storeA rfl 77 _ _ rfl w.heap.size (nI SL) rfl rfl HA0.out Tryz.size77 (by decide +kernel) HL.out ?_))
   exact bodyPost_ret (resA rfl _ _ w.heap.size rfl (HA0.out.whole _) Tryz.underlying77 Tryz.size77 HL.out) rfl ⟨rfl, below_setRow HB.out (Nat.le_refl _) _⟩
set_option maxHeartbeats 1600000 in
theorem refRounds14 (w : World) : Calls Tryz.prog 50 #[] w fun e w' => e = .returned (.agg ((nI KL).map (Value.int .u64)).toArray) ∧ Below w.heap.size w w' := by
 have HSL : Hid (KL.length = 80) := by show _ = _; decide +kernel
 have hz1 := Tryz.zeroValue75
 have hz2 := Tryz.zeroCells75_ne
 have hz3 := Tryz.zeroCells75_size
 go_enter Tryz.func50, Tryz.ntmps50
 go_wp2_with fail
 have A0 := (Arr.new w 75 .u64 (nI (List.replicate 80 0)) _ zero80).alloc (.cells Tryz.zeroCells75 75)
 have A1 := Arr.new (w.alloc (.cells Tryz.zeroCells75 75)) 75 .u64 (nI (List.replicate 80 0)) _ zero80
 have hs : (w.alloc (.cells Tryz.zeroCells75 75)).heap.size = w.heap.size + 1 := by simp
 have hs2 : ((w.alloc (.cells Tryz.zeroCells75 75)).alloc (.cells Tryz.zeroCells75 75)).heap.size = w.heap.size + 2 := by simp
 have q1 := below_two w (.cells Tryz.zeroCells75 75) (.cells Tryz.zeroCells75 75)
 rw [hs] at A1
 clear hs
 change Calls Tryz.prog _ _ ((w.alloc (.cells Tryz.zeroCells75 75)).alloc (.cells Tryz.zeroCells75 75)) _
 generalize (w.alloc (.cells Tryz.zeroCells75 75)).alloc (.cells Tryz.zeroCells75 75) = w1 at *
 refine (refPrimes_yes 80 _ (by decide)).mono ?_
 rintro e w2 ⟨v2, rfl, hown2, q2⟩
 obtain ⟨a2, c2, rfl, _⟩ := row_of_owns hown2
 have q12 : Below w.heap.size w w2 := q1.trans (q2.mono (by omega))
 replace A0 := A0.below q2 (by omega)
 replace A1 := A1.below q2 (by omega)
 have hs3 := q2.size
 clear q1 q2
 go_wp2
 go_loopw [3] (fun y wr => ∃ k : Nat, k ≤ 80 ∧ y = .int .i64 (k : Int) ∧ Hid (Arr wr (w.heap.size + 1) 75 .u64 (nI (fillL KL 80 k))) ∧ Hid (Arr wr w.heap.size 75 .u64 (nI (List.replicate 80 0))) ∧ Hid (Below w.heap.size w wr) ∧ Hid (wr.ownsRow w1.heap.size 3 1 (.slice a2 80 c2) 80 ((nI (prL.take 80)).map (Value.int .i64)))) (fun y _ => 80 - (intOf y).toNat)
 case atStart => exact ⟨0, by omega, rfl, by rw [fillL_zero]; exact A1, A0, q12, hown2⟩
 case round =>
  clear A0 A1 q12 hown2
  obtain ⟨k, hk, rfl, HA1, HA0, HB, HO⟩ := hrel
  by_cases hlt : k < 80
  ·obtain ⟨a3, c3, e3, row3⟩ := row_of_owns HO.out
   simp only [Value.slice.injEq, true_and] at e3
   obtain ⟨rfl, rfl⟩ := e3
   obtain ⟨b, off, rfl, hbs, hcell⟩ := row3.hcell (by omega)
   have hc1 := hcell k hlt
   clear hcell row3
   rw [nI_get, prL_take_get 80 k hlt] at hc1
   have HS : Hid (KL[k]?.getD 0 = frTo 3 (prL[k]?.getD 0 * 65536 ^ 12) 69 % 18446744073709551616) := by show _ = _; rw [map_take_get _ 80 k KL KL_doc (by decide) hlt]
   have hp := prL_get_lt k
   generalize prL[k]?.getD 0 = p at *
   have hroot := root14_any p 3 wr (by decide) (by omega)
   rw [show 4 * 3 = 12 from rfl] at hroot
   have hzlt : frTo 3 (p * 65536 ^ 12) 69 % 18446744073709551616 < 18446744073709551616 := Nat.mod_lt _ (by decide)
   generalize hz0 : frTo 3 (p * 65536 ^ 12) 69 % 18446744073709551616 = z at *
   clear hz0
   go_wp2_with fail
   refine hroot.mono ?_
   rintro e w3 ⟨rfl, q3⟩
   have sB := HB.out.size
   have A3 := HA1.out.below q3 HA1.out.lt
   have hcl := A3.cell k (by rw [nI_length, fillL_length HSL.out hk]; exact hlt)
   have hfz := A3.unfrozen k
   have HA1' : Hid (Arr (w3.setCell ⟨w.heap.size + 1, k, none⟩ (.int .u64 (z : Int))) (w.heap.size + 1) 75 .u64 (nI (fillL KL 80 (k + 1)))) := by
    show Arr _ _ _ _ _
    have := A3.set (by rw [nI_length, fillL_length HSL.out hk]; decide) k (z : Int)
    rw [nI_set, ← HS.out, fillL_next HSL.out hlt, HS.out] at this
    exact this
   have HO3 := ownsSince HO.out q3
   have HB3 := HB.out.trans (q3.mono sB)
   have A03 := HA0.out.below q3 (by have := HA0.out.lt; omega)
   clear q3 A3
   go_wp2
   go_roundw
   case rel => exact ⟨k + 1, by omega, by go_num, HA1', A03.other _ _ (by show w.heap.size ≠ w.heap.size + 1; omega), HB3.setCell (by show w.heap.size ≤ w.heap.size + 1; omega) _, ownsRow_setCell_below HO3 (by show w.heap.size + 1 < w1.heap.size; omega) _⟩
   case measure => simp [intOf]; omega
  ·obtain rfl : k = 80 := by omega
   have A1 := HA1.out
   rw [fillL_full HSL.out] at A1
   have hl : (nI KL).length = 80 := by rw [nI_length]; exact HSL.out
   have HL : Hid ((nI KL).length = 80) := hl
   clear hl
   go_wp2_with (first
    | (refine wpList_loadA rfl 75 _ rfl (w.heap.size + 1) rfl A1 Tryz.underlying75 Tryz.size75 HL.out ?_)
    | (refine wpList_storeA rfl 75 _ _ rfl w.heap.size (nI KL) rfl rfl HA0.out Tryz.size75 (by decide +kernel) HL.out ?_))
   exact bodyPost_ret (resA rfl _ _ w.heap.size rfl (HA0.out.whole _) Tryz.underlying75 Tryz.size75 HL.out) rfl ⟨rfl, below_setRow HB.out (Nat.le_refl _) _⟩
end Go.Proofs.YthangiocheodoaaGreatDoor.B

/-
 The document's answer for layer 14 (casemateref14): rotr, three, Pad. (Pad: written by tools/gen/shb_ref3.py.)
-/
namespace Go.Proofs.YthangiocheodoaaGreatDoor.B
open Go.RowKit
set_option linter.unusedVariables false
set_option maxRecDepth 8192

theorem refRotr14 (x n : Nat) (w : World) (hx : x < 18446744073709551616) (h0 : 0 < n) (h1 : n < 64) : Calls Tryz.prog 90 #[.int .u64 (x : Int), .int .u64 (n : Int)] w fun e w' => e = .returned (.int .u64 ((rr x n : Nat) : Int)) ∧ w = w' := by
 have es : IntKind.u64.wrap ((64 : Int) - (n : Int)) = ((64 - n : Nat) : Int) := by rw [IntKind.wrap_u64]; omega
 have et : (((64 : Int) - (n : Int))).toNat = 64 - n := by omega
 go_enter Tryz.func90, Tryz.ntmps90
 go_wp2
 have e1 : (x : Int) * 2 ^ (64 - n) % 18446744073709551616 = ((x * 2 ^ (64 - n) % 18446744073709551616 : Nat) : Int) := by simp
 have e2 : (x : Int) / 2 ^ n = ((x / 2 ^ n : Nat) : Int) := by simp
 go_ret
 exact ⟨ret_int (by rw [IntKind.wrap_u64, e1, e2, u64_or_nat _ _ (dlt hx) (mlt _), Nat.or_comm, rr_or x n hx (by omega)]), rfl⟩
theorem refThree14 (x a b c : Nat) (w : World) (hx : x < 18446744073709551616) (ha : 0 < a) (ha2 : a < 64) (hb : 0 < b) (hb2 : b < 64) (hc : 0 < c) (hc2 : c < 64) :
  Calls Tryz.prog 91 #[.int .u64 (x : Int), .int .u64 (a : Int), .int .u64 (b : Int), .int .u64 (c : Int)] w fun e w' => e = .returned (.int .u64 ((rr x a ^^^ rr x b ^^^ rr x c : Nat) : Int)) ∧ w = w' := by
 have la := rr_lt x a hx (by omega)
 have lb := rr_lt x b hx (by omega)
 have lc := rr_lt x c hx (by omega)
 have ka := fun w => refRotr14 x a w hx ha ha2
 have kb := fun w => refRotr14 x b w hx hb hb2
 have kc := fun w => refRotr14 x c w hx hc hc2
 generalize rr x a = ra at *
 generalize rr x b = rb at *
 generalize rr x c = rc at *
 have e1 := u64_xor_nat ra rb la lb
 have f1 := xlt la lb
 have HX : Hid (ra ^^^ rb ^^^ rc = ra ^^^ rb ^^^ rc) := rfl
 generalize ra ^^^ rb = y1 at *
 have e2 := u64_xor_nat y1 rc f1 lc
 have f2 := xlt f1 lc
 generalize y1 ^^^ rc = y2 at *
 go_enter Tryz.func91, Tryz.ntmps91
 go_wp2_with fail
 refine (ka _).mono ?_
 rintro e w' ⟨rfl, rfl⟩
 go_wp2_with fail
 refine (kb _).mono ?_
 rintro e w' ⟨rfl, rfl⟩
 go_wp2_with fail
 refine (kc _).mono ?_
 rintro e w' ⟨rfl, rfl⟩
 clear ka kb kc
 go_wp2
 go_ret
 exact ⟨rfl, rfl⟩
theorem pad_go {n k : Nat} (h : k < noughts n) : (n + 1 + k + 16) % 128 ≠ 0 := by unfold noughts at h; omega
theorem pad_end (n : Nat) : (n + 1 + noughts n + 16) % 128 = 0 := by unfold noughts; omega
set_option maxHeartbeats 3200000 in
theorem refPad14 (z : List Nat) (a : Option Addr) (len cap : Nat) (w : World) (hr : Row .u8 w a len cap (nI z)) (hl : len ≤ 100000) :
  Calls Tryz.prog 49 #[.slice a len cap] w fun e w' => ∃ v, e = .returned v ∧ w'.ownsRow w.heap.size 5 1 v (len + (noughts len + 17)) ((nI (z ++ padL len)).map (Value.int .u8)) ∧ Below w.heap.size w w' := by
 obtain ⟨i0, hi0, hz0, hz1, hz2⟩ := info_parts Tryz.info5
 have hn64 := noughts_lt len
 go_enter Tryz.func49, Tryz.ntmps49
 go_wp2_with (at_builtin; refine wpList_append_row _ rfl _ _ 24 rfl w.heap.size 5 i0 (.int .u8 0) 1 Tryz.underlying24 hi0 hz0 hz1 hz2 rfl _ 0 [] rfl (World.ownsRow_nil _ _ _ _) .u8 a len cap _ rfl hr (by unfold maxLen; omega) (by omega) (Nat.le_refl _) ?_)
 intro v1 w1 own1 hg1
 have q1 : Below w.heap.size w w1 := (Below.refl _ _).grown hg1 (Nat.le_refl _) (by simp [Value.ownBlock])
 have s1 := q1.size
 clear hg1
 go_wp2_with (at_builtin; refine wpList_append_own _ rfl _ _ 24 rfl w.heap.size 5 i0 (.int .u8 0) 1 1 Tryz.underlying24 hi0 hz0 hz1 hz2 rfl (by decide) _ _ _ rfl (own1.alloc _) ⟨w1.heap.size, 0, none⟩ 1 1 [.int .u8 128] rfl rfl (cell_one_new _ _ _) (by intro u hu; simp at hu; subst hu; rfl) (by unfold maxLen; omega) (by omega) (by simp; omega) ?_)
 intro v2 w2 own2' hg2 _
 have R2 := rel_push_u8 (x := 128) s1 own1 q1 own2' hg2
 clear own2' hg2 own1 q1
 go_wp2
 go_loopw [3] (fun v wr => ∃ k : Nat, k ≤ noughts len ∧ Hid (wr.ownsRow w.heap.size 5 1 v (len + 1 + k) ((nI (z ++ padTo len k)).map (Value.int .u8))) ∧ Hid (Below w.heap.size w wr)) (fun v _ => match v with | .slice _ l _ => 1000000 - l | _ => 1000000)
 case atStart => exact ⟨0, Nat.zero_le _, R2.1, R2.2⟩
 case round =>
  clear R2
  obtain ⟨k, hk, HO, HB⟩ := hrel
  obtain ⟨a3, c3, rfl, _⟩ := row_of_owns HO.out
  have s3 := HB.out.size
  by_cases hlt : k < noughts len
  ·have hne := pad_go hlt
   have hq : (((len + 1 + k : Nat) : Int) + 16) % 128 ≠ 0 := by omega
   have hq2 : ((((len + 1 + k : Nat) : Int) + 16) % 128 != 0) = true := by simpa using hq
   have hown := HO.out
   have HLT : Hid (k < noughts len) := hlt
   have hL : len + 1 + k ≤ 200000 := by omega
   generalize hLk : len + 1 + k = L at *
   have HLk : Hid (len + 1 + k = L) := hLk
   clear hLk hne hq
   go_wp2_with (at_builtin; refine wpList_append_own _ rfl _ _ 24 rfl w.heap.size 5 i0 (.int .u8 0) 1 1 Tryz.underlying24 hi0 hz0 hz1 hz2 rfl (by decide) _ _ _ rfl (hown.alloc _) ⟨_, 0, none⟩ 1 1 [.int .u8 0] rfl rfl (cell_one_new _ _ _) (by intro u hu; simp at hu; subst hu; rfl) (by unfold maxLen; omega) (by omega) (by simp; omega) ?_)
   intro v4 w4 own4' hg4 _
   have R4 := rel_push_u8 (x := 0) s3 hown HB.out own4' hg4
   rw [List.append_assoc, padTo_snoc] at R4
   obtain ⟨a4, c4, rfl, _⟩ := row_of_owns R4.1
   clear own4' hg4
   go_wp2
   go_roundw
   case rel => exact ⟨k + 1, by have := HLT.out; omega, by rw [show len + 1 + (k + 1) = L + 1 from by have := HLk.out; omega]; exact R4.1, R4.2⟩
   case measure => simp only; omega
  ·obtain rfl : k = noughts len := by omega
   have hq2 : ((((len + 1 + noughts len : Nat) : Int) + 16) % 128 != 0) = false := by have := pad_end len; simp; omega
   have hL0 : len + 1 + noughts len ≤ 200000 := by omega
   obtain ⟨n8, hn8⟩ : ∃ x, 8 * len = x := ⟨_, rfl⟩
   have HN8 : Hid (8 * len = n8) := hn8
   have e80 : (8 : Int) * (len : Int) = (n8 : Int) := by omega
   have hn8l : n8 ≤ 800000 := by omega
   clear hn8 hlt
   generalize hL0k : len + 1 + noughts len = L0 at *
   have HL0 : Hid (len + 1 + noughts len = L0) := hL0k
   clear hL0k
   go_wp2
   clear e80
   go_loopw [3, 5] (fun v y wr => ∃ j : Nat, j ≤ 8 ∧ y = .int .i64 (j : Int) ∧ Hid (wr.ownsRow w.heap.size 5 1 v (L0 + j) ((nI (z ++ padTo len (noughts len + j))).map (Value.int .u8))) ∧ Hid (Below w.heap.size w wr)) (fun _ y _ => 8 - (intOf y).toNat)
   case atStart => exact ⟨0, by omega, rfl, HO, HB⟩
   case round =>
    clear HO HB s3
    obtain ⟨j, hj, rfl, HO, HB⟩ := hrel
    have s3 := HB.out.size
    by_cases h8 : j < 8
    ·have hown := HO.out
     have hL : L0 + j ≤ 200010 := by omega
     generalize hLk : L0 + j = L at *
     have HLk : Hid (L0 + j = L) := hLk
     clear hLk
     go_wp2_with (at_builtin; refine wpList_append_own _ rfl _ _ 24 rfl w.heap.size 5 i0 (.int .u8 0) 1 1 Tryz.underlying24 hi0 hz0 hz1 hz2 rfl (by decide) _ _ _ rfl (hown.alloc _) ⟨_, 0, none⟩ 1 1 [.int .u8 0] rfl rfl (cell_one_new _ _ _) (by intro u hu; simp at hu; subst hu; rfl) (by unfold maxLen; omega) (by omega) (by simp; omega) ?_)
     intro v4 w4 own4' hg4 _
     have R4 := rel_push_u8 (x := 0) s3 hown HB.out own4' hg4
     rw [List.append_assoc, padTo_snoc] at R4
     clear own4' hg4
     go_wp2
     go_roundw
     case rel => exact ⟨j + 1, by omega, by go_num, by rw [show L0 + (j + 1) = L + 1 from by have := HLk.out; omega]; exact R4.1, R4.2⟩
     case measure => simp [intOf]; omega
    ·obtain rfl : j = 8 := by omega
     have HP : Hid (z ++ padL len = z ++ padTo len (noughts len + 8) ++ beN 8 (8 * len)) := by show _ = _; rw [beN_eight]; simp [padL, padTo]
     have hown := HO.out
     have HB8 : Hid (∀ j, j < 8 → (beN 8 (8 * len)).take (j + 1) = (beN 8 (8 * len)).take j ++ [8 * len / 2 ^ (8 * (7 - j)) % 256]) := fun j hj => by
      rw [take_snocN _ _ (by rw [beN_length]; exact hj), beN_get 8 (8 * len) j hj, pow256, show 8 - 1 - j = 7 - j from by omega]
     have hfull : (beN 8 (8 * len)).take 8 = beN 8 (8 * len) := List.take_of_length_le (by rw [beN_length]; exact Nat.le_refl _)
     have HFl : Hid ((beN 8 (8 * len)).take 8 = beN 8 (8 * len)) := hfull
     clear hfull
     have hN : 8 * len ≤ 800000 := by omega
     have HNN : Hid (8 * len = 8 * len) := rfl
     have hL : L0 + 8 ≤ 200010 := by omega
     generalize hLk : L0 + 8 = L at *
     have HLk : Hid (L0 + 8 = L) := hLk
     clear hLk
     obtain ⟨N, hNe⟩ : ∃ N, 8 * len = N := ⟨_, rfl⟩
     obtain rfl : N = n8 := by rw [← hNe]; exact HN8.out
     rw [hNe] at hN HP HB8 HFl
     clear hNe
     generalize beN 8 N = bl at *
     generalize z ++ padTo len (noughts len + 8) = zp at *
     rw [show ((8 : Nat) : Int) = 8 from rfl]
     go_wp2
     go_loopw [3, 6] (fun v y wr => ∃ j : Nat, j ≤ 8 ∧ y = .int .i64 (7 - (j : Int)) ∧ Hid (wr.ownsRow w.heap.size 5 1 v (L + j) ((nI (zp ++ bl.take j)).map (Value.int .u8))) ∧ Hid (Below w.heap.size w wr)) (fun _ y _ => (intOf y + 1).toNat)
     case atStart => exact ⟨0, by omega, rfl, by rw [List.take_zero, List.append_nil]; exact HO, HB⟩
     case round =>
      clear HO HB hown s3
      obtain ⟨j, hj, rfl, HO, HB⟩ := hrel
      have hown := HO.out
      have s4 := HB.out.size
      by_cases h8 : j < 8
      ·have HT := HB8.out j h8
       have HT2 : Hid (bl.take (j + 1) = bl.take j ++ [N / 2 ^ (8 * (7 - j)) % 256]) := HT
       clear HT
       have em : (8 : Int) * (7 - (j : Int)) = ((8 * (7 - j) : Nat) : Int) := by omega
       have hpe : 8 * (7 - j) ≤ 56 := by omega
       obtain ⟨pe, hpe0⟩ : ∃ x, 8 * (7 - j) = x := ⟨_, rfl⟩
       rw [hpe0] at em hpe HT2
       clear hpe0
       have hd : (N : Int) / 2 ^ pe = ((N / 2 ^ pe : Nat) : Int) := by simp
       have hdl : N / 2 ^ pe ≤ N := Nat.div_le_self _ _
       obtain ⟨d, hd0⟩ : ∃ x, N / 2 ^ pe = x := ⟨_, rfl⟩
       rw [hd0] at hd hdl HT2
       clear hd0
       have hj7 : (0 : Int) ≤ 7 - (j : Int) := by omega
       have hwp : IntKind.u64.wrap (pe : Int) = (pe : Int) := by rw [IntKind.wrap_u64]; omega
       have htn : ((pe : Int)).toNat = pe := by omega
       go_wp2_with (at_builtin; refine wpList_append_own _ rfl _ _ 24 rfl w.heap.size 5 i0 (.int .u8 0) 1 1 Tryz.underlying24 hi0 hz0 hz1 hz2 rfl (by decide) _ _ _ rfl (hown.alloc _) ⟨_, 0, none⟩ 1 1 [.int .u8 ((d : Int) % 256)] rfl rfl (cell_one_new _ _ _) (by intro u hu; simp at hu; subst hu; rfl) (by unfold maxLen; omega) (by omega) (by simp; omega) ?_)
       intro v5 w5 own5' hg5 _
       rw [show (d : Int) % 256 = ((d % 256 : Nat) : Int) from by omega] at own5'
       have R5 := rel_push_u8 (x := d % 256) s4 hown HB.out own5' hg5
       rw [List.append_assoc, ← HT2.out] at R5
       clear own5' hg5
       go_wp2
       go_roundw
       case rel => exact ⟨j + 1, by omega, by go_num, R5.1, R5.2⟩
       case measure => simp [intOf]; omega
      ·obtain rfl : j = 8 := by omega
       rw [HFl.out, ← HP.out, show L + 8 = len + (noughts len + 17) from by have := HLk.out; have := HL0.out; omega] at hown
       go_wp2
       go_ret
       exact ⟨_, rfl, hown, HB.out⟩
end Go.Proofs.YthangiocheodoaaGreatDoor.B
