/-
 Layer 15's reference: at, Norm, Cmp.
-/
import Derived.Test.YthangiocheodoaaGreatDoorPackNa
namespace Go.Proofs.YthangiocheodoaaGreatDoor.N
open Go.RowKit
set_option linter.unusedVariables false
set_option maxRecDepth 8192

theorem gives_own {w w' : World} {e : TypeId} {v : Value} {n : Nat} {z : List Nat} (hn : z.length = n) (h : w'.ownsRow w.heap.size e 1 v n ((nI z).map (Value.int .u8))) (q : Below w.heap.size w w') : Gives w z (.returned v) w' := by
 subst hn
 obtain ⟨a, cap, rfl, r⟩ := row_of_owns h
 exact ⟨a, cap, rfl, r, q⟩
set_option maxHeartbeats 400000 in
theorem at15_any (z : List Nat) (a : Option Addr) (len cap i : Nat) (w : World) (hr : Row .u8 w a len cap (nI z)) (hi : i ≤ 1000000) (hl : len ≤ 1000000) (dz : Dig z) :
  Calls Tryz.prog 73 #[.slice a len cap, .int .i64 (i : Int)] w fun e w' => e = .returned (.int .i64 ((dg z i : Nat) : Int)) ∧ w = w' := by
 have HL : Hid (z.length = len) := by have := hr.hlen; rwa [nI_length] at this
 have hd := dz.at i
 by_cases h : i < len
 ·obtain ⟨b, off, rfl, hbs, hcell⟩ := hr.hcell (by omega)
  have hc := hcell i h
  clear hcell
  rw [nI_dg] at hc
  generalize dg z i = d at *
  go_enter Tryz.func73, Tryz.ntmps73
  go_wp2
  go_ret
  exact ⟨rfl, rfl⟩
 ·have HZ : Hid (dg z i = 0) := dg_past (by rw [HL.out]; omega)
  rw [HZ.out]
  go_enter Tryz.func73, Tryz.ntmps73
  go_wp2
  go_ret
  exact ⟨rfl, rfl⟩
set_option maxHeartbeats 800000 in
theorem refNorm15_any (z : List Nat) (dz : Dig z) (a : Option Addr) (len cap : Nat) (w : World) (hr : Row .u8 w a len cap (nI z)) (hsm : len ≤ 1000000) :
  Calls Tryz.prog 74 #[.slice a len cap] w (Gives w (nb (vL z))) := by
 obtain ⟨i0, hi0, hz0, hz1, hz2⟩ := info_parts Tryz.info5
 have HL : Hid (z.length = len) := by have := hr.hlen; rwa [nI_length] at this
 have HNB : Hid (nt z = nb (vL z)) := nt_nb dz
 have hm := hr.hmax
 have hc := hr.hcap
 unfold maxLen at hm
 go_enter Tryz.func74, Tryz.ntmps74
 go_wp2
 go_loop [3] (fun y => ∃ k : Nat, k ≤ len ∧ y = .int .i64 (k : Int) ∧ Hid (tlTo z k = tl z)) (fun y => (intOf y).toNat)
 case atStart => exact ⟨len, Nat.le_refl _, rfl, by show _ = _; unfold tl; rw [HL.out]⟩
 case round =>
  obtain ⟨k, hk, rfl, HZ⟩ := hrel
  have hrk := row_take hr k hk
  rw [nI_take] at hrk
  by_cases h0 : k = 0
  ·subst h0
   have HT : Hid (z.take 0 = nb (vL z)) := by show _ = _; rw [← HNB.out]; unfold nt; rw [← HZ.out]; rfl
   go_wp2_with (at_builtin; refine wpList_append_row _ rfl _ _ 24 rfl w.heap.size 5 i0 (.int .u8 0) 1 Tryz.underlying24 hi0 hz0 hz1 hz2 rfl _ 0 [] rfl (World.ownsRow_nil _ _ _ _) .u8 a 0 cap _ rfl hrk (by unfold maxLen; omega) (by omega) (Nat.le_refl _) ?_)
   intro v' w1 hown1 hgrow1
   have q1 : Below w.heap.size w w1 := (Below.refl _ _).grown hgrow1 (Nat.le_refl _) (fun j hj => by simp [Value.ownBlock] at hj)
   have R : Gives w (nb (vL z)) (.returned v') w1 := gives_own (n := 0) (by rw [← HT.out]; rfl) (by rw [← HT.out]; simpa using hown1) q1
   clear hown1 hgrow1 q1
   go_wp2
   go_ret
   exact R
  ·obtain ⟨b, off, rfl, hbs, hcell⟩ := hr.hcell (by omega)
   have hc1 := hcell (k - 1) (by omega)
   rw [nI_dg] at hc1
   have HS : Hid (tlTo z k = if dg z (k - 1) = 0 then tlTo z (k - 1) else k) := by
    obtain ⟨m, rfl⟩ : ∃ m, k = m + 1 := ⟨k - 1, by omega⟩
    rfl
   clear hcell
   have e1 : ((k : Int) - 1).toNat = k - 1 := by omega
   have e2 : (0 : Int) ≤ (k : Int) - 1 := by omega
   have e3 : (k : Int) - 1 < (len : Int) := by omega
   by_cases hv : dg z (k - 1) = 0
   ·have HT : Hid (tlTo z (k - 1) = tl z) := by
     show _ = _
     rw [← HZ.out, HS.out, if_pos hv]
    have hq : (((dg z (k - 1) : Nat) : Int) == 0) = true := by simp [hv]
    clear hv HS HZ hrk
    generalize dg z (k - 1) = d at *
    go_wp2
    go_round
    case rel => exact ⟨k - 1, by omega, by go_num, HT⟩
    case measure => simp [intOf]; omega
   ·have HT : Hid (z.take k = nb (vL z)) := by
     show _ = _
     rw [← HNB.out]
     unfold nt
     rw [← HZ.out, HS.out, if_neg hv]
    have hlk : (nb (vL z)).length = k := by rw [← HT.out, List.length_take, HL.out]; omega
    have HLK : Hid ((nb (vL z)).length = k) := hlk
    rw [HT.out] at hrk
    have hq : (((dg z (k - 1) : Nat) : Int) == 0) = false := by simp [hv]
    clear hv HS HZ hlk
    generalize dg z (k - 1) = d at *
    go_wp2_with (at_builtin; refine wpList_append_row _ rfl _ _ 24 rfl w.heap.size 5 i0 (.int .u8 0) 1 Tryz.underlying24 hi0 hz0 hz1 hz2 rfl _ 0 [] rfl (World.ownsRow_nil _ _ _ _) .u8 (some ⟨b, off, none⟩) k cap _ rfl hrk (by unfold maxLen; omega) (by omega) (Nat.le_refl _) ?_)
    intro v' w1 hown1 hgrow1
    have q1 : Below w.heap.size w w1 := (Below.refl _ _).grown hgrow1 (Nat.le_refl _) (fun j hj => by simp [Value.ownBlock] at hj)
    have R : Gives w (nb (vL z)) (.returned v') w1 := gives_own (n := k) HLK.out (by simpa using hown1) q1
    clear hown1 hgrow1 q1
    go_wp2
    go_ret
    exact R
set_option maxHeartbeats 1600000 in
theorem refCmp15_any (a b : List Nat) (aa ab : Option Addr) (la ca lb cb : Nat) (w : World) (da : Dig a) (db : Dig b) (ra : Row .u8 w aa la ca (nI a)) (rb : Row .u8 w ab lb cb (nI b)) (hla : la ≤ 100000) (hlb : lb ≤ 100000) :
  Calls Tryz.prog 115 #[.slice aa la ca, .slice ab lb cb] w fun e w' => e = .returned (.int .i64 (cmpN (vL a) (vL b))) ∧ w = w' := by
 have HA : Hid (a.length = la) := by have := ra.hlen; rwa [nI_length] at this
 have HB : Hid (b.length = lb) := by have := rb.hlen; rwa [nI_length] at this
 obtain ⟨N, hN⟩ : ∃ N : Nat, ((N = la ∧ (lb : Int) ≤ (N : Int)) ∨ (N = lb ∧ (la : Int) < (N : Int))) := by
  rcases Nat.lt_or_ge la lb with h | h
  ·exact ⟨lb, .inr ⟨rfl, by omega⟩⟩
  ·exact ⟨la, .inl ⟨rfl, by omega⟩⟩
 have HVa : Hid (vTo (dg a) N = vL a) := vL_to a N (by rw [HA.out]; omega)
 have HVb : Hid (vTo (dg b) N = vL b) := vL_to b N (by rw [HB.out]; omega)
 have hN9 : N ≤ 100000 := by omega
 have cA := fun i hi => at15_any a aa la ca i w ra hi (by omega) da
 have cB := fun i hi => at15_any b ab lb cb i w rb hi (by omega) db
 rcases hN with ⟨rfl, hle⟩ | ⟨rfl, hle⟩
 all_goals
  go_enter Tryz.func115, Tryz.ntmps115
  go_wp2
  go_loop [5] (fun y => ∃ k : Nat, k ≤ N ∧ y = .int .i64 ((k : Int) - 1) ∧ Hid (∀ j, k ≤ j → j < N → dg a j = dg b j)) (fun y => (intOf y + 1).toNat)
  case atStart => exact ⟨N, Nat.le_refl _, by go_num, fun j h1 h2 => by omega⟩
  case round =>
   obtain ⟨k, hk, rfl, HE⟩ := hrel
   by_cases h0 : k = 0
   ·subst h0
    have HF : Hid (cmpN (vL a) (vL b) = 0) := by
     show _ = _
     rw [← HVa.out, ← HVb.out, vTo_congr (fun i hi => HE.out i (Nat.zero_le _) hi)]
     unfold cmpN
     simp
    go_wp2
    go_ret
    exact ⟨ret_int HF.out.symm, rfl⟩
   ·obtain ⟨j, rfl⟩ : ∃ j, k = j + 1 := ⟨k - 1, by omega⟩
    have HNE : Hid (dg a j ≠ dg b j → cmpN (dg a j) (dg b j) = cmpN (vL a) (vL b)) := fun hne => by
     have h1 := vTo_above (f := dg a) (g := dg b) (i := j) (n := N) (by omega) da.at db.at (fun i h1 h2 => HE.out i (by omega) h2) hne
     have h2 := vTo_above (f := dg b) (g := dg a) (i := j) (n := N) (by omega) db.at da.at (fun i h1 h2 => (HE.out i (by omega) h2).symm) (fun e => hne e.symm)
     rw [HVa.out, HVb.out] at h1 h2
     unfold cmpN
     simp only [h1, h2]
    have HEQ : Hid (dg a j = dg b j → ∀ i, j ≤ i → i < N → dg a i = dg b i) := fun he i h1 h2 => by
     by_cases e : i = j
     ·rw [e]; exact he
     ·exact HE.out i (by omega) h2
    clear HE h0
    have dA := cA j (by omega)
    have dB := cB j (by omega)
    have hxa := da.at j
    have hxb := db.at j
    have ek : (((j + 1 : Nat) : Int) - 1) = (j : Int) := by omega
    rw [ek]
    clear ek
    generalize dg a j = x at *
    generalize dg b j = y at *
    rcases Nat.lt_trichotomy x y with h | h | h
    ·have HF : Hid (cmpN (vL a) (vL b) = -1) := by
      show _ = _
      rw [← HNE.out (by omega)]
      unfold cmpN
      rw [if_pos h]
     clear HNE HEQ
     go_wp2_with fail
     refine dA.mono ?_
     rintro e w' ⟨rfl, rfl⟩
     go_wp2_with fail
     refine dB.mono ?_
     rintro e w' ⟨rfl, rfl⟩
     go_wp2_with fail
     go_ret
     exact ⟨ret_int HF.out.symm, rfl⟩
    ·have HG : Hid (∀ i, j ≤ i → i < N → dg a i = dg b i) := HEQ.out h
     subst h
     clear HNE HEQ
     go_wp2_with fail
     refine dA.mono ?_
     rintro e w' ⟨rfl, rfl⟩
     go_wp2_with fail
     refine dB.mono ?_
     rintro e w' ⟨rfl, rfl⟩
     go_wp2_with fail
     refine dA.mono ?_
     rintro e w' ⟨rfl, rfl⟩
     go_wp2_with fail
     refine dB.mono ?_
     rintro e w' ⟨rfl, rfl⟩
     go_wp2_with fail
     go_round
     case rel => exact ⟨j, by omega, by go_num, HG⟩
     case measure => simp [intOf] <;> omega
    ·have HF : Hid (cmpN (vL a) (vL b) = 1) := by
      show _ = _
      rw [← HNE.out (by omega)]
      unfold cmpN
      rw [if_neg (by omega), if_pos h]
     clear HNE HEQ
     go_wp2_with fail
     refine dA.mono ?_
     rintro e w' ⟨rfl, rfl⟩
     go_wp2_with fail
     refine dB.mono ?_
     rintro e w' ⟨rfl, rfl⟩
     go_wp2_with fail
     refine dA.mono ?_
     rintro e w' ⟨rfl, rfl⟩
     go_wp2_with fail
     refine dB.mono ?_
     rintro e w' ⟨rfl, rfl⟩
     go_wp2_with fail
     go_ret
     exact ⟨ret_int HF.out.symm, rfl⟩
end Go.Proofs.YthangiocheodoaaGreatDoor.N

/-
 Layer 15's reference: Add, Sub.
-/
namespace Go.Proofs.YthangiocheodoaaGreatDoor.N
open Go.RowKit
set_option linter.unusedVariables false
set_option maxRecDepth 8192

/-- What Add's loop keeps. -/
structure AddI (a b o : List Nat) (i c : Nat) : Prop where
 len : o.length = i
 dig : Dig o
 cl : c ≤ 1
 val : vL o + c * 256 ^ i = vTo (dg a) i + vTo (dg b) i
theorem Dig.snoc {o : List Nat} (h : Dig o) {x : Nat} (hx : x < 256) : Dig (o ++ [x]) := by
 intro y hy
 rcases List.mem_append.1 hy with h1 | h1
 ·exact h y h1
 ·rw [List.mem_singleton.1 h1]; exact hx
theorem AddI.next {a b o : List Nat} {i c x : Nat} (h : AddI a b o i c) (ha : Dig a) (hb : Dig b) (hx : x = dg a i + dg b i + c) : AddI a b (o ++ [x % 256]) (i + 1) (x / 256) := by
 have b1 := ha.at i
 have b2 := hb.at i
 have b3 := h.cl
 refine ⟨by rw [List.length_append, h.len]; rfl, h.dig.snoc (Nat.mod_lt _ (by decide)), by omega, ?_⟩
 have hv := h.val
 rw [vL_snoc, h.len, Nat.pow_succ]
 simp only [vTo]
 have hm : x % 256 + 256 * (x / 256) = x := Nat.mod_add_div x 256
 have e1 : x / 256 * (256 ^ i * 256) + x % 256 * 256 ^ i = x * 256 ^ i := by
  conv => rhs; rw [← hm, Nat.add_mul]
  rw [Nat.mul_comm (256 ^ i) 256, ← Nat.mul_assoc, Nat.mul_comm (x / 256) 256]; omega
 have e2 : x * 256 ^ i = dg a i * 256 ^ i + dg b i * 256 ^ i + c * 256 ^ i := by rw [hx, Nat.add_mul, Nat.add_mul]
 omega
theorem AddI.room {a b o : List Nat} {i c n : Nat} (h : AddI a b o i c) (ha : Dig a) (hb : Dig b) (hla : a.length ≤ n) (hlb : b.length ≤ n) (hc : 0 < c) : i ≤ n := by
 rcases Nat.lt_or_ge n i with h1 | h1
 ·exfalso
  have hv := h.val
  rw [vL_to a i (by omega), vL_to b i (by omega)] at hv
  have e1 : vL a < 256 ^ n := Nat.lt_of_lt_of_le ha.vL_lt (Nat.pow_le_pow_right (by decide) hla)
  have e2 : vL b < 256 ^ n := Nat.lt_of_lt_of_le hb.vL_lt (Nat.pow_le_pow_right (by decide) hlb)
  have e3 : 256 ^ (n + 1) ≤ 256 ^ i := Nat.pow_le_pow_right (by decide) h1
  rw [Nat.pow_succ] at e3
  have e4 : 256 ^ i ≤ c * 256 ^ i := Nat.le_mul_of_pos_left _ hc
  omega
 ·exact h1
theorem AddI.done {a b o : List Nat} {i : Nat} (h : AddI a b o i 0) (hla : a.length ≤ i) (hlb : b.length ≤ i) : vL o = vL a + vL b := by
 have hv := h.val
 rw [vL_to a i hla, vL_to b i hlb] at hv
 omega
set_option maxHeartbeats 1600000 in
theorem refAdd15_any (a b : List Nat) (aa ab : Option Addr) (la ca lb cb : Nat) (w : World) (da : Dig a) (db : Dig b) (ra : Row .u8 w aa la ca (nI a)) (rb : Row .u8 w ab lb cb (nI b)) (hla : la ≤ 100000) (hlb : lb ≤ 100000) :
  Calls Tryz.prog 39 #[.slice aa la ca, .slice ab lb cb] w (Gives w (nb (vL a + vL b))) := by
 obtain ⟨i0, hi0, hz0, hz1, hz2⟩ := info_parts Tryz.info5
 have HA : Hid (a.length = la) := by have := ra.hlen; rwa [nI_length] at this
 have HB : Hid (b.length = lb) := by have := rb.hlen; rwa [nI_length] at this
 obtain ⟨N, hN1, hN2, hN9⟩ : ∃ N : Nat, la ≤ N ∧ lb ≤ N ∧ N ≤ 200000 := ⟨la + lb, by omega, by omega, by omega⟩
 go_enter Tryz.func39, Tryz.ntmps39
 go_wp2
 go_loopw [5, 6, 7] (fun v c y wr => ∃ (i cc : Nat) (o : List Nat), i ≤ N + 1 ∧ y = .int .i64 (i : Int) ∧ c = .int .i64 (cc : Int) ∧ Hid (AddI a b o i cc) ∧ Hid (wr.ownsRow w.heap.size 5 1 v i ((nI o).map (Value.int .u8))) ∧ Hid (Below w.heap.size w wr)) (fun _ _ y _ => N + 2 - (intOf y).toNat)
 case atStart => exact ⟨0, 0, [], by omega, rfl, rfl, ⟨rfl, fun x hx => absurd hx (List.not_mem_nil), by decide, by simp [vTo, vL]⟩, World.ownsRow_nil _ _ _ _, Below.refl _ _⟩
 case round =>
  obtain ⟨i, c, o, hi, rfl, rfl, HI, HO, HQ⟩ := hrel
  have hcl := HI.out.cl
  have hsz : w.heap.size ≤ wr.heap.size := HQ.out.size
  by_cases hgo : i < la ∨ i < lb ∨ 0 < c
  ·have hiN : i ≤ N := by
    rcases hgo with h | h | h
    ·omega
    ·omega
    ·exact HI.out.room da db (by rw [HA.out]; exact hN1) (by rw [HB.out]; exact hN2) h
   have HN : Hid (∀ x, x = dg a i + dg b i + c → AddI a b (o ++ [x % 256]) (i + 1) (x / 256)) := fun x hx => HI.out.next da db hx
   have cA := at15_any a aa la ca i wr (ra.below HQ.out (Nat.le_refl _)) (by omega) (by omega) da
   have cB := at15_any b ab lb cb i wr (rb.below HQ.out (Nat.le_refl _)) (by omega) (by omega) db
   have hx1 := da.at i
   have hx2 := db.at i
   generalize dg a i = x1 at *
   generalize dg b i = x2 at *
   have HN1 := HN.out (x1 + x2 + c) rfl
   have hs : (x1 : Int) + (x2 : Int) + (c : Int) = ((x1 + x2 + c : Nat) : Int) := by omega
   have hs9 : x1 + x2 + c < 512 := by omega
   generalize x1 + x2 + c = x at *
   clear HN
   have hown := HO.out
   have hgo2 : (i : Int) < (la : Int) ∨ ¬ (i : Int) < (la : Int) ∧ ((i : Int) < (lb : Int) ∨ ¬ (i : Int) < (lb : Int) ∧ (0 : Int) < (c : Int)) := by omega
   clear hgo
   rcases hgo2 with h1 | ⟨h1, h2 | ⟨h2, h3⟩⟩
   all_goals
    go_wp2_with fail
    refine cA.mono ?_
    rintro e w' ⟨rfl, rfl⟩
    go_wp2_with fail
    refine cB.mono ?_
    rintro e w' ⟨rfl, rfl⟩
    clear cA cB
    go_wp2_with (at_builtin; refine wpList_append_own _ rfl _ _ 24 rfl w.heap.size 5 i0 (.int .u8 0) 1 1 Tryz.underlying24 hi0 hz0 hz1 hz2 rfl (by decide) _ _ _ rfl (hown.alloc _) ⟨wr.heap.size, 0, none⟩ 1 1 [.int .u8 ((x : Int) % 256)] rfl rfl (cell_one_new _ _ _) (by intro u hu; simp at hu; subst hu; rfl) (by unfold maxLen; omega) (by omega) (by simp; omega) ?_)
    intro v' w1 hown' hgrow _
    have R := rel_push hsz hown HQ.out hown' hgrow
    rw [show ((x : Int) % 256) = ((x % 256 : Nat) : Int) from by omega, show nI o ++ [((x % 256 : Nat) : Int)] = nI (o ++ [x % 256]) from by simp [nI]] at R
    clear hown' hgrow
    go_wp2
    go_roundw
    case rel => exact ⟨i + 1, x / 256, o ++ [x % 256], by omega, by go_num, by go_num, HN1, R.1, R.2⟩
    case measure => simp [intOf] <;> omega
  ·obtain rfl : c = 0 := by omega
   have HV : Hid (vL o = vL a + vL b) := HI.out.done (by rw [HA.out]; omega) (by rw [HB.out]; omega)
   have h1 : ¬ (i : Int) < (la : Int) := by omega
   have h2 : ¬ (i : Int) < (lb : Int) := by omega
   have HL : Hid (o.length = i) := HI.out.len
   obtain ⟨ao, co, rfl, ro⟩ := row_of_owns HO.out
   have cN := refNorm15_any o HI.out.dig ao i co wr ro (by omega)
   rw [HV.out] at cN
   clear hgo
   go_wp2_with fail
   refine cN.mono ?_
   rintro e w3 ⟨a3, c3, rfl, r3, q3⟩
   have q4 := HQ.out.trans (q3.mono HQ.out.size)
   go_wp2_with fail
   go_ret
   exact ⟨_, _, rfl, r3, q4⟩
/-- What Sub's loop keeps. -/
structure SubI (a b o : List Nat) (i c : Nat) : Prop where
 len : o.length = i
 dig : Dig o
 cl : c ≤ 1
 val : vL o + vTo (dg b) i = vTo (dg a) i + c * 256 ^ i
theorem SubI.next {a b o : List Nat} {i c x d : Nat} (h : SubI a b o i c) (ha : Dig a) (hb : Dig b) (hd : d ≤ 1) (hx9 : x < 256) (hx : x + dg b i + c = dg a i + 256 * d) : SubI a b (o ++ [x]) (i + 1) d := by
 refine ⟨by rw [List.length_append, h.len]; rfl, h.dig.snoc hx9, hd, ?_⟩
 have hv := h.val
 rw [vL_snoc, h.len, Nat.pow_succ]
 simp only [vTo]
 have e := congrArg (fun y => y * 256 ^ i) hx
 simp only [Nat.add_mul] at e
 rw [show d * (256 ^ i * 256) = 256 * d * 256 ^ i from by rw [Nat.mul_comm (256 ^ i) 256, ← Nat.mul_assoc, Nat.mul_comm d 256]]
 omega
theorem SubI.done {a b o : List Nat} {i c : Nat} (h : SubI a b o i c) (ha : Dig a) (hb : Dig b) (hi : a.length = i) (hab : vL b ≤ vL a) : vL o = vL a - vL b := by
 have hv := h.val
 have e1 : vTo (dg a) i = vL a := vL_to a i (by omega)
 have hal : vL a < 256 ^ i := by rw [← hi]; exact ha.vL_lt
 have e2 : vTo (dg b) i = vL b := by
  rcases Nat.lt_or_ge i b.length with h1 | h1
  ·exact (vTo_tail (f := dg b) (n := i) (m := b.length) (by omega) (fun j hj => dg_top hb (n := i) (by omega) hj)).symm
  ·exact vL_to b i h1
 rw [e1, e2] at hv
 have ho : vL o < 256 ^ i := by rw [← h.len]; exact h.dig.vL_lt
 have hc := h.cl
 rcases (show c = 0 ∨ c = 1 by omega) with rfl | rfl <;> omega
set_option maxHeartbeats 1600000 in
theorem refSub15_any (a b : List Nat) (aa ab : Option Addr) (la ca lb cb : Nat) (w : World) (da : Dig a) (db : Dig b) (ra : Row .u8 w aa la ca (nI a)) (rb : Row .u8 w ab lb cb (nI b)) (hla : la ≤ 100000) (hlb : lb ≤ 100000) :
  Calls Tryz.prog 105 #[.slice aa la ca, .slice ab lb cb] w (Gives w (nb (vL a - vL b))) := by
 obtain ⟨i0, hi0, hz0, hz1, hz2⟩ := info_parts Tryz.info5
 have HA : Hid (a.length = la) := by have := ra.hlen; rwa [nI_length] at this
 have cK := refCmp15_any a b aa ab la ca lb cb w da db ra rb hla hlb
 have hcl := cmp_bounds (vL a) (vL b)
 have hcg : cmpN (vL a) (vL b) < 0 ↔ vL a < vL b := by
  unfold cmpN
  split
  ·omega
  ·split <;> omega
 generalize cmpN (vL a) (vL b) = cc at *
 by_cases hlt : vL a < vL b
 ·have hc0 : cc < 0 := hcg.2 hlt
  have HZ : Hid (nb (vL a - vL b) = []) := by show _ = _; rw [Nat.sub_eq_zero_of_le (by omega), nb_zero]
  clear hcg hlt
  go_enter Tryz.func105, Tryz.ntmps105
  go_wp2_with fail
  refine cK.mono ?_
  rintro e w' ⟨rfl, rfl⟩
  go_wp2_with fail
  go_ret
  unfold Gives
  rw [HZ.out]
  exact ⟨_, _, rfl, ⟨rfl, Nat.le_refl _, Nat.zero_le _, fun _ => rfl, fun h => absurd h (by simp)⟩, Below.refl _ _⟩
 ·have hc0 : ¬ cc < 0 := fun h => hlt (hcg.1 h)
  have HE : Hid (vL b ≤ vL a) := by show _ ≤ _; omega
  clear hcg hlt
  go_enter Tryz.func105, Tryz.ntmps105
  go_wp2_with fail
  refine cK.mono ?_
  rintro e w' ⟨rfl, rfl⟩
  clear cK
  go_wp2_with fail
  go_loopw [5, 6, 7] (fun v c y wr => ∃ (i cc : Nat) (o : List Nat), i ≤ la ∧ y = .int .i64 (i : Int) ∧ c = .int .i64 (cc : Int) ∧ Hid (SubI a b o i cc) ∧ Hid (wr.ownsRow w.heap.size 5 1 v i ((nI o).map (Value.int .u8))) ∧ Hid (Below w.heap.size w wr)) (fun _ _ y _ => la - (intOf y).toNat)
  case atStart => exact ⟨0, 0, [], by omega, rfl, rfl, ⟨rfl, fun x hx => absurd hx (List.not_mem_nil), by decide, by simp [vTo, vL]⟩, World.ownsRow_nil _ _ _ _, Below.refl _ _⟩
  case round =>
   obtain ⟨i, c, o, hi, rfl, rfl, HI, HO, HQ⟩ := hrel
   have hcl := HI.out.cl
   have hsz : w.heap.size ≤ wr.heap.size := HQ.out.size
   by_cases hgo : i < la
   ·have HN : Hid (∀ x d, d ≤ 1 → x < 256 → x + dg b i + c = dg a i + 256 * d → SubI a b (o ++ [x]) (i + 1) d) := fun x d h1 h2 h3 => HI.out.next da db h1 h2 h3
    have cA := at15_any a aa la ca i wr (ra.below HQ.out (Nat.le_refl _)) (by omega) (by omega) da
    have cB := at15_any b ab lb cb i wr (rb.below HQ.out (Nat.le_refl _)) (by omega) (by omega) db
    have hx1 := da.at i
    have hx2 := db.at i
    generalize dg a i = x1 at *
    generalize dg b i = x2 at *
    have hown := HO.out
    by_cases hneg : x1 < x2 + c
    ·have HN1 := HN.out (x1 + 256 - x2 - c) 1 (by omega) (by omega) (by omega)
     have hs : (x1 : Int) - (x2 : Int) - (c : Int) < 0 := by omega
     have hs2 : (x1 : Int) - (x2 : Int) - (c : Int) + 256 = ((x1 + 256 - x2 - c : Nat) : Int) := by omega
     have hs9 : x1 + 256 - x2 - c < 256 := by omega
     generalize x1 + 256 - x2 - c = x at *
     clear HN
     go_wp2_with fail
     refine cA.mono ?_
     rintro e w' ⟨rfl, rfl⟩
     go_wp2_with fail
     refine cB.mono ?_
     rintro e w' ⟨rfl, rfl⟩
     clear cA cB
     go_wp2_with (at_builtin; refine wpList_append_own _ rfl _ _ 24 rfl w.heap.size 5 i0 (.int .u8 0) 1 1 Tryz.underlying24 hi0 hz0 hz1 hz2 rfl (by decide) _ _ _ rfl (hown.alloc _) ⟨wr.heap.size, 0, none⟩ 1 1 [.int .u8 (x : Int)] rfl rfl (cell_one_new _ _ _) (by intro u hu; simp at hu; subst hu; rfl) (by unfold maxLen; omega) (by omega) (by simp; omega) ?_)
     intro v' w1 hown' hgrow _
     have R := rel_push hsz hown HQ.out hown' hgrow
     rw [show nI o ++ [(x : Int)] = nI (o ++ [x]) from by simp [nI]] at R
     clear hown' hgrow
     go_wp2
     go_roundw
     case rel => exact ⟨i + 1, 1, o ++ [x], by omega, by go_num, by go_num, HN1, R.1, R.2⟩
     case measure => simp [intOf] <;> omega
    ·have HN1 := HN.out (x1 - x2 - c) 0 (by omega) (by omega) (by omega)
     have hs : ¬ (x1 : Int) - (x2 : Int) - (c : Int) < 0 := by omega
     have hs2 : (x1 : Int) - (x2 : Int) - (c : Int) = ((x1 - x2 - c : Nat) : Int) := by omega
     have hs9 : x1 - x2 - c < 256 := by omega
     generalize x1 - x2 - c = x at *
     clear HN
     go_wp2_with fail
     refine cA.mono ?_
     rintro e w' ⟨rfl, rfl⟩
     go_wp2_with fail
     refine cB.mono ?_
     rintro e w' ⟨rfl, rfl⟩
     clear cA cB
     go_wp2_with (at_builtin; refine wpList_append_own _ rfl _ _ 24 rfl w.heap.size 5 i0 (.int .u8 0) 1 1 Tryz.underlying24 hi0 hz0 hz1 hz2 rfl (by decide) _ _ _ rfl (hown.alloc _) ⟨wr.heap.size, 0, none⟩ 1 1 [.int .u8 (x : Int)] rfl rfl (cell_one_new _ _ _) (by intro u hu; simp at hu; subst hu; rfl) (by unfold maxLen; omega) (by omega) (by simp; omega) ?_)
     intro v' w1 hown' hgrow _
     have R := rel_push hsz hown HQ.out hown' hgrow
     rw [show nI o ++ [(x : Int)] = nI (o ++ [x]) from by simp [nI]] at R
     clear hown' hgrow
     go_wp2
     go_roundw
     case rel => exact ⟨i + 1, 0, o ++ [x], by omega, by go_num, by go_num, HN1, R.1, R.2⟩
     case measure => simp [intOf] <;> omega
   ·obtain rfl : i = la := by omega
    have HV : Hid (vL o = vL a - vL b) := HI.out.done da db HA.out HE.out
    obtain ⟨ao, co, rfl, ro⟩ := row_of_owns HO.out
    have cN := refNorm15_any o HI.out.dig ao i co wr ro (by omega)
    rw [HV.out] at cN
    clear hgo
    go_wp2_with fail
    refine cN.mono ?_
    rintro e w3 ⟨a3, c3, rfl, r3, q3⟩
    have q4 := HQ.out.trans (q3.mono HQ.out.size)
    go_wp2_with fail
    go_ret
    exact ⟨_, _, rfl, r3, q4⟩
end Go.Proofs.YthangiocheodoaaGreatDoor.N

/-
 Layer 15's reference: Mul.
-/
namespace Go.Proofs.YthangiocheodoaaGreatDoor.N
open Go.RowKit
set_option linter.unusedVariables false
set_option maxRecDepth 8192

theorem row_drewN {k : IntKind} {w : World} {a : Option Addr} {len cap : Nat} {zs : List Int} (h : Row k w a len cap zs) (n : Nat) : Row k (w.drewN n) a len cap zs := ⟨h.hlen, h.hcap, h.hmax, h.hnil, h.hcell⟩
set_option maxHeartbeats 3200000 in
theorem refMul15_any (a b : List Nat) (aa ab : Option Addr) (la ca lb cb : Nat) (w : World) (da : Dig a) (db : Dig b) (ha : Row .u8 w aa la ca (nI a)) (hb : Row .u8 w ab lb cb (nI b)) (hla : la ≤ 100000) (hlb : lb ≤ 100000) :
  Calls Tryz.prog 40 #[.slice aa la ca, .slice ab lb cb] w (Gives w (nb (vL a * vL b))) := by
 obtain ⟨i0, hi0, hz0, hz1, hz2⟩ := info_parts Tryz.info5
 have HA : Hid (a.length = la) := by have := ha.hlen; rwa [nI_length] at this
 have HBl : Hid (b.length = lb) := by have := hb.hlen; rwa [nI_length] at this
 have hmax : la + lb + 1 ≤ maxLen := by unfold maxLen; omega
 have hwr : IntKind.i64.wrap ((la : Int) + (lb : Int)) = ((la + lb : Nat) : Int) := by rw [IntKind.wrap_i64]; omega
 generalize hL : la + lb + 1 = L at *
 have hL9 : L ≤ 200001 := by omega
 go_enter Tryz.func40, Tryz.ntmps40
 go_wp2_with (at_make; refine wpList_make_full _ rfl _ _ 24 rfl w.heap.size 5 i0 (.int .u8 0) 1 Tryz.underlying24 hi0 hz0 hz1 _ _ _ _ L rfl rfl (by omega) (by omega) (by rw [hz2]; omega) hmax (Nat.le_refl _) ?_; intro w1 hown1 hgrow1)
 obtain ⟨A1, q1⟩ := made_arr hown1 hgrow1
 clear hown1 hgrow1
 have A2 : Arr w1 w.heap.size 5 .u8 (nI (List.replicate L 0)) := by simpa [nI] using A1
 clear A1
 go_wp2_with fail
 go_loopw [6] (fun y wr => ∃ (i : Nat) (out : List Nat), i ≤ la ∧ y = .int .i64 (i : Int) ∧ Hid (out.length = a.length + b.length + 1) ∧ Hid (Dig out) ∧ Hid (vL out = vTo (dg a) i * vL b) ∧ Hid (Arr wr w.heap.size 5 .u8 (nI out)) ∧ Hid (Below w.heap.size w wr)) (fun y _ => la - (intOf y).toNat)
 case atStart => exact ⟨0, List.replicate L 0, Nat.zero_le _, rfl, by rw [List.length_replicate, HA.out, HBl.out]; exact hL.symm, Dig.zero, by show _ = _; rw [vL_zero]; simp [vTo], A2, q1⟩
 case round =>
  clear A2 q1
  obtain ⟨i, o, hi, rfl, HOL, HOD, HOV, HO, HB⟩ := hrel
  by_cases hlt : i < la
  ·have HT0 : Hid (TimI a b o o i 0 0) := TimI.begin HOL.out HOD.out HOV.out
   go_wp2
   go_loopw [7, 8] (fun c y ws => ∃ (k cc : Nat) (out : List Nat), k ≤ L ∧ y = .int .i64 (k : Int) ∧ c = .int .i64 (cc : Int) ∧ Hid (TimI a b o out i k cc) ∧ Hid (Arr ws w.heap.size 5 .u8 (nI out)) ∧ Hid (Below w.heap.size w ws)) (fun _ y _ => L + 1 - (intOf y).toNat)
   case atStart => exact ⟨0, 0, o, Nat.zero_le _, rfl, rfl, HT0, HO, HB⟩
   case round =>
    clear HOL HOD HOV HO HB HT0
    obtain ⟨k, c, out, hk, rfl, rfl, HT, HO, HB⟩ := hrel
    have hcl := HT.out.clt
    by_cases hgo : k < lb ∨ 0 < c
    ·have hroom := HT.out.room da db (by rw [HA.out]; exact hlt) (by rw [HBl.out]; exact hgo)
     rw [HA.out, HBl.out, hL] at hroom
     have hik := hroom.1
     clear hroom
     have hik' : (i : Int) + (k : Int) < (L : Int) := by omega
     have HN : Hid (∀ x, x = dg out (i + k) + c + dg a i * dg b k → TimI a b o (out.set (i + k) (x % 256)) i (k + 1) (x / 256)) := fun x hx => HT.out.next da db (by rw [HA.out, HBl.out, hL]; exact hik) hx
     have HOL : Hid (out.length = L) := by show _ = _; rw [HT.out.len, HA.out, HBl.out, hL]
     have hcell := HO.out.cell (i + k) (by rw [nI_length, HOL.out]; exact hik)
     rw [nI_dg] at hcell
     have hfz := HO.out.unfrozen (i + k)
     have HS : Hid (∀ x : Nat, Arr (wr.setCell ⟨w.heap.size, i + k, none⟩ (.int .u8 ((x % 256 : Nat) : Int))) w.heap.size 5 .u8 (nI (out.set (i + k) (x % 256)))) := fun x => by
      have := HO.out.set (by rw [nI_length, HOL.out]; exact hmax) (i + k) ((x % 256 : Nat) : Int)
      rwa [nI_set] at this
     obtain ⟨bA, oA, rfl, hbA, hcA⟩ := (ha.below HB.out (Nat.le_refl _)).hcell (by omega)
     have hcA1 := hcA i hlt
     clear hcA
     rw [nI_dg] at hcA1
     have b1 := da.at i
     have b2 := db.at k
     have b3 := HT.out.dig.at (i + k)
     have hrb := hb.below HB.out (Nat.le_refl _)
     have cB := fun n => at15_any b ab lb cb k (wr.drewN n) (row_drewN hrb n) (by omega) (by omega) db
     have eik : IntKind.i64.wrap ((i : Int) + (k : Int)) = ((i + k : Nat) : Int) := by rw [IntKind.wrap_i64]; omega
     have eik2 : (i : Int) + (k : Int) = ((i + k : Nat) : Int) := by omega
     have hp := Nat.mul_le_mul (show dg a i ≤ 255 by omega) (show dg b k ≤ 255 by omega)
     generalize dg a i = x1 at *
     generalize dg b k = x2 at *
     generalize dg out (i + k) = x3 at *
     have hm : (x1 : Int) * (x2 : Int) = ((x1 * x2 : Nat) : Int) := (Int.natCast_mul x1 x2).symm
     generalize x1 * x2 = xx at *
     have hs : (x3 : Int) + (xx : Int) + (c : Int) = ((x3 + xx + c : Nat) : Int) := by omega
     have HN1 := HN.out (x3 + xx + c) (by omega)
     have HS1 := HS.out (x3 + xx + c)
     have hs9 : x3 + xx + c < 70000 := by omega
     generalize x3 + xx + c = x at *
     rw [show ((x % 256 : Nat) : Int) = (x : Int) % 256 from by omega] at HS1
     generalize hikk : i + k = ik at *
     have HIK : Hid (i + k = ik) := hikk
     clear hikk
     have hgo2 : (k : Int) < (lb : Int) ∨ ¬ (k : Int) < (lb : Int) ∧ (0 : Int) < (c : Int) := by omega
     clear HN HS hgo
     rcases hgo2 with h1 | ⟨h1, h2⟩
     all_goals
      go_wp2_with fail
      go_quiet (first | (go_at_call 73; with_reducible exact quiet_eq (cB _)))
      go_wp2
      go_roundw
      case rel => exact ⟨k + 1, x / 256, out.set ik (x % 256), by omega, by go_num, by go_num, HN1, HS1, (belowN HB.out _).setCell (Nat.le_refl _) _⟩
      case measure => simp [intOf] <;> omega
    ·obtain rfl : c = 0 := by omega
     have hge : lb ≤ k := by omega
     have HV : Hid (vL out = vTo (dg a) (i + 1) * vL b) := HT.out.done (by rw [HBl.out]; exact hge)
     have HOL : Hid (out.length = a.length + b.length + 1) := HT.out.len
     have HOD : Hid (Dig out) := HT.out.dig
     clear HT hgo
     have hlb' : ¬ (k : Int) < (lb : Int) := by omega
     go_wp2
     go_roundw
     case rel => exact ⟨i + 1, out, by omega, by go_num, HOL, HOD, HV, HO, HB⟩
     case measure => simp [intOf]; omega
  ·obtain rfl : i = la := by omega
   have HV : Hid (vL o = vL a * vL b) := by
    show _ = _
    rw [HOV.out, show vTo (dg a) i = vL a from by unfold vL; rw [HA.out]]
   have HOL2 : Hid (o.length = L) := by show _ = _; rw [HOL.out, HA.out, HBl.out, hL]
   have ro := HO.out.win 0 L L (by rw [nI_length, HOL2.out]; omega) (Nat.le_refl _) hmax
   rw [List.drop_zero, List.take_of_length_le (by rw [nI_length, HOL2.out]; exact Nat.le_refl _)] at ro
   have cN := refNorm15_any o HOD.out (some ⟨w.heap.size, 0, none⟩) L L wr ro (by omega)
   rw [HV.out] at cN
   go_wp2_with fail
   refine cN.mono ?_
   rintro e w3 ⟨a3, c3, rfl, r3, q3⟩
   have q4 := HB.out.trans (q3.mono HB.out.size)
   go_wp2_with fail
   go_ret
   exact ⟨_, _, rfl, r3, q4⟩
end Go.Proofs.YthangiocheodoaaGreatDoor.N

/-
 Layer 15's reference: Mod.
-/
namespace Go.Proofs.YthangiocheodoaaGreatDoor.N
open Go.RowKit
set_option linter.unusedVariables false
set_option maxRecDepth 8192

theorem half_rest {r M j : Nat} (hM : 0 < M) : (if M * 2 ^ j ≤ r % (M * 2 ^ (j + 1)) then r % (M * 2 ^ (j + 1)) - M * 2 ^ j else r % (M * 2 ^ (j + 1))) = r % (M * 2 ^ j) := by
 have hD : 0 < M * 2 ^ j := Nat.mul_pos hM (Nat.two_pow_pos j)
 have e : M * 2 ^ (j + 1) = M * 2 ^ j * 2 := by rw [Nat.pow_succ, Nat.mul_assoc]
 have h1 : r % (M * 2 ^ (j + 1)) % (M * 2 ^ j) = r % (M * 2 ^ j) := Nat.mod_mod_of_dvd _ ⟨2, e⟩
 have h2 : r % (M * 2 ^ (j + 1)) < M * 2 ^ (j + 1) := Nat.mod_lt _ (by rw [e]; omega)
 rw [← h1]
 generalize r % (M * 2 ^ (j + 1)) = s at *
 rw [e] at h2
 generalize M * 2 ^ j = D at *
 split
 ·rename_i h
  rw [Nat.mod_eq_sub_mod h, Nat.mod_eq_of_lt (by omega)]
 ·rename_i h
  rw [Nat.mod_eq_of_lt (by omega)]
theorem rest_next {A M i : Nat} : (A / 256 ^ (i + 1) % M * 256 + A / 256 ^ i % 256) % M = A / 256 ^ i % M := by
 have e : A / 256 ^ i = A / 256 ^ (i + 1) * 256 + A / 256 ^ i % 256 := by
  rw [Nat.pow_succ, ← Nat.div_div_eq_div_mul]
  omega
 conv => rhs; rw [e]
 rw [Nat.add_mod, Nat.mul_mod, Nat.mod_mod, ← Nat.mul_mod, ← Nat.add_mod]
theorem rest_lt {A M i : Nat} (hM : 0 < M) : A / 256 ^ (i + 1) % M * 256 + A / 256 ^ i % 256 < M * 2 ^ 8 := by
 have h1 := Nat.mod_lt (A / 256 ^ (i + 1)) hM
 have h2 := Nat.mod_lt (A / 256 ^ i) (show 0 < 256 by decide)
 show _ < M * 256
 omega
theorem vL_cons (x : Nat) (l : List Nat) : vL (x :: l) = x + 256 * vL l := by
 have e : ∀ n, vTo (dg (x :: l)) (n + 1) = x + 256 * vTo (dg l) n := by
  intro n
  induction n with
  | zero => simp [vTo, dg]
  | succ n ih =>
   rw [show vTo (dg (x :: l)) (n + 1 + 1) = vTo (dg (x :: l)) (n + 1) + dg (x :: l) (n + 1) * 256 ^ (n + 1) from rfl, ih]
   rw [show vTo (dg l) (n + 1) = vTo (dg l) n + dg l n * 256 ^ n from rfl, Nat.mul_add, show dg (x :: l) (n + 1) = dg l n from by simp [dg], Nat.pow_succ, Nat.add_assoc]
   congr 2
   simp only [Nat.mul_comm, Nat.mul_assoc]
 exact e l.length
set_option maxHeartbeats 3200000 in
theorem refMod15_any (a b : List Nat) (aa ab : Option Addr) (la ca lb cb : Nat) (w : World) (da : Dig a) (db : Dig b) (ra : Row .u8 w aa la ca (nI a)) (rb : Row .u8 w ab lb cb (nI b)) (hla : la ≤ 10000) (hlb : lb ≤ 10000) (h0 : vL b ≠ 0) :
  Calls Tryz.prog 71 #[.slice aa la ca, .slice ab lb cb] w (Gives w (nb (vL a % vL b))) := by
 obtain ⟨i0, hi0, hz0, hz1, hz2⟩ := info_parts Tryz.info5
 have HA : Hid (a.length = la) := by have := ra.hlen; rwa [nI_length] at this
 have HBl : Hid (b.length = lb) := by have := rb.hlen; rwa [nI_length] at this
 have HM : Hid (0 < vL b) := Nat.pos_of_ne_zero h0
 have hbl : vL b < 256 ^ lb := by rw [← HBl.out]; exact db.vL_lt
 have HML : Hid (∀ r, r < vL b * 2 ^ 8 → (nb r).length ≤ lb + 1) := fun r hr => nb_len (by rw [Nat.pow_succ]; show _ < 256 ^ lb * 256; have : vL b * 2 ^ 8 = vL b * 256 := rfl; omega)
 have HEnd : Hid (vL a / 256 ^ 0 % vL b = vL a % vL b) := by show _ = _; rw [Nat.pow_zero, Nat.div_one]
 have HStart : Hid (vL a / 256 ^ la % vL b = 0) := by
  show _ = _
  rw [Nat.div_eq_of_lt (by rw [← HA.out]; exact da.vL_lt), Nat.zero_mod]
 clear h0 hbl
 go_enter Tryz.func71, Tryz.ntmps71
 go_wp2
 go_loopw [5, 6] (fun v y wr => ∃ (i cr : Nat) (ar : Option Addr), i ≤ la ∧ y = .int .i64 ((i : Int) - 1) ∧ v = .slice ar (nb (vL a / 256 ^ i % vL b)).length cr ∧ Hid (Row .u8 wr ar (nb (vL a / 256 ^ i % vL b)).length cr (nI (nb (vL a / 256 ^ i % vL b)))) ∧ Hid (Below w.heap.size w wr)) (fun _ y _ => (intOf y + 1).toNat)
 case atStart =>
  refine ⟨la, 0, none, Nat.le_refl _, by go_num, ?_, ?_, Below.refl _ _⟩
  ·rw [HStart.out, nb_zero]; rfl
  ·rw [HStart.out, nb_zero]
   exact ⟨rfl, Nat.le_refl _, Nat.zero_le _, fun _ => rfl, fun h => absurd h (by simp)⟩
 case round =>
  obtain ⟨i, cr, ar, hi, rfl, rfl, HR, HB⟩ := hrel
  by_cases hi0' : i = 0
  ·subst hi0'
   have R := HR.out
   rw [HEnd.out] at R ⊢
   go_wp2
   go_ret
   exact ⟨_, _, rfl, R, HB.out⟩
  ·obtain ⟨j, rfl⟩ : ∃ j, i = j + 1 := ⟨i - 1, by omega⟩
   have ek : (((j + 1 : Nat) : Int) - 1) = (j : Int) := by omega
   rw [ek]
   clear ek hi0'
   obtain ⟨bA, oA, rfl, hbA, hcA⟩ := (ra.below HB.out (Nat.le_refl _)).hcell (by omega)
   have hcA1 := hcA j (by omega)
   clear hcA
   rw [nI_dg] at hcA1
   have hda := da.at j
   have HD : Hid (dg a j = vL a / 256 ^ j % 256) := dg_of da j
   obtain ⟨s, hs⟩ : ∃ s, s = vL a / 256 ^ (j + 1) % vL b := ⟨_, rfl⟩
   have hsM : s < vL b := by rw [hs]; exact Nat.mod_lt _ HM.out
   have HRN : Hid ((s * 256 + dg a j) % vL b = vL a / 256 ^ j % vL b) := by show _ = _; rw [HD.out, hs]; exact rest_next
   have HRL : Hid (s * 256 + dg a j < vL b * 2 ^ 8) := by show _ < _; rw [HD.out, hs]; exact rest_lt HM.out
   rw [← hs] at HR ⊢
   have HSL : Hid ((nb s).length ≤ lb + 1) := HML.out s (by show _ < vL b * 256; omega)
   clear hs HD
   have HDC : Hid (Dig (dg a j :: nb s)) := fun x hx => by
    rcases List.mem_cons.1 hx with rfl | hx
    ·exact hda
    ·exact dig_nb s x hx
   have HVC : Hid (vL (dg a j :: nb s) = s * 256 + dg a j) := by show _ = _; rw [vL_cons, vL_nb]; omega
   obtain ⟨n, hn⟩ : ∃ n, (nb s).length = n := ⟨_, rfl⟩
   have HNL : Hid ((nb s).length = n) := hn
   rw [hn] at HR HSL ⊢
   clear hn
   generalize hdd : dg a j = d at *
   have hsl := HSL.out
   have hown : (wr.alloc (.cells #[.int .u8 (d : Int)] 5)).ownsRow wr.heap.size 5 1 (.slice (some ⟨wr.heap.size, 0, none⟩) 1 1) 1 [.int .u8 (d : Int)] := World.ownsRow_lit (base := wr.heap.size) (e := 5) (size := 1) wr #[.int .u8 (d : Int)] 1 (Nat.le_refl _) (by decide) (by simp)
   have hrr := HR.out.below (below_one wr (.cells #[.int .u8 (d : Int)] 5)) (Nat.le_refl _)
   go_wp2_with (at_builtin; refine wpList_append_row _ rfl _ _ 24 rfl wr.heap.size 5 i0 (.int .u8 0) 1 Tryz.underlying24 hi0 hz0 hz1 hz2 rfl _ 1 [.int .u8 (d : Int)] rfl hown .u8 ar n cr _ rfl hrr (by unfold maxLen; omega) (by omega) (by simp) ?_)
   intro v' w2 hown2 hgrow2
   have q2 : Below wr.heap.size wr w2 := (below_one wr _).grown hgrow2 (by simp) (fun jj hj => by simp [Value.ownBlock] at hj; omega)
   obtain ⟨a2, c2, rfl, r2⟩ := row_of_owns (zs := nI (d :: nb s)) (k := .u8) (by simpa [nI] using hown2)
   clear hown2 hgrow2 hown hrr
   have cN := refNorm15_any (d :: nb s) HDC.out a2 (1 + n) c2 w2 r2 (by omega)
   rw [HVC.out] at cN
   have q02 : Below w.heap.size w w2 := HB.out.trans (q2.mono HB.out.size)
   go_wp2_with fail
   refine cN.mono ?_
   rintro e w3 ⟨a3, c3, rfl, r3, q3⟩
   have q03 : Below w.heap.size w w3 := q02.trans (q3.mono q02.size)
   clear cN HR HB q2 q3 q02 r2 HDC HVC HNL
   obtain ⟨r, hr⟩ : ∃ r, s * 256 + d = r := ⟨_, rfl⟩
   rw [hr] at HRN HRL r3 ⊢
   clear hr
   go_wp2_with fail
   go_loopw [5, 8] (fun v y wr => ∃ (k cr : Nat) (ar : Option Addr), k ≤ 8 ∧ y = .int .i64 ((2 ^ k / 2 : Nat) : Int) ∧ v = .slice ar (nb (r % (vL b * 2 ^ k))).length cr ∧ Hid (Row .u8 wr ar (nb (r % (vL b * 2 ^ k))).length cr (nI (nb (r % (vL b * 2 ^ k))))) ∧ Hid (Below w.heap.size w wr)) (fun _ y _ => (intOf y).toNat)
   case atStart =>
    refine ⟨8, c3, a3, Nat.le_refl _, by rfl, ?_, ?_, q03⟩
    ·rw [Nat.mod_eq_of_lt HRL.out]
    ·rw [Nat.mod_eq_of_lt HRL.out]; exact r3
   case round =>
    clear r3 q03
    obtain ⟨k, cr, ar, hk, rfl, rfl, HR, HB⟩ := hrel
    by_cases hk0 : k = 0
    ·subst hk0
     have HE : Hid (r % (vL b * 2 ^ 0) = vL a / 256 ^ j % vL b) := by show _ = _; rw [Nat.pow_zero, Nat.mul_one]; exact HRN.out
     rw [HE.out] at HR ⊢
     rw [show ((2 ^ 0 / 2 : Nat) : Int) = 0 from rfl]
     go_wp2
     go_roundw
     case rel => exact ⟨j, cr, ar, by omega, by go_num, rfl, HR, HB⟩
     case measure => simp [intOf] <;> omega
    ·obtain ⟨m, rfl⟩ : ∃ m, k = m + 1 := ⟨k - 1, by omega⟩
     have HH := half_rest (r := r) (j := m) HM.out
     have e2 : 2 ^ (m + 1) / 2 = 2 ^ m := by rw [Nat.pow_succ, Nat.mul_div_cancel _ (by decide)]
     rw [e2]
     have hW1 : 1 ≤ 2 ^ m := Nat.two_pow_pos m
     have hW2 : 2 ^ m ≤ 128 := Nat.pow_le_pow_right (n := 2) (j := 7) (by decide) (by omega)
     have HX : Hid ((nb (r % (vL b * 2 ^ (m + 1)))).length ≤ lb + 1) := HML.out _ (Nat.lt_of_le_of_lt (Nat.mod_le _ _) HRL.out)
     have HY : Hid ((nb (vL b * 2 ^ m)).length ≤ lb + 1) := HML.out _ (by
      have := Nat.mul_le_mul_left (vL b) hW2
      have := HM.out
      show _ < vL b * 256
      omega)
     have HVW : Hid (vL [2 ^ m] = 2 ^ m) := by show _ = _; simp [vL, vTo, dg]
     have HDW : Hid (Dig [2 ^ m]) := fun x hx => by rw [List.mem_singleton.1 hx]; omega
     have HW3 : Hid (∃ W, 2 ^ m = W) := ⟨_, rfl⟩
     obtain ⟨X, hX⟩ : ∃ X, r % (vL b * 2 ^ (m + 1)) = X := ⟨_, rfl⟩
     obtain ⟨Z, hZ⟩ : ∃ Z, r % (vL b * 2 ^ m) = Z := ⟨_, rfl⟩
     have HZ : Hid (r % (vL b * 2 ^ m) = Z) := hZ
     have HN : Hid (∀ (w' : World) (ar : Option Addr) (cr : Nat), (Row .u8 w' ar (nb (if vL b * 2 ^ m ≤ X then X - vL b * 2 ^ m else X)).length cr (nI (nb (if vL b * 2 ^ m ≤ X then X - vL b * 2 ^ m else X)))) → (Row .u8 w' ar (nb Z).length cr (nI (nb Z))) ∧ (nb Z).length = (nb (if vL b * 2 ^ m ≤ X then X - vL b * 2 ^ m else X)).length) := fun w' ar cr h => by
      rw [hX, hZ] at HH
      rw [← HH]
      exact ⟨h, rfl⟩
     rw [hX] at HR HX ⊢
     clear HH hX hZ e2 hk0
     have cM := fun a2 c2 w' ra2 rb2 => refMul15_any b [2 ^ m] ab a2 lb cb 1 c2 w' db HDW.out ra2 rb2 (by omega) (by omega)
     rw [HVW.out] at cM
     obtain ⟨Y, hY⟩ : ∃ Y, vL b * 2 ^ m = Y := ⟨_, rfl⟩
     rw [hY] at cM HN HY
     have HW4 : Hid (nI [2 ^ m] = [((2 ^ m : Nat) : Int)]) := rfl
     obtain ⟨W, hW⟩ : ∃ W, 2 ^ m = W := ⟨_, rfl⟩
     have HWM : Hid (W / 2 = 2 ^ m / 2) := by show _ = _; rw [hW]
     rw [hW] at cM HW4 hW1 hW2 ⊢
     clear hW hY HW3 HVW HDW
     have rl := row_new .u8 wr 5 wr.heap.size rfl [(W : Int)] 1 rfl (by decide) #[.int .u8 (W : Int)] rfl
     rw [← HW4.out] at rl
     have ql := below_one wr (.cells #[.int .u8 (W : Int)] 5)
     have cM1 := cM (some ⟨wr.heap.size, 0, none⟩) 1 (wr.alloc (.cells #[.int .u8 (W : Int)] 5)) ((rb.below HB.out (Nat.le_refl _)).below ql (Nat.le_refl _)) rl
     have hp1 : (0 : Int) < (W : Int) := by omega
     go_wp2_with fail
     refine cM1.mono ?_
     rintro e w4 ⟨a4, c4, rfl, r4, q4⟩
     replace q4 := btrans ql q4
     clear cM cM1 rl ql HW4
     have q04 : Below w.heap.size w w4 := HB.out.trans (q4.mono HB.out.size)
     have rx4 := HR.out.below q4 (Nat.le_refl _)
     have cK := refCmp15_any (nb X) (nb Y) ar a4 (nb X).length cr (nb Y).length c4 w4 (dig_nb X) (dig_nb Y) rx4 r4 (by have := HX.out; omega) (by have := HY.out; omega)
     rw [vL_nb, vL_nb] at cK
     have hcl := cmp_bounds X Y
     have hcg : 0 ≤ cmpN X Y ↔ Y ≤ X := by
      unfold cmpN
      split
      ·omega
      ·split <;> omega
     generalize cmpN X Y = cc at *
     clear HR HB q4
     by_cases hge : Y ≤ X
     ·have hc0 : 0 ≤ cc := hcg.2 hge
      have cS := refSub15_any (nb X) (nb Y) ar a4 (nb X).length cr (nb Y).length c4 w4 (dig_nb X) (dig_nb Y) rx4 r4 (by have := HX.out; omega) (by have := HY.out; omega)
      rw [vL_nb, vL_nb] at cS
      have HN2 : Hid (∀ (w' : World) (ar : Option Addr) (cr : Nat), (Row .u8 w' ar (nb (X - Y)).length cr (nI (nb (X - Y)))) → (Row .u8 w' ar (nb Z).length cr (nI (nb Z))) ∧ (nb Z).length = (nb (X - Y)).length) := by
       have := HN.out
       rwa [if_pos hge] at this
      clear HN hcg hge
      generalize nb X = zX at *
      generalize nb Y = zY at *
      generalize nb (X - Y) = zD at *
      go_wp2_with fail
      refine cK.mono ?_
      rintro e w' ⟨rfl, rfl⟩
      go_wp2_with fail
      refine cS.mono ?_
      rintro e w5 ⟨a5, c5, rfl, r5, q5⟩
      have q05 : Below w.heap.size w w5 := q04.trans (q5.mono q04.size)
      have R := HN2.out w5 a5 c5 r5
      clear cK cS HN2
      go_wp2
      go_roundw
      case rel => exact ⟨m, c5, a5, by omega, by rw [← HWM.out]; go_num, by rw [HZ.out, R.2], by rw [HZ.out]; exact R.1, q05⟩
      case measure => simp [intOf] <;> omega
     ·have hc0 : ¬ 0 ≤ cc := fun h => hge (hcg.1 h)
      have HN2 : Hid (∀ (w' : World) (ar : Option Addr) (cr : Nat), (Row .u8 w' ar (nb X).length cr (nI (nb X))) → (Row .u8 w' ar (nb Z).length cr (nI (nb Z))) ∧ (nb Z).length = (nb X).length) := by
       have := HN.out
       rwa [if_neg hge] at this
      have R := HN2.out w4 ar cr rx4
      clear HN hcg hge HN2
      generalize nb X = zX at *
      generalize nb Y = zY at *
      go_wp2_with fail
      refine cK.mono ?_
      rintro e w' ⟨rfl, rfl⟩
      clear cK
      go_wp2
      go_roundw
      case rel => exact ⟨m, cr, ar, by omega, by rw [← HWM.out]; go_num, by rw [HZ.out, R.2], by rw [HZ.out]; exact R.1, q04⟩
      case measure => simp [intOf] <;> omega
end Go.Proofs.YthangiocheodoaaGreatDoor.N
