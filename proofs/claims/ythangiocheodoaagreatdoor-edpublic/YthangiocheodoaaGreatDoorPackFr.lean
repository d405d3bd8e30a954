/-
 Layer 16's reference: P, Full, Round.
-/
import Derived.Test.YthangiocheodoaaGreatDoorPackFb
import Derived.Test.YthangiocheodoaaGreatDoorPackNr
import Derived.Deep.LoopGhost
namespace Go.Proofs.YthangiocheodoaaGreatDoor.N
open Go.RowKit
set_option linter.unusedVariables false
set_option maxRecDepth 8192

/-- The bytes of p. -/
def pL : List Nat := 237 :: (List.replicate 30 255 ++ [127])
theorem pL_dig : Dig pL := by unfold Dig pL; decide
theorem pL_val : vL pL = fP := by decide +kernel
theorem nb_fP : nb fP = pL := nb_of ⟨pL_dig, fun _ => by decide⟩ pL_val
theorem pL_length : pL.length = 32 := by decide
/-- What is laid from the front on, noughts behind it. -/
def fillQ (L : List Nat) (n k : Nat) : List Nat := L.take k ++ List.replicate (n - k) 0
theorem fillQ_next {L : List Nat} {n k : Nat} (hL : L.length = n) (hk : k < n) : (fillQ L n k).set k (dg L k) = fillQ L n (k + 1) := by
 unfold fillQ dg
 have hl : (L.take k).length = k := by simp; omega
 rw [List.set_append_right _ _ (by omega), hl, Nat.sub_self, List.take_add_one, List.getElem?_eq_getElem (show k < L.length by omega), show n - k = (n - (k + 1)) + 1 from by omega, List.replicate_succ, List.set_cons_zero, List.append_assoc]
 rfl
def slLen : Value → Nat
 | .slice _ n _ => n
 | _ => 0
set_option maxHeartbeats 1600000 in
theorem refP_any (w : World) : Calls Tryz.prog 106 #[] w (Gives w (nb fP)) := by
 obtain ⟨i0, hi0, hz0, hz1, hz2⟩ := info_parts Tryz.info5
 have hown0 := World.ownsRow_lit (base := w.heap.size) (e := 5) (size := 1) w #[.int .u8 237] 1 (Nat.le_refl _) (by decide) rfl
 have q0 := below_one w (.cells #[.int .u8 237] 5)
 go_enter Tryz.func106, Tryz.ntmps106
 go_wp2
 go_loopw [1] (fun v wr => ∃ k : Nat, k ≤ 30 ∧ Hid (wr.ownsRow w.heap.size 5 1 v (k + 1) ((nI (237 :: List.replicate k 255)).map (Value.int .u8))) ∧ Hid (Below w.heap.size w wr)) (fun v _ => 31 - slLen v)
 case atStart => exact ⟨0, by omega, hown0, q0⟩
 case round =>
  clear hown0 q0
  obtain ⟨k, hk, HO, HQ⟩ := hrel
  have hsz : w.heap.size ≤ wr.heap.size := HQ.out.size
  obtain ⟨ao, co, rfl, ro⟩ := row_of_owns HO.out
  have hown := HO.out
  by_cases hlt : k < 30
  ·have hl : ((k + 1 : Nat) : Int) < 31 := by omega
   go_wp2_with (at_builtin; refine wpList_append_own _ rfl _ _ 24 rfl w.heap.size 5 i0 (.int .u8 0) 1 1 Tryz.underlying24 hi0 hz0 hz1 hz2 rfl (by decide) _ _ _ rfl (hown.alloc _) ⟨wr.heap.size, 0, none⟩ 1 1 [.int .u8 255] rfl rfl (cell_one_new _ _ _) (by intro u hu; simp at hu; subst hu; rfl) (by unfold maxLen; omega) (by omega) (by simp; omega) ?_)
   intro v' w1 hown' hgrow _
   have R := rel_push hsz hown HQ.out hown' hgrow
   rw [show nI (237 :: List.replicate k 255) ++ [(255 : Int)] = nI (237 :: List.replicate (k + 1) 255) from by rw [List.replicate_succ']; simp [nI]] at R
   clear hown' hgrow
   obtain ⟨a1, c1, rfl, _⟩ := row_of_owns R.1
   go_wp2
   go_roundw
   case rel => exact ⟨k + 1, by omega, R.1, R.2⟩
   case measure => simp [slLen]; omega
  ·obtain rfl : k = 30 := by omega
   go_wp2_with (at_builtin; refine wpList_append_own _ rfl _ _ 24 rfl w.heap.size 5 i0 (.int .u8 0) 1 1 Tryz.underlying24 hi0 hz0 hz1 hz2 rfl (by decide) _ _ _ rfl (hown.alloc _) ⟨wr.heap.size, 0, none⟩ 1 1 [.int .u8 127] rfl rfl (cell_one_new _ _ _) (by intro u hu; simp at hu; subst hu; rfl) (by unfold maxLen; omega) (by omega) (by simp; omega) ?_)
   intro v' w1 hown' hgrow _
   have R := rel_push hsz hown HQ.out hown' hgrow
   rw [show nI (237 :: List.replicate 30 255) ++ [(127 : Int)] = nI pL from rfl] at R
   clear hown' hgrow
   obtain ⟨a1, c1, rfl, r1⟩ := row_of_owns R.1
   have HR := R.2
   go_wp2
   go_ret
   unfold Gives
   rw [nb_fP, pL_length]
   exact ⟨_, _, rfl, r1, HR⟩
theorem fill_tail {v n : Nat} (hv : v < 256 ^ n) (hn : n ≤ 32) : arr .u8 (fillQ (digL v 32) 32 n) = bA v := by
 rw [bA_def]
 congr 1
 apply list_dg
 ·simp [fillQ, digL_length]; omega
 ·intro i
  unfold fillQ
  rcases Nat.lt_or_ge i n with h | h
  ·unfold dg
   rw [List.getElem?_append_left (by rw [List.length_take, digL_length]; omega), List.getElem?_take, if_pos h]
  ·have e1 : dg ((digL v 32).take n ++ List.replicate (32 - n) 0) i = 0 := by
    unfold dg
    rw [List.getElem?_append_right (by rw [List.length_take, digL_length]; omega), List.getElem?_replicate]
    split <;> rfl
   rw [e1]
   rcases Nat.lt_or_ge i 32 with h2 | h2
   ·rw [dg_digL h2, Nat.div_eq_of_lt (Nat.lt_of_lt_of_le hv (Nat.pow_le_pow_right (by decide) h))]
   ·rw [dg_past (by rw [digL_length]; exact h2)]
set_option maxHeartbeats 1600000 in
theorem refFull_any (z : List Nat) (dz : Dig z) (a : Option Addr) (len cap : Nat) (w : World) (hr : Row .u8 w a len cap (nI z)) (hl : len ≤ 32) :
  Calls Tryz.prog 70 #[.slice a len cap] w fun e w' => e = .returned (.agg (bA (vL z))) ∧ Below w.heap.size w w' := by
 have HL : Hid (z.length = len) := by have := hr.hlen; rwa [nI_length] at this
 have HD : Hid (Dig z) := dz
 clear dz
 have V0 := Vars.start w
 go_enter Tryz.func70, Tryz.ntmps70
 go_wp2_with (first
  | (refine zA V0 2 rfl rfl rfl ?_; intro w2 g2 V2)
  | (refine wpList_allocV V2 3 22 rfl rfl rfl _ zeroB32 ?_; intro w3 g3 V3))
 clear V0 V2
 go_loopw [4] (fun y wr => ∃ k : Nat, k ≤ len ∧ y = .int .i64 (k : Int) ∧ Hid (Vars w wr [⟨g3, 22, arr .u8 (fillQ (digL (vL z) 32) 32 k)⟩, ⟨g2, 22, bA 0⟩])) (fun y _ => len - (intOf y).toNat)
 case atStart => exact ⟨0, by omega, rfl, by rw [show fillQ (digL (vL z) 32) 32 0 = List.replicate 32 0 from by simp [fillQ]]; exact V3⟩
 case round =>
  clear V3
  obtain ⟨k, hk, rfl, HV⟩ := hrel
  by_cases hlt : k < len
  ·have V4 := HV.out
   obtain ⟨b, off, rfl, hbs, hcell⟩ := (hr.below V4.bel (Nat.le_refl _)).hcell (by omega)
   have hc1 := hcell k hlt
   rw [nI_dg] at hc1
   clear hcell
   have hx9 := HD.out.at k
   have hc2 := arr_cell (V4.at 0 rfl) k (by simp [fillQ, digL_length]; omega)
   have hfz := arr_unfrozen (V4.at 0 rfl) k
   generalize (fillQ (digL (vL z) 32) 32 k)[k]?.getD 0 = old at *
   have V5 := V4.setc 0 rfl k (dg z k)
   have e5 : (fillQ (digL (vL z) 32) 32 k).set k (dg z k) = fillQ (digL (vL z) 32) 32 (k + 1) := by
    rw [dg_of HD.out k, ← dg_digL (x := vL z) (n := 32) (by omega)]
    exact fillQ_next (digL_length _ _) (by omega)
   rw [e5] at V5
   have HV5 : Hid (Vars w (wr.setCell ⟨g3, k, none⟩ (.int .u8 ((dg z k : Nat) : Int))) [⟨g3, 22, arr .u8 (fillQ (digL (vL z) 32) 32 (k + 1))⟩, ⟨g2, 22, bA 0⟩]) := V5
   clear V4 V5 e5
   generalize dg z k = x at *
   have hk32 : (k : Int) < 32 := by omega
   go_wp2
   go_roundw
   case rel => exact ⟨k + 1, by omega, by go_num, HV5⟩
   case measure => simp [intOf]; omega
  ·obtain rfl : k = len := by omega
   have HE : Hid (arr .u8 (fillQ (digL (vL z) 32) 32 k) = bA (vL z)) := fill_tail (by have := HD.out.vL_lt; rwa [HL.out] at this) hl
   have V4 := HV.out
   rw [HE.out] at V4
   have hk0 : ¬ (k : Int) < (k : Int) := by omega
   go_wp2_with (first
    | (refine zD V4 0 rfl 21 _ rfl rfl rfl rfl ?_)
    | (refine wpList_storeV V4 1 rfl _ _ rfl rfl rfl _ rfl rfl Tryz.szB (bA_size _) (bA_size _) (bA_one _) ?_; intro w5 V5))
   exact bodyPost_ret (resV1 rfl _ V5 1 rfl rfl Tryz.underlying22 Tryz.szB (bA_size _)) rfl ⟨rfl, V5.bel⟩
end Go.Proofs.YthangiocheodoaaGreatDoor.N

/-
 Layer 16's reference: Round.
-/
namespace Go.Proofs.YthangiocheodoaaGreatDoor.N
open Go.RowKit
set_option linter.unusedVariables false
set_option maxRecDepth 8192

theorem pow31 : (256 : Nat) ^ 31 * 128 = 2 ^ 255 := by decide
/-- What a round of Round makes of a number. -/
def foldN (v : Nat) : Nat := v % 2 ^ 255 + v / 2 ^ 255 * 19
theorem foldN_mod (v : Nat) : foldN v % fP = v % fP := by
 have e : v = foldN v + fP * (v / 2 ^ 255) := by
  unfold foldN
  have h1 := Nat.div_add_mod v (2 ^ 255)
  have h2 : fP * (v / 2 ^ 255) + 19 * (v / 2 ^ 255) = 2 ^ 255 * (v / 2 ^ 255) := by rw [← Nat.add_mul, show fP + 19 = 2 ^ 255 from by have := fP_eq; omega]
  generalize fP * (v / 2 ^ 255) = x at *
  generalize v / 2 ^ 255 = y at *
  omega
 conv => rhs; rw [e, Nat.add_mul_mod_self_left]
theorem foldN_lt {v : Nat} (h : 2 ^ 255 ≤ v) : foldN v < v := by
 unfold foldN
 have h1 := Nat.div_add_mod v (2 ^ 255)
 have h2 : 1 ≤ v / 2 ^ 255 := (Nat.le_div_iff_mul_le (by decide)).2 (by omega)
 generalize v / 2 ^ 255 = y at *
 omega
/-- Normal bytes: 32 of them and more, or the last one great, just if the number is 2^255 or more. -/
theorem nb_great (v : Nat) : 2 ^ 255 ≤ v ↔ (32 < (nb v).length ∨ (nb v).length = 32 ∧ 127 < dg (nb v) 31) := by
 have hlt : v < 256 ^ (nb v).length := by have := (dig_nb v).vL_lt; rwa [vL_nb] at this
 constructor
 ·intro h
  rcases Nat.lt_or_ge 32 (nb v).length with h1 | h1
  ·exact .inl h1
  ·have h2 : (nb v).length = 32 := by
    rcases Nat.lt_or_ge (nb v).length 32 with h3 | h3
    ·have h4 : v < 256 ^ 31 := Nat.lt_of_lt_of_le hlt (Nat.pow_le_pow_right (by decide) (by omega))
     have : (256 : Nat) ^ 31 < 2 ^ 255 := by decide
     omega
    ·omega
   refine .inr ⟨h2, ?_⟩
   rw [dg_of (dig_nb v), vL_nb]
   rw [h2] at hlt
   have h5 : 128 ≤ v / 256 ^ 31 := (Nat.le_div_iff_mul_le (by decide)).2 (by rw [Nat.mul_comm, pow31]; exact h)
   have h6 : v / 256 ^ 31 < 256 := Nat.div_lt_of_lt_mul (by rw [show (256 : Nat) ^ 31 * 256 = 256 ^ 32 from by decide]; exact hlt)
   rw [Nat.mod_eq_of_lt h6]
   omega
 ·rintro (h | ⟨h1, h2⟩)
  ·have h3 : 256 ^ 32 ≤ v := by
    have := (nrm_nb v).ge ((nb v).length - 1) (by omega)
    rw [vL_nb] at this
    exact Nat.le_trans (Nat.pow_le_pow_right (by decide) (by omega)) this
   have : (2 : Nat) ^ 255 ≤ 256 ^ 32 := by decide
   omega
  ·rw [dg_of (dig_nb v), vL_nb] at h2
   have h5 : 128 ≤ v / 256 ^ 31 := by have := Nat.mod_le (v / 256 ^ 31) 256; omega
   have := (Nat.le_div_iff_mul_le (Nat.pow_pos (by decide))).1 h5
   rw [Nat.mul_comm, pow31] at this
   exact this
/-- The lower 32 bytes, their top bit taken off. -/
theorem low_set {l : List Nat} (h : Dig l) (hl : l.length = 32) : dg l 31 / 128 = vL l / 2 ^ 255 ∧ vL (l.set 31 (dg l 31 % 128)) = vL l % 2 ^ 255 := by
 have hs := vL_set (l := l) (j := 31) (x := dg l 31 % 128) (by rw [hl]; decide)
 have hd := h.at 31
 have hv := h.vL_lt
 rw [hl] at hv
 have e : dg l 31 = vL l / 256 ^ 31 := by
  rw [dg_of h, Nat.mod_eq_of_lt]
  exact Nat.div_lt_of_lt_mul (by rw [show (256 : Nat) ^ 31 * 256 = 256 ^ 32 from by decide]; exact hv)
 have e2 := Nat.div_add_mod (vL l) (256 ^ 31)
 have e3 : vL l % 256 ^ 31 < 256 ^ 31 := Nat.mod_lt _ (by decide)
 rw [← e] at e2
 generalize vL (l.set 31 (dg l 31 % 128)) = u at *
 generalize vL l = v at *
 generalize dg l 31 = d at *
 constructor <;> omega
theorem fold_parts (v : Nat) : v % 256 ^ 32 % 2 ^ 255 = v % 2 ^ 255 ∧ v / 256 ^ 32 * 2 + v % 256 ^ 32 / 2 ^ 255 = v / 2 ^ 255 := by
 have h := Nat.div_add_mod v (256 ^ 32)
 have h2 : v % 256 ^ 32 < 256 ^ 32 := Nat.mod_lt _ (by decide)
 generalize v / 256 ^ 32 = a at *
 generalize v % 256 ^ 32 = b at *
 constructor <;> omega
theorem dig_one {x : Nat} (h : x < 256) : Dig [x] := fun y hy => by rw [List.mem_singleton.1 hy]; exact h
theorem vL_take {l : List Nat} (h : Dig l) (n : Nat) (hn : n ≤ l.length) : vL (l.take n) = vL l % 256 ^ n := by
 have e := digL_part (v := vL l) (n := l.length) (off := 0) (len := n) (by omega)
 rw [← digL_of h, List.drop_zero, Nat.pow_zero, Nat.div_one] at e
 rw [e, vL_digL]
theorem row_from {w : World} {b off len cap n : Nat} {zs : List Int} (h : Row .u8 w (some ⟨b, off, none⟩) len cap zs) (hn : n ≤ len) {ad : Option Addr} (had : (if cap = n then some (⟨b, off, none⟩ : Addr) else some ⟨b, off + n, none⟩) = ad) : Row .u8 w ad (len - n) (cap - n) (zs.drop n) := by
 have hd := row_drop h n hn
 by_cases hc : cap = n
 ·rw [if_pos hc] at had
  subst had
  have hl : len - n = 0 := by have := h.hcap; omega
  exact ⟨hd.hlen, hd.hcap, hd.hmax, by simp, fun h0 => by omega⟩
 ·rw [if_neg hc] at had
  subst had
  exact hd
set_option maxHeartbeats 3200000 in
theorem refRound_any (z : List Nat) (dz : Dig z) (a : Option Addr) (len cap : Nat) (w : World) (hr : Row .u8 w a len cap (nI z)) (hl : len ≤ 1000) :
  Calls Tryz.prog 107 #[.slice a len cap] w (Gives w (nb (vL z % fP))) := by
 obtain ⟨i0, hi0, hz0, hz1, hz2⟩ := info_parts Tryz.info5
 have HL : Hid ((nb (vL z)).length ≤ 1000) := by
  have h1 := hr.hlen
  rw [nI_length] at h1
  exact Nat.le_trans (nb_len dz.vL_lt) (by omega)
 have cN := refNorm15_any z dz a len cap w hr (by omega)
 clear hr
 generalize vL z = v0 at *
 obtain ⟨R, hR⟩ : ∃ R, Gives w (nb (v0 % fP)) = R := ⟨_, rfl⟩
 rw [hR]
 have HRR : Hid (Gives w (nb (v0 % fP)) = R) := hR
 clear hR
 go_enter Tryz.func107, Tryz.ntmps107
 go_wp2_with fail
 refine cN.mono ?_
 rintro e w1 ⟨a1, c1, rfl, r1, q1⟩
 clear cN
 go_wp2
 go_loopg [0] v0 (fun v x wr => ∃ (ax : Option Addr) (cx : Nat), x = .slice ax (nb v).length cx ∧ Hid (Row .u8 wr ax (nb v).length cx (nI (nb v))) ∧ Hid ((nb v).length ≤ 1000) ∧ Hid (v % fP = v0 % fP) ∧ Hid (Below w.heap.size w wr))
 case atStart => exact ⟨a1, c1, rfl, r1, HL, rfl, q1⟩
 case round =>
  clear r1 q1 HL
  obtain ⟨ax, cx, rfl, HR, HL, HM, HQ⟩ := hrel
  have hgr := nb_great gk
  have hd31 := (dig_nb gk).at 31
  by_cases hbig : 2 ^ 255 ≤ gk
  ·have h32 : 32 ≤ (nb gk).length := by rcases hgr.1 hbig with h | h <;> omega
   obtain ⟨b, off, rfl, hbs, hcell⟩ := HR.out.hcell (by omega)
   have hc31 := hcell 31 (by omega)
   rw [nI_dg] at hc31
   clear hcell
   have hcond : (32 : Int) < ((nb gk).length : Int) ∨ ¬ (32 : Int) < ((nb gk).length : Int) ∧ (((nb gk).length : Int) == 32) = true ∧ (127 : Int) < ((dg (nb gk) 31 : Nat) : Int) := by
    rcases hgr.1 hbig with h | ⟨h1, h2⟩
    ·exact .inl (by omega)
    ·exact .inr ⟨by omega, by simp; omega, by omega⟩
   have rA := HR.out
   clear hgr
   have HG : Hid (foldN gk < gk ∧ foldN gk % fP = gk % fP) := ⟨foldN_lt hbig, foldN_mod gk⟩
   clear hbig
   have rT := row_take rA 32 h32
   rw [nI_take] at rT
   have hl32 : ((nb gk).take 32).length = 32 := by rw [List.length_take]; omega
   have dT : Dig ((nb gk).take 32) := fun x hx => dig_nb gk x (List.mem_of_mem_take hx)
   have vT : vL ((nb gk).take 32) = gk % 256 ^ 32 := by
    have := vL_take (dig_nb gk) 32 h32
    rwa [vL_nb] at this
   have HT : Hid (((nb gk).take 32).length = 32 ∧ Dig ((nb gk).take 32) ∧ vL ((nb gk).take 32) = gk % 256 ^ 32) := ⟨hl32, dT, vT⟩
   clear hl32 dT vT
   generalize (nb gk).take 32 = lo at *
   have hnil := World.ownsRow_nil wr wr.heap.size 5 1
   obtain ⟨ad, had⟩ : ∃ ad, (if cx = 32 then some (⟨b, off, none⟩ : Addr) else some ⟨b, off + 32, none⟩) = ad := ⟨_, rfl⟩
   have rD := row_from rA h32 had
   rw [nI_drop] at rD
   have HD : Hid (Dig ((nb gk).drop 32) ∧ vL ((nb gk).drop 32) = gk / 256 ^ 32) := ⟨(dig_nb gk).drop 32, by have := vL_drop (dig_nb gk) 32; rwa [vL_nb] at this⟩
   generalize (nb gk).drop 32 = hi at *
   have hcx : (32 : Int) ≤ (cx : Int) := by have := rA.hcap; omega
   have hlen9 := HL.out
   have HN : Hid (gk < 256 ^ (nb gk).length) := by show _ < _; have := (dig_nb gk).vL_lt; rwa [vL_nb] at this
   generalize (nb gk).length = n at *
   have hn32 : (32 : Int) ≤ (n : Int) := by omega
   rcases hcond with h1 | ⟨h1, h2, h3⟩
   all_goals
    go_wp2_with (at_builtin; refine wpList_append_row _ rfl _ _ 24 rfl wr.heap.size 5 i0 (.int .u8 0) 1 Tryz.underlying24 hi0 hz0 hz1 hz2 rfl _ 0 [] rfl hnil .u8 _ 32 cx _ rfl rT (by unfold maxLen; omega) (by omega) (Nat.le_refl _) ?_)
    intro v1 w2 own1 hg1
    have q2 : Below wr.heap.size wr w2 := (Below.refl _ _).grown hg1 (Nat.le_refl _) (fun k hk => (hnil.lt k hk).1)
    clear hg1 hnil hc31
    try rw [List.nil_append, Nat.zero_add] at own1
    obtain ⟨al, cl, rfl, _⟩ := row_of_owns own1
    obtain ⟨gl, hgl, rfl⟩ := owns_head own1 (by decide)
    have hcl := owned_cell own1 31 (by decide)
    rw [nI_dg] at hcl
    have hfz := own1.frozenAt 31
    have hS := owned_set (q := 31) (x := ((dg lo 31 % 128 : Nat) : Int)) hgl own1 q2
    rw [nI_set] at hS
    have T := low_set HT.out.2.1 HT.out.1
    have hd9 := HT.out.2.1.at 31
    have HLo : Hid (Dig (lo.set 31 (dg lo 31 % 128)) ∧ vL (lo.set 31 (dg lo 31 % 128)) = gk % 2 ^ 255) := ⟨HT.out.2.1.set _ (by omega), by rw [T.2, HT.out.2.2, (fold_parts gk).1]⟩
    have HTop : Hid (dg lo 31 / 128 = gk % 256 ^ 32 / 2 ^ 255) := by show _ = _; rw [T.1, HT.out.2.2]
    clear T own1
    generalize lo.set 31 (dg lo 31 % 128) = lo2 at *
    generalize dg lo 31 = d at *
    have ed : (d : Int) / 128 = ((d / 128 : Nat) : Int) := by omega
    have em : (d : Int) % 128 = ((d % 128 : Nat) : Int) := by omega
    have et : (d : Int).tdiv 128 = ((d / 128 : Nat) : Int) := by rw [Int.tdiv_eq_ediv_of_nonneg (by omega)]; omega
    have eu : (d : Int).tmod 128 = ((d % 128 : Nat) : Int) := by rw [Int.tmod_eq_emod_of_nonneg (by omega)]; omega
    have ht2 : d / 128 < 2 := by omega
    generalize d / 128 = tp at *
    generalize d % 128 = dm at *
    obtain ⟨hS1, hS2⟩ := hS
    obtain ⟨al, cl2, el, rL⟩ := row_of_owns hS1
    simp only [Value.slice.injEq, true_and] at el
    obtain ⟨rfl, rfl⟩ := el
    have z3 : (w2.setCell ⟨gl, 31, none⟩ (.int .u8 (dm : Int))).heap.size = w2.heap.size := by simp [World.setCell]
    have hu5 : gk / 256 ^ 32 * 2 + tp = gk / 2 ^ 255 := by rw [HTop.out]; exact (fold_parts gk).2
    have hu5l : gk / 2 ^ 255 ≤ gk := Nat.div_le_self _ _
    have hu4l : gk / 256 ^ 32 * 2 ≤ gk := by omega
    have l4 : (nb (gk / 256 ^ 32 * 2)).length ≤ n := nb_len (Nat.lt_of_le_of_lt hu4l HN.out)
    have l5 : (nb (gk / 2 ^ 255)).length ≤ n := nb_len (Nat.lt_of_le_of_lt hu5l HN.out)
    have l6 : (nb (gk / 2 ^ 255 * 19)).length ≤ n + 1 := nb_len (by
     have := HN.out
     rw [Nat.pow_succ]
     omega)
    have l7 : (nb (foldN gk)).length ≤ n := nb_len (Nat.lt_trans HG.out.1 HN.out)
    have HU5 : Hid (gk / 256 ^ 32 * 2 + tp = gk / 2 ^ 255) := hu5
    have HF : Hid (gk % 2 ^ 255 + gk / 2 ^ 255 * 19 = foldN gk) := rfl
    have HL7 : Hid ((nb (foldN gk)).length ≤ 1000) := by show _ ≤ _; omega
    clear hu5 hu5l hu4l
    go_wp2_with fail
    generalize w2.setCell ⟨gl, 31, none⟩ (.int .u8 (dm : Int)) = w3 at *
    rw [← z3]
    have r2 := row_new .u8 (w3.alloc (Obj.cells #[.int .u8 0] 5)) 5 (w3.heap.size + 1) (by simp) [2] 1 rfl (by decide) #[.int .u8 2] rfl
    have q34 := below_two w3 (Obj.cells #[.int .u8 0] 5) (Obj.cells #[.int .u8 2] 5)
    have c4 := refMul15_any hi [2] ad (some ⟨w3.heap.size + 1, 0, none⟩) (n - 32) (cx - 32) 1 1 _ HD.out.1 (dig_one (by decide)) ((rD.below hS2 (Nat.le_refl _)).below q34 (Nat.le_refl _)) r2 (by omega) (by omega)
    rw [HD.out.2, show vL [2] = 2 from by decide] at c4
    refine c4.mono ?_
    rintro e w4 ⟨a4, k4, rfl, r4, q4⟩
    have Q4 := btrans q34 q4
    clear c4 q4 q34 r2 hcl hfz
    generalize gk / 256 ^ 32 * 2 = u4 at *
    generalize hn4 : (nb u4).length = n4 at *
    clear hn4
    go_wp2_with fail
    have r2 := row_new .u8 w4 5 w4.heap.size rfl [(tp : Int)] 1 rfl (by decide) #[.int .u8 (tp : Int)] rfl
    have q45 := below_one w4 (Obj.cells #[.int .u8 (tp : Int)] 5)
    have c5 := refAdd15_any (nb u4) [tp] a4 (some ⟨w4.heap.size, 0, none⟩) n4 k4 1 1 _ (dig_nb _) (fun x hx => by rw [List.mem_singleton.1 hx]; omega) (r4.below q45 (Nat.le_refl _)) r2 (by omega) (by omega)
    rw [vL_nb, show vL [tp] = tp from by simp [vL, vTo, dg], HU5.out] at c5
    refine c5.mono ?_
    rintro e w5 ⟨a5, k5, rfl, r5, q5⟩
    have Q5 := btrans Q4 (btrans q45 q5)
    clear c5 q5 q45 r2 r4 Q4
    generalize gk / 2 ^ 255 = u5 at *
    generalize hn5 : (nb u5).length = n5 at *
    clear hn5
    go_wp2_with fail
    have r2 := row_new .u8 w5 5 w5.heap.size rfl [19] 1 rfl (by decide) #[.int .u8 19] rfl
    have q56 := below_one w5 (Obj.cells #[.int .u8 19] 5)
    have c6 := refMul15_any (nb u5) [19] a5 (some ⟨w5.heap.size, 0, none⟩) n5 k5 1 1 _ (dig_nb _) (dig_one (by decide)) (r5.below q56 (Nat.le_refl _)) r2 (by omega) (by omega)
    rw [vL_nb, show vL [19] = 19 from by decide] at c6
    refine c6.mono ?_
    rintro e w6 ⟨a6, k6, rfl, r6, q6⟩
    have Q6 := btrans Q5 (btrans q56 q6)
    clear c6 q6 q56 r2 r5 Q5
    generalize u5 * 19 = u6 at *
    generalize hn6 : (nb u6).length = n6 at *
    clear hn6
    have c7 := refAdd15_any lo2 (nb u6) (some ⟨gl, 0, none⟩) a6 32 cl n6 k6 w6 HLo.out.1 (dig_nb _) (rL.below Q6 (Nat.le_refl _)) r6 (by omega) (by omega)
    rw [HLo.out.2, vL_nb, HF.out] at c7
    go_wp2_with fail
    refine c7.mono ?_
    rintro e w7 ⟨a7, k7, rfl, r7, q7⟩
    have Q7 := btrans Q6 q7
    clear c7 q7 r6 Q6
    go_wp2
    go_roundg (foldN gk)
    case measure => exact HG.out.1
    case rel => exact ⟨a7, k7, rfl, r7, HL7, by rw [HG.out.2]; exact HM.out, HQ.out.trans ((hS2.trans (Q7.mono hS2.size)).mono HQ.out.size)⟩
  ·have hlt : ¬ ((32 : Int) < ((nb gk).length : Int)) ∧ (¬ (((nb gk).length : Int) == 32) = true ∨ (((nb gk).length : Int) == 32) = true ∧ ∃ (b off d : Nat), ax = some ⟨b, off, none⟩ ∧ wr.cell? ⟨b, off + 31, none⟩ = some (.int .u8 (d : Int)) ∧ d < 256 ∧ (31 : Int) < ((nb gk).length : Int) ∧ ¬ (127 : Int) < (d : Int)) := by
    have h := fun h => hbig (hgr.2 h)
    refine ⟨fun h1 => h (.inl (by omega)), ?_⟩
    by_cases h2 : (nb gk).length = 32
    ·obtain ⟨b, off, rfl, hbs, hcell⟩ := HR.out.hcell (by omega)
     have hc31 := hcell 31 (by omega)
     rw [nI_dg] at hc31
     exact .inr ⟨by simp; omega, b, off, _, rfl, hc31, hd31, by omega, fun h3 => h (.inr ⟨h2, by omega⟩)⟩
    ·exact .inl (by simp; omega)
   clear hgr hbig hd31
   rcases hlt with ⟨h1, h2 | ⟨h2, b, off, d31, rfl, hc31, hd31, h31, h3⟩⟩
   all_goals
    have hln := HL.out
    generalize hn : (nb gk).length = n at *
    have HNN : Hid ((nb gk).length = n) := hn
    clear hn
    go_wp2
    go_loopg [0] gk (fun v x wr => ∃ (ax : Option Addr) (cx : Nat), x = .slice ax (nb v).length cx ∧ Hid (Row .u8 wr ax (nb v).length cx (nI (nb v))) ∧ Hid ((nb v).length ≤ 1000) ∧ Hid (v % fP = v0 % fP) ∧ Hid (Below w.heap.size w wr))
    case atStart => exact ⟨_, cx, by rw [HNN.out], by rw [HNN.out]; exact HR.out, by rw [HNN.out]; exact HL.out, HM.out, HQ.out⟩
    case round =>
     clear HR HL HM HQ HNN hln h1 h2
     try clear hc31 hd31 h31 h3
     obtain ⟨ay, cy, rfl, HR, HL, HM, HQ⟩ := hrel
     have rA := HR.out
     have hln := HL.out
     have HN : Hid (gk < 256 ^ (nb gk).length) := by show _ < _; have := (dig_nb gk).vL_lt; rwa [vL_nb] at this
     have hl2 : (nb fP).length = 32 := by rw [nb_fP, pL_length]
     have HL2 : Hid ((nb fP).length = 32) := hl2
     clear hl2
     have HCC : Hid (cmpN gk fP < 0 ↔ gk < fP) := by
      unfold cmpN
      show _ ↔ _
      split
      ·omega
      ·split <;> omega
     have hcb := cmp_bounds gk fP
     have cP := refP_any wr
     unfold Gives at cP
     rw [HL2.out] at cP
     go_wp2_with fail
     refine cP.mono ?_
     rintro e w2 ⟨a2, c2, rfl, r2, q2⟩
     have cC := refCmp15_any (nb gk) (nb fP) ay a2 (nb gk).length cy 32 c2 w2 (dig_nb _) (dig_nb _) (rA.below q2 (Nat.le_refl _)) r2 (by omega) (by omega)
     rw [vL_nb, vL_nb] at cC
     clear cP r2
     generalize cmpN gk fP = cc at *
     by_cases hge : gk < fP
     ·have hc0 : ¬ (0 : Int) ≤ cc := by have := HCC.out.2 hge; omega
      have hcd : decide ((0 : Int) ≤ cc) = false := decide_eq_false hc0
      clear hcb
      have HE : Hid (v0 % fP = gk) := by show _ = _; rw [← HM.out, Nat.mod_eq_of_lt hge]
      clear hge
      generalize hn : (nb gk).length = n at *
      have HNN : Hid ((nb gk).length = n) := hn
      clear hn
      go_wp2_with fail
      refine cC.mono ?_
      rintro e w' ⟨rfl, rfl⟩
      clear cC
      go_wp2
      try go_ret
      rw [← HRR.out]
      unfold Gives
      rw [HE.out, HNN.out]
      exact ⟨_, _, rfl, rA.below q2 (Nat.le_refl _), HQ.out.trans (q2.mono HQ.out.size)⟩
     ·have hc0 : (0 : Int) ≤ cc := Int.not_lt.1 (fun h => hge (HCC.out.1 h))
      have HG : Hid (gk - fP < gk ∧ (gk - fP) % fP = gk % fP ∧ (nb (gk - fP)).length ≤ 1000) :=
       ⟨by have := fP_pos; omega, by rw [Nat.mod_eq_sub_mod (a := gk) (by omega)], Nat.le_trans (nb_len (Nat.lt_of_le_of_lt (Nat.sub_le _ _) HN.out)) HL.out⟩
      clear hge
      generalize hn : (nb gk).length = n at *
      go_wp2_with fail
      refine cC.mono ?_
      rintro e w' ⟨rfl, rfl⟩
      clear cC
      have cP := refP_any w2
      unfold Gives at cP
      rw [HL2.out] at cP
      go_wp2_with fail
      refine cP.mono ?_
      rintro e w3 ⟨a3, c3, rfl, r3, q3⟩
      have Q3 := btrans q2 q3
      have cS := refSub15_any (nb gk) (nb fP) ay a3 n cy 32 c3 w3 (dig_nb _) (dig_nb _) (rA.below Q3 (Nat.le_refl _)) r3 (by omega) (by omega)
      rw [vL_nb, vL_nb] at cS
      clear cP r3 q3 q2
      go_wp2_with fail
      refine cS.mono ?_
      rintro e w4 ⟨a4, c4, rfl, r4, q4⟩
      go_wp2
      go_roundg (gk - fP)
      case measure => exact HG.out.1
      case rel => exact ⟨a4, c4, rfl, r4, HG.out.2.2, by rw [HG.out.2.1]; exact HM.out, HQ.out.trans ((btrans Q3 q4).mono HQ.out.size)⟩
end Go.Proofs.YthangiocheodoaaGreatDoor.N

/-
  Layer 16's reference: Is, Add, Sub.
-/
namespace Go.Proofs.YthangiocheodoaaGreatDoor.N
open Go.RowKit
set_option linter.unusedVariables false
set_option maxRecDepth 8192

theorem fP_lt256R : fP < 2 ^ 256 := by have := fP_eq; omega
theorem refP_32 (w : World) : Calls Tryz.prog 106 #[] w fun e w' => ∃ a c, e = .returned (.slice a 32 c) ∧ Row .u8 w' a 32 c (nI (nb fP)) ∧ Below w.heap.size w w' := by
  have h := refP_any w
  unfold Gives at h
  rwa [nb_fP, pL_length, ← nb_fP] at h
set_option maxHeartbeats 800000 in
theorem refIs_any (a : Nat) (w : World) (ha : a < 2 ^ 256) : Calls Tryz.prog 102 #[.agg (bA a)] w fun e w' => e = .returned (.bool (decide (a < fP))) ∧ Below w.heap.size w w' := by
  have HC : Hid (∀ (w : World) (a1 : Option Addr) (c1 : Nat) (g : Nat), w.heap[g]? = some (.cells (bA a) 22 (0, 0)) → Row .u8 w a1 32 c1 (nI (nb fP)) → Calls Tryz.prog 115 #[.slice (some ⟨g, 0, none⟩) 32 32, .slice a1 32 c1] w fun e w' => e = .returned (.int .i64 (cmpN a fP)) ∧ w = w') := by
    intro w a1 c1 g hg hr
    have := refCmp15_any (digL a 32) (nb fP) (some ⟨g, 0, none⟩) a1 32 32 32 c1 w (digL_dig _ _) (dig_nb _) (row_bA hg) hr (by decide) (by decide)
    rwa [vB ha, vL_nb] at this
  have hcb := cmp_bounds a fP
  have hcc : decide (cmpN a fP < 0) = decide (a < fP) := by
    rw [Bool.eq_iff_iff, decide_eq_true_iff, decide_eq_true_iff]
    unfold cmpN
    split
    · omega
    · split <;> omega
  generalize cmpN a fP = cc at *
  generalize decide (a < fP) = b at *
  clear ha
  have V0 := Vars.start w
  go_enter Tryz.func102, Tryz.ntmps102
  go_wp2_with (refine wpList_boxV V0 1 22 _ rfl rfl rfl (bA a) rfl ?_; intro w1 g2 V3)
  refine av_open (fun w' => Vars w w' [⟨g2, 22, bA a⟩]) (by kernel_rfl) ?_
  have V4 := V3.drew
  refine zR [0] 4 (by kernel_rfl) (fun _ _ _ _ _ h => h) V4 fun K hK => ?_
  refine zC (.slice (some ⟨g2, 0, none⟩) 32 32) rfl (by rfl) (fun w' hw' => exec_sliceB hw' 0 rfl _ rfl rfl) ?_
  go_simp
  refine calm_nil (hK.out _ ?_)
  clear hK K
  refine zO 1 3 (by kernel_rfl) rfl (by rfl) fun K hK => ?_
  go_simp
  refine (refP_32 w1.drew).mono ?_
  rintro e w5 ⟨a8, c9, rfl, r10, q7⟩
  have V6 := V4.call q7
  refine hK _ _ (V6) ?_
  clear hK K q7
  refine zO 2 2 (by kernel_rfl) rfl (by rfl) fun K hK => ?_
  go_simp
  refine (HC.out w5 a8 c9 g2 (V6.at 0 rfl) r10).mono ?_
  rintro e w' ⟨rfl, rfl⟩
  refine hK _ _ (V6) ?_
  clear hK K
  refine zR [3, 4] 0 (by kernel_rfl) (fun _ _ _ _ _ h => h) V6 fun K hK => ?_
  go_simp
  refine zC (.bool b) rfl (by rfl) (fun w' hw' => ?_) ?_
  · have h9 := hcc
    go_simp
  go_simp
  refine calm_assign _ rfl (by rfl) rfl ?_
  go_simp
  refine calm_nil (hK.out _ ?_)
  clear hK K
  refine wpAnyH_done (by kernel_rfl) ?_ _
  go_wp2_with fail
  go_ret
  exact ⟨rfl, V6.bel⟩
set_option maxHeartbeats 800000 in
theorem refAdd_any (a b : Nat) (w : World) (ha : a < fP) (hb : b < fP) : Calls Tryz.prog 64 #[.agg (bA a), .agg (bA b)] w fun e w' => e = .returned (.agg (bA ((a + b) % fP))) ∧ Below w.heap.size w w' := by
  have ha9 : a < 2 ^ 256 := Nat.lt_trans ha fP_lt256R
  have hb9 : b < 2 ^ 256 := Nat.lt_trans hb fP_lt256R
  obtain ⟨s, hs⟩ : ∃ s, a + b = s := ⟨_, rfl⟩
  obtain ⟨r, hsr⟩ : ∃ r, s % fP = r := ⟨_, rfl⟩
  have hr9 : r < 2 ^ 256 := by rw [← hsr]; exact Nat.lt_trans (mod_fP s) fP_lt256R
  have hs9 : s < 256 ^ 33 := by rw [← hs]; have : (2 : Nat) ^ 256 * 2 < 256 ^ 33 := by decide
                                omega
  rw [hs, hsr]
  have HA : Hid (∀ (w : World) (g h : Nat), w.heap[g]? = some (.cells (bA a) 22 (0, 0)) → w.heap[h]? = some (.cells (bA b) 22 (0, 0)) → Calls Tryz.prog 39 #[.slice (some ⟨g, 0, none⟩) 32 32, .slice (some ⟨h, 0, none⟩) 32 32] w (Gives w (nb s))) := by
    intro w g h hg hh
    have := refAdd15_any (digL a 32) (digL b 32) (some ⟨g, 0, none⟩) (some ⟨h, 0, none⟩) 32 32 32 32 w (digL_dig _ _) (digL_dig _ _) (row_bA hg) (row_bA hh) (by decide) (by decide)
    rwa [vB ha9, vB hb9, hs] at this
  have HF : Hid (∀ (w : World) (a1 : Option Addr) (c1 : Nat), Row .u8 w a1 (nb r).length c1 (nI (nb r)) → Rt Tryz.prog 70 #[.slice a1 (nb r).length c1] (.agg (bA r)) w) := by
    intro w a1 c1 hr
    have := refFull_any (nb r) (dig_nb r) a1 (nb r).length c1 w hr (nb_len (by rw [b256]; exact hr9))
    rwa [vL_nb] at this
  have HR : Hid (∀ (w : World) (a1 : Option Addr) (c1 : Nat), Row .u8 w a1 (nb s).length c1 (nI (nb s)) → Calls Tryz.prog 107 #[.slice a1 (nb s).length c1] w (Gives w (nb r))) := by
    intro w a1 c1 hr
    have := refRound_any (nb s) (dig_nb s) a1 (nb s).length c1 w hr (Nat.le_trans (nb_len hs9) (by decide))
    rwa [vL_nb, hsr] at this
  generalize hns : (nb s).length = ns at *
  generalize hnr : (nb r).length = nr at *
  have HNS : Hid ((nb s).length = ns ∧ (nb r).length = nr) := ⟨hns, hnr⟩
  unfold Gives at HA HR
  rw [hns] at HA
  rw [hnr] at HR
  clear ha hb ha9 hb9 hs hsr hr9 hs9 hns hnr
  have V0 := Vars.start w
  go_enter Tryz.func64, Tryz.ntmps64
  go_wp2_with (first
    | (refine wpList_boxV V0 2 22 _ rfl rfl rfl (bA a) rfl ?_; intro w1 g2 V3)
    | (refine wpList_boxV V3 3 22 _ rfl rfl rfl (bA b) rfl ?_; intro w4 g5 V6)
    | (refine zA V6 4 rfl rfl rfl ?_; intro w7 g8 V9))
  refine av_open (fun w' => Vars w w' [⟨g5, 22, bA b⟩, ⟨g2, 22, bA a⟩]) (by kernel_rfl) ?_
  have V10 := V9.drew
  refine zR [0, 1] 4 (by kernel_rfl) (fun _ _ _ _ _ h => h) (V10.tail) fun K hK => ?_
  refine zC (.slice (some ⟨g2, 0, none⟩) 32 32) rfl (by rfl) (fun w' hw' => exec_sliceB hw' 1 rfl _ rfl rfl) ?_
  go_simp
  refine zC (.slice (some ⟨g5, 0, none⟩) 32 32) rfl (by rfl) (fun w' hw' => exec_sliceB hw' 0 rfl _ rfl rfl) ?_
  go_simp
  refine calm_nil (hK.out _ ?_)
  clear hK K
  refine zO 2 3 (by kernel_rfl) rfl (by rfl) fun K hK => ?_
  go_simp
  refine (HA.out w7.drew g2 g5 (V10.at 2 rfl) (V10.at 1 rfl)).mono ?_
  rintro e w11 ⟨a14, c15, rfl, r16, q13⟩
  have V12 := V10.call q13
  refine hK _ _ (V12.tail) ?_
  clear hK K q13
  refine zO 3 2 (by kernel_rfl) rfl (by rfl) fun K hK => ?_
  go_simp
  refine (HR.out w11 a14 c15 r16).mono ?_
  rintro e w17 ⟨a20, c21, rfl, r22, q19⟩
  have V18 := V12.call q19
  refine hK _ _ (V18.tail) ?_
  replace r16 := r16.below q19 (Nat.le_refl _)
  clear hK K q19
  refine zO 4 1 (by kernel_rfl) rfl (by rfl) fun K hK => ?_
  go_simp
  refine (HF.out w17 a20 c21 r22).mono ?_
  rintro e w23 ⟨rfl, q25⟩
  have V24 := V18.call q25
  refine hK _ _ (V24.tail) ?_
  replace r16 := r16.below q25 (Nat.le_refl _)
  replace r22 := r22.below q25 (Nat.le_refl _)
  clear hK K q25
  refine zO 5 0 (by kernel_rfl) rfl (by rfl) fun K hK => ?_
  refine zS V24 0 rfl _ _ rfl rfl r rfl rfl (fun w26 V27 => ?_)
  refine hK _ _ (V27.tail) ?_
  clear hK K
  clear r16 r22
  refine wpAnyH_done (by kernel_rfl) ?_ _
  go_wp2_with fail
  exact bodyPost_ret (resV1 rfl _ V27 0 rfl rfl Tryz.underlying22 Tryz.szB (bA_size _)) rfl ⟨rfl, V27.bel⟩
set_option maxHeartbeats 800000 in
theorem refSub_any (a b : Nat) (w : World) (ha : a < fP) (hb : b < fP) : Calls Tryz.prog 63 #[.agg (bA a), .agg (bA b)] w fun e w' => e = .returned (.agg (bA ((a + (fP - b)) % fP))) ∧ Below w.heap.size w w' := by
  have ha9 : a < 2 ^ 256 := Nat.lt_trans ha fP_lt256R
  have hb9 : b < 2 ^ 256 := Nat.lt_trans hb fP_lt256R
  obtain ⟨d, hd⟩ : ∃ d, fP - b = d := ⟨_, rfl⟩
  obtain ⟨s, hs⟩ : ∃ s, a + d = s := ⟨_, rfl⟩
  obtain ⟨r, hsr⟩ : ∃ r, s % fP = r := ⟨_, rfl⟩
  have hr9 : r < 2 ^ 256 := by rw [← hsr]; exact Nat.lt_trans (mod_fP s) fP_lt256R
  have hd9 : d < 2 ^ 256 := by rw [← hd]; exact Nat.lt_of_le_of_lt (Nat.sub_le _ _) fP_lt256R
  have hs9 : s < 256 ^ 33 := by rw [← hs]; have : (2 : Nat) ^ 256 * 2 < 256 ^ 33 := by decide
                                omega
  have hd33 : (nb d).length ≤ 32 := nb_len (by rw [b256]; exact hd9)
  rw [hd, hs, hsr]
  have HS : Hid (∀ (w : World) (a1 : Option Addr) (c1 h : Nat), Row .u8 w a1 32 c1 (nI (nb fP)) → w.heap[h]? = some (.cells (bA b) 22 (0, 0)) → Calls Tryz.prog 105 #[.slice a1 32 c1, .slice (some ⟨h, 0, none⟩) 32 32] w (Gives w (nb d))) := by
    intro w a1 c1 h hr hh
    have := refSub15_any (nb fP) (digL b 32) a1 (some ⟨h, 0, none⟩) 32 c1 32 32 w (dig_nb _) (digL_dig _ _) hr (row_bA hh) (by decide) (by decide)
    rwa [vL_nb, vB hb9, hd] at this
  have HA : Hid (∀ (w : World) (a1 : Option Addr) (c1 g : Nat), w.heap[g]? = some (.cells (bA a) 22 (0, 0)) → Row .u8 w a1 (nb d).length c1 (nI (nb d)) → Calls Tryz.prog 39 #[.slice (some ⟨g, 0, none⟩) 32 32, .slice a1 (nb d).length c1] w (Gives w (nb s))) := by
    intro w a1 c1 g hg hh
    have := refAdd15_any (digL a 32) (nb d) (some ⟨g, 0, none⟩) a1 32 32 (nb d).length c1 w (digL_dig _ _) (dig_nb _) (row_bA hg) hh (by decide) (by omega)
    rwa [vB ha9, vL_nb, hs] at this
  have HF : Hid (∀ (w : World) (a1 : Option Addr) (c1 : Nat), Row .u8 w a1 (nb r).length c1 (nI (nb r)) → Rt Tryz.prog 70 #[.slice a1 (nb r).length c1] (.agg (bA r)) w) := by
    intro w a1 c1 hr
    have := refFull_any (nb r) (dig_nb r) a1 (nb r).length c1 w hr (nb_len (by rw [b256]; exact hr9))
    rwa [vL_nb] at this
  have HR : Hid (∀ (w : World) (a1 : Option Addr) (c1 : Nat), Row .u8 w a1 (nb s).length c1 (nI (nb s)) → Calls Tryz.prog 107 #[.slice a1 (nb s).length c1] w (Gives w (nb r))) := by
    intro w a1 c1 hr
    have := refRound_any (nb s) (dig_nb s) a1 (nb s).length c1 w hr (Nat.le_trans (nb_len hs9) (by decide))
    rwa [vL_nb, hsr] at this
  generalize hns : (nb s).length = ns at *
  generalize hnr : (nb r).length = nr at *
  generalize hnd : (nb d).length = nd at *
  unfold Gives at HA HR HS
  rw [hns] at HA
  rw [hnr] at HR
  rw [hnd] at HS
  clear ha hb ha9 hb9 hs hsr hr9 hs9 hns hnr hnd hd hd9 hd33
  have V0 := Vars.start w
  go_enter Tryz.func63, Tryz.ntmps63
  go_wp2_with (first
    | (refine wpList_boxV V0 2 22 _ rfl rfl rfl (bA a) rfl ?_; intro w1 g2 V3)
    | (refine wpList_boxV V3 3 22 _ rfl rfl rfl (bA b) rfl ?_; intro w4 g5 V6)
    | (refine zA V6 4 rfl rfl rfl ?_; intro w7 g8 V9))
  refine av_open (fun w' => Vars w w' [⟨g8, 22, bA 0⟩, ⟨g5, 22, bA b⟩, ⟨g2, 22, bA a⟩]) (by kernel_rfl) ?_
  have V10 := V9.drew
  refine zR [1] 3 (by kernel_rfl) (fun _ _ _ _ _ h => h) V10 fun K hK => ?_
  refine zC (.slice (some ⟨g5, 0, none⟩) 32 32) rfl (by rfl) (fun w' hw' => exec_sliceB hw' 1 rfl _ rfl rfl) ?_
  go_simp
  refine calm_nil (hK.out _ ?_)
  clear hK K
  refine zO 0 2 (by kernel_rfl) rfl (by rfl) fun K hK => ?_
  go_simp
  refine (refP_32 w7.drew).mono ?_
  rintro e w11 ⟨a14, c15, rfl, r16, q13⟩
  have V12 := V10.call q13
  refine hK _ _ (V12) ?_
  clear hK K q13
  refine zO 2 1 (by kernel_rfl) rfl (by rfl) fun K hK => ?_
  go_simp
  refine (HS.out w11 a14 c15 g5 r16 (V12.at 1 rfl)).mono ?_
  rintro e w17 ⟨a20, c21, rfl, r22, q19⟩
  have V18 := V12.call q19
  refine hK _ _ (V18) ?_
  replace r16 := r16.below q19 (Nat.le_refl _)
  clear hK K q19
  refine zR [3] 0 (by kernel_rfl) (fun _ _ _ _ _ h => h) V18 fun K hK => ?_
  go_simp
  refine calm_assign _ rfl (by rfl) rfl ?_
  go_simp
  refine calm_nil (hK.out _ ?_)
  clear hK K
  refine wpAnyH_done (by kernel_rfl) ?_ _
  go_wp2_with (refine wpList_exec rfl (exec_sliceB V18 2 rfl _ rfl rfl) ?_)
  refine (HA.out w17 a20 c21 g2 (V18.at 2 rfl) r22).mono ?_
  rintro e w23 ⟨a26, c27, rfl, r28, q25⟩
  have V24 := V18.call q25
  replace r16 := r16.below q25 (Nat.le_refl _)
  replace r22 := r22.below q25 (Nat.le_refl _)
  clear q25 V18
  go_wp2_with fail
  refine (HR.out w23 a26 c27 r28).mono ?_
  rintro e w29 ⟨a32, c33, rfl, r34, q31⟩
  have V30 := V24.call q31
  replace r16 := r16.below q31 (Nat.le_refl _)
  replace r22 := r22.below q31 (Nat.le_refl _)
  replace r28 := r28.below q31 (Nat.le_refl _)
  clear q31 V24
  go_wp2_with fail
  refine (HF.out w29 a32 c33 r34).mono ?_
  rintro e w35 ⟨rfl, q37⟩
  have V36 := V30.call q37
  replace r16 := r16.below q37 (Nat.le_refl _)
  replace r22 := r22.below q37 (Nat.le_refl _)
  replace r28 := r28.below q37 (Nat.le_refl _)
  replace r34 := r34.below q37 (Nat.le_refl _)
  clear q37 V30
  go_wp2_with (refine zL V36 0 rfl _ (.tmp 13) rfl rfl rfl r rfl rfl ?_; intro w38 V39)
  exact bodyPost_ret (resV1 rfl _ V39 0 rfl rfl Tryz.underlying22 Tryz.szB (bA_size _)) rfl ⟨rfl, V39.bel⟩
end Go.Proofs.YthangiocheodoaaGreatDoor.N
