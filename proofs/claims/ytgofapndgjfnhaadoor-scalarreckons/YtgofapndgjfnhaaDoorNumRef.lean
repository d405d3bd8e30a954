/-
  Layer 15's reference: at, Norm, Cmp.
-/
import Derived.Test.YtgofapndgjfnhaaDoorNumCode5
namespace Go.Proofs.YtgofapndgjfnhaaDoor.N
open Go.RowKit
set_option linter.unusedVariables false
set_option maxRecDepth 8192

theorem gives_own {w w' : World} {e : TypeId} {v : Value} {n : Nat} {z : List Nat} (hn : z.length = n) (h : w'.ownsRow w.heap.size e 1 v n ((nI z).map (Value.int .u8))) (q : Below w.heap.size w w') : Gives w z (.returned v) w' := by
  subst hn
  obtain ⟨a, cap, rfl, r⟩ := row_of_owns h
  exact ⟨a, cap, rfl, r, q⟩
set_option maxHeartbeats 400000 in
theorem at15_any (z : List Nat) (a : Option Addr) (len cap i : Nat) (w : World) (hr : Row .u8 w a len cap (nI z)) (hi : i ≤ 1000000) (hl : len ≤ 1000000) (dz : Dig z) :
    Calls Tryd.prog 23 #[.slice a len cap, .int .i64 (i : Int)] w fun e w' => e = .returned (.int .i64 ((dg z i : Nat) : Int)) ∧ w = w' := by
  have HL : Hid (z.length = len) := by have := hr.hlen; rwa [nI_length] at this
  have hd := dz.at i
  by_cases h : i < len
  · obtain ⟨b, off, rfl, hbs, hcell⟩ := hr.hcell (by omega)
    have hc := hcell i h
    clear hcell
    rw [nI_dg] at hc
    generalize dg z i = d at *
    go_enter Tryd.func23, Tryd.ntmps23
    go_wp2
    go_ret
    exact ⟨rfl, rfl⟩
  · have HZ : Hid (dg z i = 0) := dg_past (by rw [HL.out]; omega)
    rw [HZ.out]
    go_enter Tryd.func23, Tryd.ntmps23
    go_wp2
    go_ret
    exact ⟨rfl, rfl⟩
set_option maxHeartbeats 800000 in
theorem refNorm15_any (z : List Nat) (dz : Dig z) (a : Option Addr) (len cap : Nat) (w : World) (hr : Row .u8 w a len cap (nI z)) (hsm : len ≤ 1000000) :
    Calls Tryd.prog 41 #[.slice a len cap] w (Gives w (nb (vL z))) := by
  obtain ⟨i0, hi0, hz0, hz1, hz2⟩ := info_parts Tryd.info5
  have HL : Hid (z.length = len) := by have := hr.hlen; rwa [nI_length] at this
  have HNB : Hid (nt z = nb (vL z)) := nt_nb dz
  have hm := hr.hmax
  have hc := hr.hcap
  unfold maxLen at hm
  go_enter Tryd.func41, Tryd.ntmps41
  go_wp2
  go_loop [3] (fun y => ∃ k : Nat, k ≤ len ∧ y = .int .i64 (k : Int) ∧ Hid (tlTo z k = tl z)) (fun y => (intOf y).toNat)
  case atStart => exact ⟨len, Nat.le_refl _, rfl, by show _ = _; unfold tl; rw [HL.out]⟩
  case round =>
    obtain ⟨k, hk, rfl, HZ⟩ := hrel
    have hrk := row_take hr k hk
    rw [nI_take] at hrk
    by_cases h0 : k = 0
    · subst h0
      have HT : Hid (z.take 0 = nb (vL z)) := by show _ = _; rw [← HNB.out]; unfold nt; rw [← HZ.out]; rfl
      go_wp2_with (at_builtin; refine wpList_append_row _ rfl _ _ 22 rfl w.heap.size 5 i0 (.int .u8 0) 1 Tryd.underlying22 hi0 hz0 hz1 hz2 rfl _ 0 [] rfl (World.ownsRow_nil _ _ _ _) .u8 a 0 cap _ rfl hrk (by unfold maxLen; omega) (by omega) (Nat.le_refl _) ?_)
      intro v' w1 hown1 hgrow1
      have q1 : Below w.heap.size w w1 := (Below.refl _ _).grown hgrow1 (Nat.le_refl _) (fun j hj => by simp [Value.ownBlock] at hj)
      have R : Gives w (nb (vL z)) (.returned v') w1 := gives_own (n := 0) (by rw [← HT.out]; rfl) (by rw [← HT.out]; simpa using hown1) q1
      clear hown1 hgrow1 q1
      go_wp2
      go_ret
      exact R
    · obtain ⟨b, off, rfl, hbs, hcell⟩ := hr.hcell (by omega)
      have hc1 := hcell (k - 1) (by omega)
      rw [nI_dg] at hc1
      have HS : Hid (tlTo z k = if dg z (k - 1) = 0 then tlTo z (k - 1) else k) := by
        obtain ⟨m, rfl⟩ : ∃ m, k = m + 1 := ⟨k - 1, by omega⟩
        rfl
      clear hcell
      have e1 : ((k : Int) - 1).toNat = k - 1 := by omega
      have e2 : (0 : Int) ≤ (k : Int) - 1 := by omega
      have e3 : (k : Int) - 1 < (len : Int) := by omega
      by_cases hv : dg z (k - 1) = 0
      · have HT : Hid (tlTo z (k - 1) = tl z) := by
          show _ = _
          rw [← HZ.out, HS.out, if_pos hv]
        have hq : (((dg z (k - 1) : Nat) : Int) == 0) = true := by simp [hv]
        clear hv HS HZ hrk
        generalize dg z (k - 1) = d at *
        go_wp2
        go_round
        case rel => exact ⟨k - 1, by omega, by go_num, HT⟩
        case measure => simp [intOf]; omega
      · have HT : Hid (z.take k = nb (vL z)) := by
          show _ = _
          rw [← HNB.out]
          unfold nt
          rw [← HZ.out, HS.out, if_neg hv]
        have hlk : (nb (vL z)).length = k := by rw [← HT.out, List.length_take, HL.out]; omega
        have HLK : Hid ((nb (vL z)).length = k) := hlk
        rw [HT.out] at hrk
        have hq : (((dg z (k - 1) : Nat) : Int) == 0) = false := by simp [hv]
        clear hv HS HZ hlk
        generalize dg z (k - 1) = d at *
        go_wp2_with (at_builtin; refine wpList_append_row _ rfl _ _ 22 rfl w.heap.size 5 i0 (.int .u8 0) 1 Tryd.underlying22 hi0 hz0 hz1 hz2 rfl _ 0 [] rfl (World.ownsRow_nil _ _ _ _) .u8 (some ⟨b, off, none⟩) k cap _ rfl hrk (by unfold maxLen; omega) (by omega) (Nat.le_refl _) ?_)
        intro v' w1 hown1 hgrow1
        have q1 : Below w.heap.size w w1 := (Below.refl _ _).grown hgrow1 (Nat.le_refl _) (fun j hj => by simp [Value.ownBlock] at hj)
        have R : Gives w (nb (vL z)) (.returned v') w1 := gives_own (n := k) HLK.out (by simpa using hown1) q1
        clear hown1 hgrow1 q1
        go_wp2
        go_ret
        exact R
set_option maxHeartbeats 1600000 in
theorem refCmp15_any (a b : List Nat) (aa ab : Option Addr) (la ca lb cb : Nat) (w : World) (da : Dig a) (db : Dig b) (ra : Row .u8 w aa la ca (nI a)) (rb : Row .u8 w ab lb cb (nI b)) (hla : la ≤ 100000) (hlb : lb ≤ 100000) :
    Calls Tryd.prog 10 #[.slice aa la ca, .slice ab lb cb] w fun e w' => e = .returned (.int .i64 (cmpN (vL a) (vL b))) ∧ w = w' := by
  have HA : Hid (a.length = la) := by have := ra.hlen; rwa [nI_length] at this
  have HB : Hid (b.length = lb) := by have := rb.hlen; rwa [nI_length] at this
  obtain ⟨N, hN⟩ : ∃ N : Nat, ((N = la ∧ (lb : Int) ≤ (N : Int)) ∨ (N = lb ∧ (la : Int) < (N : Int))) := by
    rcases Nat.lt_or_ge la lb with h | h
    · exact ⟨lb, .inr ⟨rfl, by omega⟩⟩
    · exact ⟨la, .inl ⟨rfl, by omega⟩⟩
  have HVa : Hid (vTo (dg a) N = vL a) := vL_to a N (by rw [HA.out]; omega)
  have HVb : Hid (vTo (dg b) N = vL b) := vL_to b N (by rw [HB.out]; omega)
  have hN9 : N ≤ 100000 := by omega
  have cA := fun i hi => at15_any a aa la ca i w ra hi (by omega) da
  have cB := fun i hi => at15_any b ab lb cb i w rb hi (by omega) db
  rcases hN with ⟨rfl, hle⟩ | ⟨rfl, hle⟩
  all_goals
    go_enter Tryd.func10, Tryd.ntmps10
    go_wp2
    go_loop [5] (fun y => ∃ k : Nat, k ≤ N ∧ y = .int .i64 ((k : Int) - 1) ∧ Hid (∀ j, k ≤ j → j < N → dg a j = dg b j)) (fun y => (intOf y + 1).toNat)
    case atStart => exact ⟨N, Nat.le_refl _, by go_num, fun j h1 h2 => by omega⟩
    case round =>
      obtain ⟨k, hk, rfl, HE⟩ := hrel
      by_cases h0 : k = 0
      · subst h0
        have HF : Hid (cmpN (vL a) (vL b) = 0) := by
          show _ = _
          rw [← HVa.out, ← HVb.out, vTo_congr (fun i hi => HE.out i (Nat.zero_le _) hi)]
          unfold cmpN
          simp
        go_wp2
        go_ret
        exact ⟨ret_int HF.out.symm, rfl⟩
      · obtain ⟨j, rfl⟩ : ∃ j, k = j + 1 := ⟨k - 1, by omega⟩
        have HNE : Hid (dg a j ≠ dg b j → cmpN (dg a j) (dg b j) = cmpN (vL a) (vL b)) := fun hne => by
          have h1 := vTo_above (f := dg a) (g := dg b) (i := j) (n := N) (by omega) da.at db.at (fun i h1 h2 => HE.out i (by omega) h2) hne
          have h2 := vTo_above (f := dg b) (g := dg a) (i := j) (n := N) (by omega) db.at da.at (fun i h1 h2 => (HE.out i (by omega) h2).symm) (fun e => hne e.symm)
          rw [HVa.out, HVb.out] at h1 h2
          unfold cmpN
          simp only [h1, h2]
        have HEQ : Hid (dg a j = dg b j → ∀ i, j ≤ i → i < N → dg a i = dg b i) := fun he i h1 h2 => by
          by_cases e : i = j
          · rw [e]; exact he
          · exact HE.out i (by omega) h2
        clear HE h0
        have dA := cA j (by omega)
        have dB := cB j (by omega)
        have hxa := da.at j
        have hxb := db.at j
        have ek : (((j + 1 : Nat) : Int) - 1) = (j : Int) := by omega
        rw [ek]
        clear ek
        generalize dg a j = x at *
        generalize dg b j = y at *
        rcases Nat.lt_trichotomy x y with h | h | h
        · have HF : Hid (cmpN (vL a) (vL b) = -1) := by
            show _ = _
            rw [← HNE.out (by omega)]
            unfold cmpN
            rw [if_pos h]
          clear HNE HEQ
          go_wp2_with fail
          refine dA.mono ?_
          rintro e w' ⟨rfl, rfl⟩
          go_wp2_with fail
          refine dB.mono ?_
          rintro e w' ⟨rfl, rfl⟩
          go_wp2_with fail
          go_ret
          exact ⟨ret_int HF.out.symm, rfl⟩
        · have HG : Hid (∀ i, j ≤ i → i < N → dg a i = dg b i) := HEQ.out h
          subst h
          clear HNE HEQ
          go_wp2_with fail
          refine dA.mono ?_
          rintro e w' ⟨rfl, rfl⟩
          go_wp2_with fail
          refine dB.mono ?_
          rintro e w' ⟨rfl, rfl⟩
          go_wp2_with fail
          refine dA.mono ?_
          rintro e w' ⟨rfl, rfl⟩
          go_wp2_with fail
          refine dB.mono ?_
          rintro e w' ⟨rfl, rfl⟩
          go_wp2_with fail
          go_round
          case rel => exact ⟨j, by omega, by go_num, HG⟩
          case measure => simp [intOf] <;> omega
        · have HF : Hid (cmpN (vL a) (vL b) = 1) := by
            show _ = _
            rw [← HNE.out (by omega)]
            unfold cmpN
            rw [if_neg (by omega), if_pos h]
          clear HNE HEQ
          go_wp2_with fail
          refine dA.mono ?_
          rintro e w' ⟨rfl, rfl⟩
          go_wp2_with fail
          refine dB.mono ?_
          rintro e w' ⟨rfl, rfl⟩
          go_wp2_with fail
          refine dA.mono ?_
          rintro e w' ⟨rfl, rfl⟩
          go_wp2_with fail
          refine dB.mono ?_
          rintro e w' ⟨rfl, rfl⟩
          go_wp2_with fail
          go_ret
          exact ⟨ret_int HF.out.symm, rfl⟩
end Go.Proofs.YtgofapndgjfnhaaDoor.N
