/-
  Layer 15's reference: Mod.
-/
import Derived.Test.YtgofapndgjfnhaaDoorNumRef2
import Derived.Test.YtgofapndgjfnhaaDoorNumRef3
namespace Go.Proofs.YtgofapndgjfnhaaDoor.N
open Go.RowKit
set_option linter.unusedVariables false
set_option maxRecDepth 8192

theorem half_rest {r M j : Nat} (hM : 0 < M) : (if M * 2 ^ j ≤ r % (M * 2 ^ (j + 1)) then r % (M * 2 ^ (j + 1)) - M * 2 ^ j else r % (M * 2 ^ (j + 1))) = r % (M * 2 ^ j) := by
  have hD : 0 < M * 2 ^ j := Nat.mul_pos hM (Nat.two_pow_pos j)
  have e : M * 2 ^ (j + 1) = M * 2 ^ j * 2 := by rw [Nat.pow_succ, Nat.mul_assoc]
  have h1 : r % (M * 2 ^ (j + 1)) % (M * 2 ^ j) = r % (M * 2 ^ j) := Nat.mod_mod_of_dvd _ ⟨2, e⟩
  have h2 : r % (M * 2 ^ (j + 1)) < M * 2 ^ (j + 1) := Nat.mod_lt _ (by rw [e]; omega)
  rw [← h1]
  generalize r % (M * 2 ^ (j + 1)) = s at *
  rw [e] at h2
  generalize M * 2 ^ j = D at *
  split
  · rename_i h
    rw [Nat.mod_eq_sub_mod h, Nat.mod_eq_of_lt (by omega)]
  · rename_i h
    rw [Nat.mod_eq_of_lt (by omega)]
theorem rest_next {A M i : Nat} : (A / 256 ^ (i + 1) % M * 256 + A / 256 ^ i % 256) % M = A / 256 ^ i % M := by
  have e : A / 256 ^ i = A / 256 ^ (i + 1) * 256 + A / 256 ^ i % 256 := by
    rw [Nat.pow_succ, ← Nat.div_div_eq_div_mul]
    omega
  conv => rhs; rw [e]
  rw [Nat.add_mod, Nat.mul_mod, Nat.mod_mod, ← Nat.mul_mod, ← Nat.add_mod]
theorem rest_lt {A M i : Nat} (hM : 0 < M) : A / 256 ^ (i + 1) % M * 256 + A / 256 ^ i % 256 < M * 2 ^ 8 := by
  have h1 := Nat.mod_lt (A / 256 ^ (i + 1)) hM
  have h2 := Nat.mod_lt (A / 256 ^ i) (show 0 < 256 by decide)
  show _ < M * 256
  omega
theorem vL_cons (x : Nat) (l : List Nat) : vL (x :: l) = x + 256 * vL l := by
  have e : ∀ n, vTo (dg (x :: l)) (n + 1) = x + 256 * vTo (dg l) n := by
    intro n
    induction n with
    | zero => simp [vTo, dg]
    | succ n ih =>
      rw [show vTo (dg (x :: l)) (n + 1 + 1) = vTo (dg (x :: l)) (n + 1) + dg (x :: l) (n + 1) * 256 ^ (n + 1) from rfl, ih]
      rw [show vTo (dg l) (n + 1) = vTo (dg l) n + dg l n * 256 ^ n from rfl, Nat.mul_add, show dg (x :: l) (n + 1) = dg l n from by simp [dg], Nat.pow_succ, Nat.add_assoc]
      congr 2
      simp only [Nat.mul_comm, Nat.mul_assoc]
  exact e l.length
set_option maxHeartbeats 3200000 in
theorem refMod15_any (a b : List Nat) (aa ab : Option Addr) (la ca lb cb : Nat) (w : World) (da : Dig a) (db : Dig b) (ra : Row .u8 w aa la ca (nI a)) (rb : Row .u8 w ab lb cb (nI b)) (hla : la ≤ 10000) (hlb : lb ≤ 10000) (h0 : vL b ≠ 0) :
    Calls Tryd.prog 28 #[.slice aa la ca, .slice ab lb cb] w (Gives w (nb (vL a % vL b))) := by
  obtain ⟨i0, hi0, hz0, hz1, hz2⟩ := info_parts Tryd.info5
  have HA : Hid (a.length = la) := by have := ra.hlen; rwa [nI_length] at this
  have HBl : Hid (b.length = lb) := by have := rb.hlen; rwa [nI_length] at this
  have HM : Hid (0 < vL b) := Nat.pos_of_ne_zero h0
  have hbl : vL b < 256 ^ lb := by rw [← HBl.out]; exact db.vL_lt
  have HML : Hid (∀ r, r < vL b * 2 ^ 8 → (nb r).length ≤ lb + 1) := fun r hr => nb_len (by rw [Nat.pow_succ]; show _ < 256 ^ lb * 256; have : vL b * 2 ^ 8 = vL b * 256 := rfl; omega)
  have HEnd : Hid (vL a / 256 ^ 0 % vL b = vL a % vL b) := by show _ = _; rw [Nat.pow_zero, Nat.div_one]
  have HStart : Hid (vL a / 256 ^ la % vL b = 0) := by
    show _ = _
    rw [Nat.div_eq_of_lt (by rw [← HA.out]; exact da.vL_lt), Nat.zero_mod]
  clear h0 hbl
  go_enter Tryd.func28, Tryd.ntmps28
  go_wp2
  go_loopw [5, 6] (fun v y wr => ∃ (i cr : Nat) (ar : Option Addr), i ≤ la ∧ y = .int .i64 ((i : Int) - 1) ∧ v = .slice ar (nb (vL a / 256 ^ i % vL b)).length cr ∧ Hid (Row .u8 wr ar (nb (vL a / 256 ^ i % vL b)).length cr (nI (nb (vL a / 256 ^ i % vL b)))) ∧ Hid (Below w.heap.size w wr)) (fun _ y _ => (intOf y + 1).toNat)
  case atStart =>
    refine ⟨la, 0, none, Nat.le_refl _, by go_num, ?_, ?_, Below.refl _ _⟩
    · rw [HStart.out, nb_zero]; rfl
    · rw [HStart.out, nb_zero]
      exact ⟨rfl, Nat.le_refl _, Nat.zero_le _, fun _ => rfl, fun h => absurd h (by simp)⟩
  case round =>
    obtain ⟨i, cr, ar, hi, rfl, rfl, HR, HB⟩ := hrel
    by_cases hi0' : i = 0
    · subst hi0'
      have R := HR.out
      rw [HEnd.out] at R ⊢
      go_wp2
      go_ret
      exact ⟨_, _, rfl, R, HB.out⟩
    · obtain ⟨j, rfl⟩ : ∃ j, i = j + 1 := ⟨i - 1, by omega⟩
      have ek : (((j + 1 : Nat) : Int) - 1) = (j : Int) := by omega
      rw [ek]
      clear ek hi0'
      obtain ⟨bA, oA, rfl, hbA, hcA⟩ := (ra.below HB.out (Nat.le_refl _)).hcell (by omega)
      have hcA1 := hcA j (by omega)
      clear hcA
      rw [nI_dg] at hcA1
      have hda := da.at j
      have HD : Hid (dg a j = vL a / 256 ^ j % 256) := dg_of da j
      obtain ⟨s, hs⟩ : ∃ s, s = vL a / 256 ^ (j + 1) % vL b := ⟨_, rfl⟩
      have hsM : s < vL b := by rw [hs]; exact Nat.mod_lt _ HM.out
      have HRN : Hid ((s * 256 + dg a j) % vL b = vL a / 256 ^ j % vL b) := by show _ = _; rw [HD.out, hs]; exact rest_next
      have HRL : Hid (s * 256 + dg a j < vL b * 2 ^ 8) := by show _ < _; rw [HD.out, hs]; exact rest_lt HM.out
      rw [← hs] at HR ⊢
      have HSL : Hid ((nb s).length ≤ lb + 1) := HML.out s (by show _ < vL b * 256; omega)
      clear hs HD
      have HDC : Hid (Dig (dg a j :: nb s)) := fun x hx => by
        rcases List.mem_cons.1 hx with rfl | hx
        · exact hda
        · exact dig_nb s x hx
      have HVC : Hid (vL (dg a j :: nb s) = s * 256 + dg a j) := by show _ = _; rw [vL_cons, vL_nb]; omega
      obtain ⟨n, hn⟩ : ∃ n, (nb s).length = n := ⟨_, rfl⟩
      have HNL : Hid ((nb s).length = n) := hn
      rw [hn] at HR HSL ⊢
      clear hn
      generalize hdd : dg a j = d at *
      have hsl := HSL.out
      have hown : (wr.alloc (.cells #[.int .u8 (d : Int)] 5)).ownsRow wr.heap.size 5 1 (.slice (some ⟨wr.heap.size, 0, none⟩) 1 1) 1 [.int .u8 (d : Int)] := World.ownsRow_lit (base := wr.heap.size) (e := 5) (size := 1) wr #[.int .u8 (d : Int)] 1 (Nat.le_refl _) (by decide) (by simp)
      have hrr := HR.out.below (below_one wr (.cells #[.int .u8 (d : Int)] 5)) (Nat.le_refl _)
      go_wp2_with (at_builtin; refine wpList_append_row _ rfl _ _ 22 rfl wr.heap.size 5 i0 (.int .u8 0) 1 Tryd.underlying22 hi0 hz0 hz1 hz2 rfl _ 1 [.int .u8 (d : Int)] rfl hown .u8 ar n cr _ rfl hrr (by unfold maxLen; omega) (by omega) (by simp) ?_)
      intro v' w2 hown2 hgrow2
      have q2 : Below wr.heap.size wr w2 := (below_one wr _).grown hgrow2 (by simp) (fun jj hj => by simp [Value.ownBlock] at hj; omega)
      obtain ⟨a2, c2, rfl, r2⟩ := row_of_owns (zs := nI (d :: nb s)) (k := .u8) (by simpa [nI] using hown2)
      clear hown2 hgrow2 hown hrr
      have cN := refNorm15_any (d :: nb s) HDC.out a2 (1 + n) c2 w2 r2 (by omega)
      rw [HVC.out] at cN
      have q02 : Below w.heap.size w w2 := HB.out.trans (q2.mono HB.out.size)
      go_wp2_with fail
      refine cN.mono ?_
      rintro e w3 ⟨a3, c3, rfl, r3, q3⟩
      have q03 : Below w.heap.size w w3 := q02.trans (q3.mono q02.size)
      clear cN HR HB q2 q3 q02 r2 HDC HVC HNL
      obtain ⟨r, hr⟩ : ∃ r, s * 256 + d = r := ⟨_, rfl⟩
      rw [hr] at HRN HRL r3 ⊢
      clear hr
      go_wp2_with fail
      go_loopw [5, 8] (fun v y wr => ∃ (k cr : Nat) (ar : Option Addr), k ≤ 8 ∧ y = .int .i64 ((2 ^ k / 2 : Nat) : Int) ∧ v = .slice ar (nb (r % (vL b * 2 ^ k))).length cr ∧ Hid (Row .u8 wr ar (nb (r % (vL b * 2 ^ k))).length cr (nI (nb (r % (vL b * 2 ^ k))))) ∧ Hid (Below w.heap.size w wr)) (fun _ y _ => (intOf y).toNat)
      case atStart =>
        refine ⟨8, c3, a3, Nat.le_refl _, by rfl, ?_, ?_, q03⟩
        · rw [Nat.mod_eq_of_lt HRL.out]
        · rw [Nat.mod_eq_of_lt HRL.out]; exact r3
      case round =>
        clear r3 q03
        obtain ⟨k, cr, ar, hk, rfl, rfl, HR, HB⟩ := hrel
        by_cases hk0 : k = 0
        · subst hk0
          have HE : Hid (r % (vL b * 2 ^ 0) = vL a / 256 ^ j % vL b) := by show _ = _; rw [Nat.pow_zero, Nat.mul_one]; exact HRN.out
          rw [HE.out] at HR ⊢
          rw [show ((2 ^ 0 / 2 : Nat) : Int) = 0 from rfl]
          go_wp2
          go_roundw
          case rel => exact ⟨j, cr, ar, by omega, by go_num, rfl, HR, HB⟩
          case measure => simp [intOf] <;> omega
        · obtain ⟨m, rfl⟩ : ∃ m, k = m + 1 := ⟨k - 1, by omega⟩
          have HH := half_rest (r := r) (j := m) HM.out
          have e2 : 2 ^ (m + 1) / 2 = 2 ^ m := by rw [Nat.pow_succ, Nat.mul_div_cancel _ (by decide)]
          rw [e2]
          have hW1 : 1 ≤ 2 ^ m := Nat.two_pow_pos m
          have hW2 : 2 ^ m ≤ 128 := Nat.pow_le_pow_right (n := 2) (j := 7) (by decide) (by omega)
          have HX : Hid ((nb (r % (vL b * 2 ^ (m + 1)))).length ≤ lb + 1) := HML.out _ (Nat.lt_of_le_of_lt (Nat.mod_le _ _) HRL.out)
          have HY : Hid ((nb (vL b * 2 ^ m)).length ≤ lb + 1) := HML.out _ (by
            have := Nat.mul_le_mul_left (vL b) hW2
            have := HM.out
            show _ < vL b * 256
            omega)
          have HVW : Hid (vL [2 ^ m] = 2 ^ m) := by show _ = _; simp [vL, vTo, dg]
          have HDW : Hid (Dig [2 ^ m]) := fun x hx => by rw [List.mem_singleton.1 hx]; omega
          have HW3 : Hid (∃ W, 2 ^ m = W) := ⟨_, rfl⟩
          obtain ⟨X, hX⟩ : ∃ X, r % (vL b * 2 ^ (m + 1)) = X := ⟨_, rfl⟩
          obtain ⟨Z, hZ⟩ : ∃ Z, r % (vL b * 2 ^ m) = Z := ⟨_, rfl⟩
          have HZ : Hid (r % (vL b * 2 ^ m) = Z) := hZ
          have HN : Hid (∀ (w' : World) (ar : Option Addr) (cr : Nat), (Row .u8 w' ar (nb (if vL b * 2 ^ m ≤ X then X - vL b * 2 ^ m else X)).length cr (nI (nb (if vL b * 2 ^ m ≤ X then X - vL b * 2 ^ m else X)))) → (Row .u8 w' ar (nb Z).length cr (nI (nb Z))) ∧ (nb Z).length = (nb (if vL b * 2 ^ m ≤ X then X - vL b * 2 ^ m else X)).length) := fun w' ar cr h => by
            rw [hX, hZ] at HH
            rw [← HH]
            exact ⟨h, rfl⟩
          rw [hX] at HR HX ⊢
          clear HH hX hZ e2 hk0
          have cM := fun a2 c2 w' ra2 rb2 => refMul15_any b [2 ^ m] ab a2 lb cb 1 c2 w' db HDW.out ra2 rb2 (by omega) (by omega)
          rw [HVW.out] at cM
          obtain ⟨Y, hY⟩ : ∃ Y, vL b * 2 ^ m = Y := ⟨_, rfl⟩
          rw [hY] at cM HN HY
          have HW4 : Hid (nI [2 ^ m] = [((2 ^ m : Nat) : Int)]) := rfl
          obtain ⟨W, hW⟩ : ∃ W, 2 ^ m = W := ⟨_, rfl⟩
          have HWM : Hid (W / 2 = 2 ^ m / 2) := by show _ = _; rw [hW]
          rw [hW] at cM HW4 hW1 hW2 ⊢
          clear hW hY HW3 HVW HDW
          have rl := row_new .u8 wr 5 wr.heap.size rfl [(W : Int)] 1 rfl (by decide) #[.int .u8 (W : Int)] rfl
          rw [← HW4.out] at rl
          have ql := below_one wr (.cells #[.int .u8 (W : Int)] 5)
          have cM1 := cM (some ⟨wr.heap.size, 0, none⟩) 1 (wr.alloc (.cells #[.int .u8 (W : Int)] 5)) ((rb.below HB.out (Nat.le_refl _)).below ql (Nat.le_refl _)) rl
          have hp1 : (0 : Int) < (W : Int) := by omega
          go_wp2_with fail
          refine cM1.mono ?_
          rintro e w4 ⟨a4, c4, rfl, r4, q4⟩
          replace q4 := btrans ql q4
          clear cM cM1 rl ql HW4
          have q04 : Below w.heap.size w w4 := HB.out.trans (q4.mono HB.out.size)
          have rx4 := HR.out.below q4 (Nat.le_refl _)
          have cK := refCmp15_any (nb X) (nb Y) ar a4 (nb X).length cr (nb Y).length c4 w4 (dig_nb X) (dig_nb Y) rx4 r4 (by have := HX.out; omega) (by have := HY.out; omega)
          rw [vL_nb, vL_nb] at cK
          have hcl := cmp_bounds X Y
          have hcg : 0 ≤ cmpN X Y ↔ Y ≤ X := by
            unfold cmpN
            split
            · omega
            · split <;> omega
          generalize cmpN X Y = cc at *
          clear HR HB q4
          by_cases hge : Y ≤ X
          · have hc0 : 0 ≤ cc := hcg.2 hge
            have cS := refSub15_any (nb X) (nb Y) ar a4 (nb X).length cr (nb Y).length c4 w4 (dig_nb X) (dig_nb Y) rx4 r4 (by have := HX.out; omega) (by have := HY.out; omega)
            rw [vL_nb, vL_nb] at cS
            have HN2 : Hid (∀ (w' : World) (ar : Option Addr) (cr : Nat), (Row .u8 w' ar (nb (X - Y)).length cr (nI (nb (X - Y)))) → (Row .u8 w' ar (nb Z).length cr (nI (nb Z))) ∧ (nb Z).length = (nb (X - Y)).length) := by
              have := HN.out
              rwa [if_pos hge] at this
            clear HN hcg hge
            generalize nb X = zX at *
            generalize nb Y = zY at *
            generalize nb (X - Y) = zD at *
            go_wp2_with fail
            refine cK.mono ?_
            rintro e w' ⟨rfl, rfl⟩
            go_wp2_with fail
            refine cS.mono ?_
            rintro e w5 ⟨a5, c5, rfl, r5, q5⟩
            have q05 : Below w.heap.size w w5 := q04.trans (q5.mono q04.size)
            have R := HN2.out w5 a5 c5 r5
            clear cK cS HN2
            go_wp2
            go_roundw
            case rel => exact ⟨m, c5, a5, by omega, by rw [← HWM.out]; go_num, by rw [HZ.out, R.2], by rw [HZ.out]; exact R.1, q05⟩
            case measure => simp [intOf] <;> omega
          · have hc0 : ¬ 0 ≤ cc := fun h => hge (hcg.1 h)
            have HN2 : Hid (∀ (w' : World) (ar : Option Addr) (cr : Nat), (Row .u8 w' ar (nb X).length cr (nI (nb X))) → (Row .u8 w' ar (nb Z).length cr (nI (nb Z))) ∧ (nb Z).length = (nb X).length) := by
              have := HN.out
              rwa [if_neg hge] at this
            have R := HN2.out w4 ar cr rx4
            clear HN hcg hge HN2
            generalize nb X = zX at *
            generalize nb Y = zY at *
            go_wp2_with fail
            refine cK.mono ?_
            rintro e w' ⟨rfl, rfl⟩
            clear cK
            go_wp2
            go_roundw
            case rel => exact ⟨m, cr, ar, by omega, by rw [← HWM.out]; go_num, by rw [HZ.out, R.2], by rw [HZ.out]; exact R.1, q04⟩
            case measure => simp [intOf] <;> omega
end Go.Proofs.YtgofapndgjfnhaaDoor.N
