/-
  Layer 12's laws: awake: the chapter's examples.
-/
import Derived.Test.YtgamakejaknagaaGreatScrubLaw
import Derived.Lib.SlBytesConst
namespace Go.Proofs.YtgamakejaknagaaGreat
open Go.RowKit Go.Maps
set_option linter.unusedVariables false
set_option maxRecDepth 8192

/-- awake's geometry. -/
def G12 : Geo := ⟨5, 3, 1, 16, 1, 16, 2, 18, 19, ⟨by decide, by decide, by decide, by decide, by decide, by decide, by decide, by decide, by decide, by decide, by decide⟩⟩
theorem isB_def : IsB [100, 101, 102] := fun z hz => by simp only [List.mem_cons, List.not_mem_nil, or_false] at hz; omega
theorem cnt_one : cntP G12 (flipW 19 [3] 1) = 1 := by decide +kernel
section
variable {W w w' : World} {G : Geo} {B : CB} {F F' : Nat → Prop} {N N' : Nat} {S S' : CS} {K K' : Int → BK} {M M' : Int → Option (List Int)} {c : Int} {d s g : Nat} {st st' : List Int} {nu nu' : Int}
/-- Unlike logical blocks stand in unlike blocks. -/
theorem LS.unlike (h : LS W G B F N S K M c d s g st nu w) {i j : Nat} (hi : i < st.length) (hj : j < st.length) (hij : i ≠ j) {D E : List Int} (mi : M i = some D) (mj : M j = some E) : st[i]?.getD 0 ≠ st[j]?.getD 0 := by
  rcases h.stands hi with ⟨e, _⟩ | ⟨D1, n1, _, b1⟩
  · rw [mi] at e; cases e
  · rcases h.stands hj with ⟨e, _⟩ | ⟨D2, n2, _, b2⟩
    · rw [mj] at e; cases e
    · intro e
      have h1 := b1.is
      rw [e, b2.is] at h1
      simp only [BK.copy.injEq] at h1
      omega
theorem LS.inb (h : LS W G B F N S K M c d s g st nu w) {i : Nat} (hi : i < st.length) {D : List Int} (mi : M i = some D) : 0 ≤ st[i]?.getD 0 ∧ st[i]?.getD 0 < G.b := by
  rcases h.stands hi with ⟨e, _⟩ | ⟨D1, n1, _, b1⟩
  · rw [mi] at e; cases e
  · exact b1.good.1
end
theorem awake_worn {S : CS} {st : List Int} {M : Int → Option (List Int)} (hl : st.length = 2) (hc : ∀ y p, S.wr y p = fun _ => false) (hm0 : M ((0 : Nat) : Int) = some [97, 98, 99]) (hm1 : M ((1 : Nat) : Int) = some [100, 101, 102]) (hx : st[0]?.getD 0 ≠ st[1]?.getD 0) (hin : (0 : Int) ≤ st[1]?.getD 0 ∧ st[1]?.getD 0 < 5) :
    wornTo (wornB G12 (S.doFlip G12 (st[1]?.getD 0) 0 [3]) st M 1) st.length = [1] := by
  have hp : hasP G12 (st[1]?.getD 0) 0 = true := by
    unfold hasP
    rw [Bool.and_eq_true]
    exact ⟨inB0_of hin, inB0_of (by decide)⟩
  have hwr : ∀ y p, (S.doFlip G12 (st[1]?.getD 0) 0 [3]).wr y p = if y = st[1]?.getD 0 ∧ p = 0 then flipW 19 [3] 1 else fun _ => false := fun y p => by
    unfold CS.doFlip
    rw [if_pos hp]
    unfold CS.flipped
    dsimp only
    rw [hc]
    rfl
  rw [hl]
  have h0 : wornB G12 (S.doFlip G12 (st[1]?.getD 0) 0 [3]) st M 1 0 = false := by
    unfold wornB cntJ
    rw [mostW_none G12 _ _ (fun p => by rw [hwr, if_neg (fun h => hx h.1)])]
    simp
  have h1 : wornB G12 (S.doFlip G12 (st[1]?.getD 0) 0 [3]) st M 1 1 = true := by
    unfold wornB cntJ
    rw [hm1]
    have e : mostW G12 ((S.doFlip G12 (st[1]?.getD 0) 0 [3]).wr (st[1]?.getD 0)) (pagesOf G12.R ((some [100, 101, 102] : Option (List Int)).getD []).length) = 1 := by
      rw [show pagesOf G12.R ((some [100, 101, 102] : Option (List Int)).getD []).length = 0 + 1 from by decide]
      show max (cntP G12 _) (cntP G12 _) = 1
      rw [hwr, hwr, if_pos ⟨rfl, rfl⟩, if_neg (fun h => by have := h.2; omega), cnt_one, cntP_none]
      rfl
    rw [e]
    rfl
  rw [show (2 : Nat) = 0 + 1 + 1 from rfl, wornTo_hit h1, wornTo_miss h0]
  rfl
set_option maxHeartbeats 3200000 in
theorem awake12_any (w : World) : Calls Tryz.prog 12 #[] w fun e w' => e = .returned (.bool true) ∧ Below w.heap.size w w' := by
  go_enter Tryz.func12, Tryz.ntmps12
  go_wp2_with fail
  refine (tiny12_any w).mono ?_
  rintro e w1 ⟨rfl, q1⟩
  go_wp2_with fail
  refine (open12_any G12 2 (by omega) (by omega) w1).mono ?_
  rintro e w2 ⟨B, F, d, s, g, st, nu, rfl, hl, h2⟩
  have r3 := row_mark11 .u8 w2 5 (3, 4) [97, 98, 99] 3 rfl (by unfold maxLen; omega) #[.int .u8 97, .int .u8 98, .int .u8 99] rfl
  have q3 := below_one w2 (.cells #[.int .u8 97, .int .u8 98, .int .u8 99] 5 (3, 4))
  have kc := Lib.run_convert_bytes_const (P := Tryz.prog) w2 33 5 #[.int .u8 97, .int .u8 98, .int .u8 99] 3 3 Tryz.underlying33 Tryz.underlying5
  have o3 := h2.new r3 (fun _ q hq => by cases hq; exact Nat.le_refl _)
  have h3 := h2.below q3
  clear r3 q3 h2
  have hch := h3.change 0 (by omega) [97, 98, 99] _ _ _ o3 isB_abc (by decide) (by decide) (by decide)
  go_wp2_with fail
  clear kc
  refine hch.mono ?_
  rintro e w4 ⟨r, rfl, hc⟩
  obtain ⟨y, hy, hys⟩ := free_of st G12.b (by rw [hl]; decide)
  have hr := chg_well hc rfl y hy hys rfl rfl
  subst hr
  clear hch o3 h3
  rcases hc with ⟨F4, S4, K4, st4, nu4, _, h4, hst4, _, wk4, ah4, cl4, _, on4, _, _⟩ | ⟨_, _, _, _, hr, _⟩ | ⟨_, _, _, _, _, hr, _⟩
  rotate_left
  · cases hr
  · cases hr
  have hl4 : st4.length = 2 := by rw [hst4]; exact hl
  have well4 : Well S4 := Well.next ⟨fun _ => rfl, fun _ => rfl⟩ wk4 on4
  have r5 := row_mark11 .u8 w4 5 (3, 4) [100, 101, 102] 3 rfl (by unfold maxLen; omega) #[.int .u8 100, .int .u8 101, .int .u8 102] rfl
  have q5 := below_one w4 (.cells #[.int .u8 100, .int .u8 101, .int .u8 102] 5 (3, 4))
  have kc := Lib.run_convert_bytes_const (P := Tryz.prog) w4 33 5 #[.int .u8 100, .int .u8 101, .int .u8 102] 3 3 Tryz.underlying33 Tryz.underlying5
  have o5 := h4.new r5 (fun _ q hq => by cases hq; exact Nat.le_refl _)
  have h5 := h4.below q5
  clear r5 q5 h4
  have hch := h5.change 1 (by omega) [100, 101, 102] _ _ _ o5 isB_def (by decide) (by decide) (by decide)
  go_wp2_with fail
  clear kc
  refine hch.mono ?_
  rintro e w6 ⟨r, rfl, hc⟩
  obtain ⟨y, hy, hys⟩ := free_of st4 G12.b (by rw [hl4]; decide)
  have hr := chg_well hc (ah4 rfl) y hy hys (well4.bd y) (well4.wk y)
  subst hr
  clear hch o5 h5
  rcases hc with ⟨F6, S6, K6, st6, nu6, _, h6, hst6, _, wk6, ah6, cl6, _, on6, _, _⟩ | ⟨_, _, _, _, hr, _⟩ | ⟨_, _, _, _, _, hr, _⟩
  rotate_left
  · cases hr
  · cases hr
  have hl6 : st6.length = 2 := by rw [hst6]; exact hl4
  have well6 : Well S6 := well4.next wk6 on6
  have hm0 : updM (updM (fun _ => none) ((0 : Nat) : Int) (some [97, 98, 99])) ((1 : Nat) : Int) (some [100, 101, 102]) ((0 : Nat) : Int) = some [97, 98, 99] := rfl
  have hm1 : updM (updM (fun _ => none) ((0 : Nat) : Int) (some [97, 98, 99])) ((1 : Nat) : Int) (some [100, 101, 102]) ((1 : Nat) : Int) = some [100, 101, 102] := rfl
  have hin := h6.inb (i := 1) (by omega) hm1
  have HW : Hid (wornTo (wornB G12 (S6.doFlip G12 (st6[1]?.getD 0) 0 [3]) st6 _ 1) st6.length = [1]) := awake_worn hl6 (cl6 (cl4 (fun _ _ => rfl))) hm0 hm1 (h6.unlike (by omega) (by omega) (by decide) hm0 hm1) hin
  have r7 := row_mark11 .i64 w6 3 (0, 0) [3] 1 rfl (by unfold maxLen; omega) #[.int .i64 3] rfl
  have o7 := h6.new r7 (fun _ q hq => by cases hq; exact Nat.le_refl _)
  have h7 := h6.below (below_one w6 (.cells #[.int .i64 3] 3))
  have hsp := spoil12_yes h7 1 (by omega) hm1 0 (by unfold I64; omega) _ 1 1 [3] o7 ⟨by decide, fun q hq => by rw [List.mem_singleton.1 hq]; decide⟩ (by decide)
  rw [hl6] at hsp
  have AH : Hid (S6.ah = 0) := ah6 (ah4 rfl)
  have HWELL : Hid (Well (S6.doFlip G12 (st6[1]?.getD 0) 0 [3])) := by
    refine ⟨fun z => ?_, fun z => ?_⟩
    · have : (S6.doFlip G12 (st6[1]?.getD 0) 0 [3]).bd = S6.bd := by unfold CS.doFlip; split <;> rfl
      rw [this]; exact well6.bd z
    · have : (S6.doFlip G12 (st6[1]?.getD 0) 0 [3]).wk = S6.wk := by unfold CS.doFlip; split <;> rfl
      rw [this]; exact well6.wk z
  have HAH : Hid ((S6.doFlip G12 (st6[1]?.getD 0) 0 [3]).ah = 0) := by
    have : (S6.doFlip G12 (st6[1]?.getD 0) 0 [3]).ah = S6.ah := by unfold CS.doFlip; split <;> rfl
    show _ = _
    rw [this]; exact AH.out
  clear r7 o7 h7 h6 hin well6 well4 ah4 ah6 cl4 cl6 on4 on6 AH hm0 hm1
  go_wp2_with fail
  refine hsp.mono ?_
  rintro e w8 ⟨⟨r, rfl⟩, F8, h8, _⟩
  clear hsp
  generalize S6.doFlip G12 (st6[1]?.getD 0) 0 [3] = S8 at *
  generalize updM (updM (fun _ => none) ((0 : Nat) : Int) (some [97, 98, 99])) ((1 : Nat) : Int) (some [100, 101, 102]) = M at *
  have hwn := worn_any h8 1 (by omega)
  rw [HW.out] at hwn
  have H8 : Hid _ := h8
  clear h8
  go_wp2_with fail
  refine hwn.mono ?_
  rintro e w9 ⟨v, rfl, own, q9⟩
  clear hwn
  obtain ⟨a9, c9, rfl, r9⟩ := row_of_owns own
  have o9 := LS.new H8.out r9 (fun h0 q hq => by
    obtain ⟨g', h1, h2⟩ := owns_head own h0
    rw [h2] at hq
    cases hq
    exact h1)
  have h9 := LS.below H8.out q9
  clear own r9 q9 H8
  have hal := all_well h9 1 (by omega) HWELL.out (by rw [hl6]; decide) (by decide) (by decide) (by decide)
  rw [HW.out] at hal
  clear h9
  go_wp2_with fail
  refine hal.mono ?_
  rintro e w10 ⟨r, a10, k10, c10, rfl, hai⟩
  clear hal
  rcases hai with ⟨F10, S10, K10, st10, nu10, rfl, r10, h10, mv, q10⟩ | ⟨_, _, _, _, _, _, _, _, hah⟩
  rotate_left
  · exact absurd HAH.out hah
  have o10 := o9.step q10
  have hl10 : st10.length = 2 := by rw [mv.len]; exact hl6
  have HNO : Hid (wornTo (wornB G12 S10 st10 M 1) st10.length = []) := by
    rw [← HW.out] at mv
    refine wornTo_none fun j hj => mv.none (by omega) j (by rw [← mv.len]; exact hj)
  have hwn := worn_any h10 1 (by omega)
  rw [HNO.out] at hwn
  have Q10 : Hid (Below w.heap.size w w10) := btrans q1 h10.bel
  clear o9 q10 h10 mv HNO
  go_wp2_with fail
  refine hwn.mono ?_
  rintro e w11 ⟨v, rfl, own, q11⟩
  clear hwn
  obtain ⟨a11, c11, rfl, r11⟩ := row_of_owns own
  clear own r11
  have ra := o10.row.below q11 (Nat.le_refl _)
  have rb := r10.below q11 (Nat.le_refl _)
  have Q11 : Hid (Below w.heap.size w w11) := btrans Q10.out q11
  have hk10 : k10 = 1 := by have := r10.hlen; simpa using this.symm
  subst hk10
  clear o10 r10 q11 Q10
  go_wp2_with fail
  refine (worn_nil 1 _).mono ?_
  rintro e w12 ⟨rfl, rfl⟩
  have q12 := below_one w11 (.cells #[.int .i64 1] 3)
  have rc := row_mark11 .i64 w11 3 (0, 0) [1] 1 rfl (by unfold maxLen; omega) #[.int .i64 1] rfl
  have hi1 := ints_any _ _ _ _ _ _ _ _ _ (ra.below q12 (Nat.le_refl _)) rc
  rw [decide_eq_true (rfl : ([1] : List Int) = [1])] at hi1
  go_wp2_with fail
  refine hi1.mono ?_
  rintro e w13 ⟨rfl, q13⟩
  clear hi1 rc
  have q14 := below_one w13 (.cells #[.int .i64 1] 3)
  have rd := row_mark11 .i64 w13 3 (0, 0) [1] 1 rfl (by unfold maxLen; omega) #[.int .i64 1] rfl
  have q15 := btrans (btrans q12 q13) q14
  have hi2 := ints_any _ _ _ _ _ _ _ _ _ (rb.below q15 (Nat.le_refl _)) rd
  rw [decide_eq_true (rfl : ([1] : List Int) = [1])] at hi2
  go_wp2_with fail
  refine hi2.mono ?_
  rintro e w16 ⟨rfl, q16⟩
  have Q16 : Hid (Below w.heap.size w w16) := btrans (btrans Q11.out q15) q16
  clear hi2 rd q15 q16 q14 q13 q12
  go_wp2_with fail
  go_ret
  exact ⟨rfl, Q16.out⟩
end Go.Proofs.YtgamakejaknagaaGreat
