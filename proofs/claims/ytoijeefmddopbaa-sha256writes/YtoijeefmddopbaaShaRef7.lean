/-
  Layer 13's reference: Block. (Written by tools/gen/sha_refblock.py.)
-/
import Derived.Test.YtoijeefmddopbaaShaRef6
namespace Go.Proofs.Ytoijeefmddopbaa
open Go.RowKit
set_option linter.unusedVariables false
set_option maxRecDepth 8192

theorem plus_get (s q : S8) (i : Nat) (hi : i < 8) : (s.plus q).list[i]?.getD 0 = (s.list[i]?.getD 0 + q.list[i]?.getD 0) % 4294967296 := by
  rcases (show i = 0 ∨ i = 1 ∨ i = 2 ∨ i = 3 ∨ i = 4 ∨ i = 5 ∨ i = 6 ∨ i = 7 by omega) with rfl | rfl | rfl | rfl | rfl | rfl | rfl | rfl <;> rfl
theorem list8_lt {s : S8} (h : s.Ok) (i : Nat) : s.list[i]?.getD 0 < 4294967296 := getD_lt (by decide) (by
  intro x hx
  simp only [S8.list, List.mem_cons, List.not_mem_nil, or_false] at hx
  obtain ⟨ha, hb, hc, hd, he, hf, hg, hh⟩ := h
  rcases hx with rfl | rfl | rfl | rfl | rfl | rfl | rfl | rfl <;> assumption) i
set_option maxHeartbeats 6400000 in
theorem refBlock13 (K : List Nat) (s : S8) (z : List Nat) (aK aS aZ : Option Addr) (cK cS cZ : Nat) (w : World) (hs : s.Ok) (hKl : ∀ x ∈ K, x < 4294967296) (hrK : Row .i64 w aK 64 cK (nI K)) (hrS : Row .i64 w aS 8 cS (nI s.list)) (hrZ : Row .u8 w aZ 64 cZ (nI z)) (hz : ∀ x ∈ z, x < 256) :
    Calls Try.prog 20 #[.slice aK 64 cK, .slice aS 8 cS, .slice aZ 64 cZ] w fun e w' => ∃ v, e = .returned v ∧ w'.ownsRow w.heap.size 3 1 v 8 ((nI (mixL K s z).list).map (Value.int .i64)) ∧ Below w.heap.size w w' := by
  obtain ⟨i0, hi0, hz0, hz1, hz2⟩ := info_parts Try.info3
  have HKl : Hid (∀ x ∈ K, x < 4294967296) := hKl
  clear hKl
  go_enter Try.func20, Try.ntmps20
  go_wp2_with fail
  refine (refWords13 z aZ cZ _ hrZ hz).mono ?_
  rintro e w1 ⟨v1, rfl, own1, q1⟩
  obtain ⟨aW, cW, rfl, rowW⟩ := row_of_owns own1
  clear own1
  have s1 := q1.size
  have HFin : Hid (∀ q, rndTo s K (spreadL z) 64 = q → mixL K s z = s.plus q) := fun q hq => by unfold mixL; rw [hq]
  have HS : Hid (∀ x ∈ spreadL z, x < 4294967296) := spreadL_lt z hz
  generalize spreadL z = W at *
  clear hrZ hz
  have rowK := hrK.below q1 (Nat.le_refl _)
  have rowS := hrS.below q1 (Nat.le_refl _)
  clear hrK hrS
  go_wp2_with (at_builtin; refine wpList_append_row _ rfl _ _ 22 rfl w1.heap.size 3 i0 (.int .i64 0) 8 Try.underlying22 hi0 hz0 hz1 hz2 rfl _ 0 [] rfl (World.ownsRow_nil _ _ _ _) .i64 aS 8 cS _ rfl rowS (by unfold maxLen; omega) (by omega) (Nat.le_refl _) ?_)
  intro v2 w2 own2 hg2
  have q2 : Below w1.heap.size w1 w2 := (Below.refl _ _).grown hg2 (Nat.le_refl _) (by simp [Value.ownBlock])
  clear hg2
  obtain ⟨a2, c2, rfl, row2⟩ := row_of_owns own2
  clear own2
  go_wp2
  go_loopw [8, 9] (fun v y wr => ∃ (k a b c d e f g h : Nat) (a8 : Option Addr) (c8 : Nat), k ≤ 64 ∧ y = .int .i64 (k : Int) ∧ v = .slice a8 8 c8 ∧ Hid (rndTo s K W k = ⟨a, b, c, d, e, f, g, h⟩) ∧ Hid (Row .i64 wr a8 8 c8 (nI [a, b, c, d, e, f, g, h])) ∧ Hid (Below w1.heap.size w1 wr)) (fun _ y _ => 64 - (intOf y).toNat)
  case atStart => exact ⟨0, s.a, s.b, s.c, s.d, s.e, s.f, s.g, s.h, a2, c2, by omega, rfl, rfl, rfl, row2, q2⟩
  case round =>
    clear row2 q2
    obtain ⟨k, a, b, c, d, e, f, g, h, a8, c8, hk, rfl, rfl, HQ, HR, HB⟩ := hrel
    have hok := hs.to K W k
    rw [HQ.out] at hok
    obtain ⟨ba, bb, bc, bd, be, bf, bg, bh⟩ := hok
    dsimp only at ba bb bc bd be bf bg bh
    by_cases hlt : k < 64
    · obtain ⟨bK, oK, rfl, _, hcK⟩ := (rowK.below HB.out (Nat.le_refl _)).hcell (by decide)
      have cK1 := hcK k hlt
      clear hcK
      obtain ⟨bW, oW, rfl, _, hcW⟩ := (rowW.below HB.out (Nat.le_refl _)).hcell (by decide)
      have cW1 := hcW k hlt
      clear hcW
      rw [nI_get] at cK1 cW1
      have lK := getD_lt (by decide) HKl.out k
      have lW := getD_lt (by decide) HS.out k
      obtain ⟨b8, o8, rfl, hb8, hc8⟩ := HR.out.hcell (by decide)
      have x0 : wr.cell? ⟨b8, o8, none⟩ = some (.int .i64 (a : Int)) := hc8 0 (by decide)
      have x1 : wr.cell? ⟨b8, o8 + 1, none⟩ = some (.int .i64 (b : Int)) := hc8 1 (by decide)
      have x2 : wr.cell? ⟨b8, o8 + 2, none⟩ = some (.int .i64 (c : Int)) := hc8 2 (by decide)
      have x3 : wr.cell? ⟨b8, o8 + 3, none⟩ = some (.int .i64 (d : Int)) := hc8 3 (by decide)
      have x4 : wr.cell? ⟨b8, o8 + 4, none⟩ = some (.int .i64 (e : Int)) := hc8 4 (by decide)
      have x5 : wr.cell? ⟨b8, o8 + 5, none⟩ = some (.int .i64 (f : Int)) := hc8 5 (by decide)
      have x6 : wr.cell? ⟨b8, o8 + 6, none⟩ = some (.int .i64 (g : Int)) := hc8 6 (by decide)
      have x7 : wr.cell? ⟨b8, o8 + 7, none⟩ = some (.int .i64 (h : Int)) := hc8 7 (by decide)
      clear hc8
      have HN : Hid (rndTo s K W (k + 1) = ⟨((h + (rr e 6 ^^^ rr e 11 ^^^ rr e 25) + ((e &&& f) ^^^ ((4294967295 - e) &&& g)) + K[k]?.getD 0 + W[k]?.getD 0) + ((rr a 2 ^^^ rr a 13 ^^^ rr a 22) + ((a &&& b) ^^^ (a &&& c) ^^^ (b &&& c)))) % 4294967296, a, b, c, (d + (h + (rr e 6 ^^^ rr e 11 ^^^ rr e 25) + ((e &&& f) ^^^ ((4294967295 - e) &&& g)) + K[k]?.getD 0 + W[k]?.getD 0)) % 4294967296, e, f, g⟩) := by
        show (rndTo s K W k).rnd _ _ = _
        rw [HQ.out]
        rfl
      generalize K[k]?.getD 0 = kk at *
      generalize W[k]?.getD 0 = ww at *
      have kE : ∀ w, Calls Try.prog 39 #[.int .i64 (e : Int), .int .i64 6, .int .i64 11, .int .i64 25] w fun e' w' => e' = .returned (.int .i64 ((rr e 6 ^^^ rr e 11 ^^^ rr e 25 : Nat) : Int)) ∧ ∃ m, w' = w.drewN m := fun w => refThree_any e 6 11 25 w be (by decide) (by decide) (by decide) (by decide) (by decide) (by decide)
      have kA : ∀ w, Calls Try.prog 39 #[.int .i64 (a : Int), .int .i64 2, .int .i64 13, .int .i64 22] w fun e' w' => e' = .returned (.int .i64 ((rr a 2 ^^^ rr a 13 ^^^ rr a 22 : Nat) : Int)) ∧ ∃ m, w' = w.drewN m := fun w => refThree_any a 2 13 22 w ba (by decide) (by decide) (by decide) (by decide) (by decide) (by decide)
      have f2 : rr e 6 ^^^ rr e 11 ^^^ rr e 25 < 4294967296 := bg1_lt be
      have f4 : rr a 2 ^^^ rr a 13 ^^^ rr a 22 < 4294967296 := bg0_lt ba
      generalize rr e 6 ^^^ rr e 11 ^^^ rr e 25 = y2 at *
      generalize rr a 2 ^^^ rr a 13 ^^^ rr a 22 = y4 at *
      have e5 := fun w => refAnd_any e f w be bf
      have f5 : e &&& f < 4294967296 := alt bf
      generalize e &&& f = y5 at *
      have e0 := fun w => refNot_any e w be
      have hne : 4294967295 - e < 4294967296 := by omega
      have e6 := fun w => refAnd_any (4294967295 - e) g w hne bg
      have f6 : (4294967295 - e) &&& g < 4294967296 := alt bg
      generalize (4294967295 - e) &&& g = y6 at *
      generalize 4294967295 - e = ne at *
      have e7 := fun w => refXor_any y5 y6 w f5 f6
      have f7 := xlt f5 f6
      generalize y5 ^^^ y6 = y7 at *
      have e8 := fun w => refAnd_any a b w ba bb
      have f8 : a &&& b < 4294967296 := alt bb
      generalize a &&& b = y8 at *
      have e9 := fun w => refAnd_any a c w ba bc
      have f9 : a &&& c < 4294967296 := alt bc
      generalize a &&& c = y9 at *
      have e10 := fun w => refAnd_any b c w bb bc
      have f10 : b &&& c < 4294967296 := alt bc
      generalize b &&& c = y10 at *
      have e11 := fun w => refXor_any y8 y9 w f8 f9
      have f11 := xlt f8 f9
      generalize y8 ^^^ y9 = y11 at *
      have e12 := fun w => refXor_any y11 y10 w f11 f10
      have f12 := xlt f11 f10
      generalize y11 ^^^ y10 = y12 at *
      have hbel := HB.out
      clear HB HR
      go_wp2_with fail
      go_quiet (first
        | (go_at_call 37; with_reducible exact quietW (e5 _))
        | (go_at_call 38; with_reducible exact quietW (e0 _))
        | (go_at_call 37; with_reducible exact quietW (e6 _))
        | (go_at_call 36; with_reducible exact quietW (e7 _)))
      replace x0 : (wr.drewN nq).cell? ⟨b8, o8, none⟩ = some (.int .i64 (a : Int)) := x0
      replace x1 : (wr.drewN nq).cell? ⟨b8, o8 + 1, none⟩ = some (.int .i64 (b : Int)) := x1
      replace x2 : (wr.drewN nq).cell? ⟨b8, o8 + 2, none⟩ = some (.int .i64 (c : Int)) := x2
      replace x3 : (wr.drewN nq).cell? ⟨b8, o8 + 3, none⟩ = some (.int .i64 (d : Int)) := x3
      replace x4 : (wr.drewN nq).cell? ⟨b8, o8 + 4, none⟩ = some (.int .i64 (e : Int)) := x4
      replace x5 : (wr.drewN nq).cell? ⟨b8, o8 + 5, none⟩ = some (.int .i64 (f : Int)) := x5
      replace x6 : (wr.drewN nq).cell? ⟨b8, o8 + 6, none⟩ = some (.int .i64 (g : Int)) := x6
      replace x7 : (wr.drewN nq).cell? ⟨b8, o8 + 7, none⟩ = some (.int .i64 (h : Int)) := x7
      replace cK1 : (wr.drewN nq).cell? ⟨bK, oK + k, none⟩ = some (.int .i64 (kk : Int)) := cK1
      replace cW1 : (wr.drewN nq).cell? ⟨bW, oW + k, none⟩ = some (.int .i64 (ww : Int)) := cW1
      replace hbel : Below w1.heap.size w1 (wr.drewN nq) := belowN hbel _
      replace hb8 : b8 < (wr.drewN nq).heap.size := hb8
      go_wp2_with fail
      generalize wr.drewN nq = wa at *
      go_quiet (first
        | (go_at_call 37; with_reducible exact quietW (e8 _))
        | (go_at_call 37; with_reducible exact quietW (e9 _))
        | (go_at_call 37; with_reducible exact quietW (e10 _))
        | (go_at_call 36; with_reducible exact quietW (e11 _))
        | (go_at_call 36; with_reducible exact quietW (e12 _)))
      clear e5 e0 e6 e7 e8 e9 e10 e11 e12
      replace x0 : (wa.drewN nq).cell? ⟨b8, o8, none⟩ = some (.int .i64 (a : Int)) := x0
      replace x1 : (wa.drewN nq).cell? ⟨b8, o8 + 1, none⟩ = some (.int .i64 (b : Int)) := x1
      replace x2 : (wa.drewN nq).cell? ⟨b8, o8 + 2, none⟩ = some (.int .i64 (c : Int)) := x2
      replace x3 : (wa.drewN nq).cell? ⟨b8, o8 + 3, none⟩ = some (.int .i64 (d : Int)) := x3
      replace x4 : (wa.drewN nq).cell? ⟨b8, o8 + 4, none⟩ = some (.int .i64 (e : Int)) := x4
      replace x5 : (wa.drewN nq).cell? ⟨b8, o8 + 5, none⟩ = some (.int .i64 (f : Int)) := x5
      replace x6 : (wa.drewN nq).cell? ⟨b8, o8 + 6, none⟩ = some (.int .i64 (g : Int)) := x6
      replace x7 : (wa.drewN nq).cell? ⟨b8, o8 + 7, none⟩ = some (.int .i64 (h : Int)) := x7
      replace cK1 : (wa.drewN nq).cell? ⟨bK, oK + k, none⟩ = some (.int .i64 (kk : Int)) := cK1
      replace cW1 : (wa.drewN nq).cell? ⟨bW, oW + k, none⟩ = some (.int .i64 (ww : Int)) := cW1
      replace hbel : Below w1.heap.size w1 (wa.drewN nq) := belowN hbel _
      replace hb8 : b8 < (wa.drewN nq).heap.size := hb8
      go_wp2_with fail
      generalize wa.drewN nq = wb at *
      go_quiet (first
        | (go_at_call 39; with_reducible exact Calls.quiet_of (kE _)))
      clear kE
      obtain ⟨t1, ht1⟩ : ∃ t1, h + y2 + y7 + kk + ww = t1 := ⟨_, rfl⟩
      obtain ⟨t2, ht2⟩ : ∃ t2, y4 + y12 = t2 := ⟨_, rfl⟩
      have eT1 : (h : Int) + (y2 : Int) + (y7 : Int) + (kk : Int) + (ww : Int) = (t1 : Int) := by omega
      have eT2 : (y4 : Int) + (y12 : Int) = (t2 : Int) := by omega
      have l1 : t1 < 25769803776 := by omega
      have l2 : t2 < 25769803776 := by omega
      rw [ht1, ht2] at HN
      clear ht1 ht2
      rw [eT1]
      clear eT1
      replace x0 : (wb.drewN nq).cell? ⟨b8, o8, none⟩ = some (.int .i64 (a : Int)) := x0
      replace x1 : (wb.drewN nq).cell? ⟨b8, o8 + 1, none⟩ = some (.int .i64 (b : Int)) := x1
      replace x2 : (wb.drewN nq).cell? ⟨b8, o8 + 2, none⟩ = some (.int .i64 (c : Int)) := x2
      replace x3 : (wb.drewN nq).cell? ⟨b8, o8 + 3, none⟩ = some (.int .i64 (d : Int)) := x3
      replace x4 : (wb.drewN nq).cell? ⟨b8, o8 + 4, none⟩ = some (.int .i64 (e : Int)) := x4
      replace x5 : (wb.drewN nq).cell? ⟨b8, o8 + 5, none⟩ = some (.int .i64 (f : Int)) := x5
      replace x6 : (wb.drewN nq).cell? ⟨b8, o8 + 6, none⟩ = some (.int .i64 (g : Int)) := x6
      replace x7 : (wb.drewN nq).cell? ⟨b8, o8 + 7, none⟩ = some (.int .i64 (h : Int)) := x7
      replace cK1 : (wb.drewN nq).cell? ⟨bK, oK + k, none⟩ = some (.int .i64 (kk : Int)) := cK1
      replace cW1 : (wb.drewN nq).cell? ⟨bW, oW + k, none⟩ = some (.int .i64 (ww : Int)) := cW1
      replace hbel : Below w1.heap.size w1 (wb.drewN nq) := belowN hbel _
      replace hb8 : b8 < (wb.drewN nq).heap.size := hb8
      go_wp2_with fail
      generalize wb.drewN nq = wc at *
      refine (kA _).mono ?_
      rintro e' wd' ⟨rfl, m, rfl⟩
      clear kA
      replace x0 : (wc.drewN m).cell? ⟨b8, o8, none⟩ = some (.int .i64 (a : Int)) := x0
      replace x1 : (wc.drewN m).cell? ⟨b8, o8 + 1, none⟩ = some (.int .i64 (b : Int)) := x1
      replace x2 : (wc.drewN m).cell? ⟨b8, o8 + 2, none⟩ = some (.int .i64 (c : Int)) := x2
      replace x3 : (wc.drewN m).cell? ⟨b8, o8 + 3, none⟩ = some (.int .i64 (d : Int)) := x3
      replace x4 : (wc.drewN m).cell? ⟨b8, o8 + 4, none⟩ = some (.int .i64 (e : Int)) := x4
      replace x5 : (wc.drewN m).cell? ⟨b8, o8 + 5, none⟩ = some (.int .i64 (f : Int)) := x5
      replace x6 : (wc.drewN m).cell? ⟨b8, o8 + 6, none⟩ = some (.int .i64 (g : Int)) := x6
      replace x7 : (wc.drewN m).cell? ⟨b8, o8 + 7, none⟩ = some (.int .i64 (h : Int)) := x7
      replace hbel : Below w1.heap.size w1 (wc.drewN m) := belowN hbel _
      replace hb8 : b8 < (wc.drewN m).heap.size := hb8
      clear cK1 cW1
      generalize wc.drewN m = wd at *
      go_wp2_with fail
      have hX : ∀ w', Since wd w' → (w'.cell? ⟨b8, o8, none⟩ = some (.int .i64 (a : Int)) ∧ w'.cell? ⟨b8, o8 + 1, none⟩ = some (.int .i64 (b : Int)) ∧ w'.cell? ⟨b8, o8 + 2, none⟩ = some (.int .i64 (c : Int)) ∧ w'.cell? ⟨b8, o8 + 3, none⟩ = some (.int .i64 (d : Int)) ∧ w'.cell? ⟨b8, o8 + 4, none⟩ = some (.int .i64 (e : Int)) ∧ w'.cell? ⟨b8, o8 + 5, none⟩ = some (.int .i64 (f : Int)) ∧ w'.cell? ⟨b8, o8 + 6, none⟩ = some (.int .i64 (g : Int))) := fun w' hw' => by
        have hc : ∀ j, w'.cell? ⟨b8, j, none⟩ = wd.cell? ⟨b8, j, none⟩ := fun j => Below.cell hw' hb8
        exact ⟨(hc _).trans x0, (hc _).trans x1, (hc _).trans x2, (hc _).trans x3, (hc _).trans x4, (hc _).trans x5, (hc _).trans x6⟩
      have HX : Hid (∀ w', Since wd w' → (w'.cell? ⟨b8, o8, none⟩ = some (.int .i64 (a : Int)) ∧ w'.cell? ⟨b8, o8 + 1, none⟩ = some (.int .i64 (b : Int)) ∧ w'.cell? ⟨b8, o8 + 2, none⟩ = some (.int .i64 (c : Int)) ∧ w'.cell? ⟨b8, o8 + 3, none⟩ = some (.int .i64 (d : Int)) ∧ w'.cell? ⟨b8, o8 + 4, none⟩ = some (.int .i64 (e : Int)) ∧ w'.cell? ⟨b8, o8 + 5, none⟩ = some (.int .i64 (f : Int)) ∧ w'.cell? ⟨b8, o8 + 6, none⟩ = some (.int .i64 (g : Int)))) := hX
      clear hX x0 x1 x2 x3 x4 x5 x6 x7
      obtain ⟨na, hna⟩ : ∃ na, (t1 + t2) % 4294967296 = na := ⟨_, rfl⟩
      obtain ⟨nE, hnE⟩ : ∃ nE, (d + t1) % 4294967296 = nE := ⟨_, rfl⟩
      rw [hna, hnE] at HN
      have HNA : Hid ((t1 + t2) % 4294967296 = na) := hna
      have HNE : Hid ((d + t1) % 4294967296 = nE) := hnE
      clear hna hnE
      refine held_begin (by kernel_rfl) ?_
      refine held_reads (rs := [0, 1, 2, 3, 4, 5, 6, 7, 8, 9, 10, 11, 12, 13, 14, 15, 16, 17, 18, 19, 20, 21, 22, 23, 24, 25, 26, 27]) (fuel := 2) (by kernel_rfl) (fun c d v a w h => by cases d <;> exact h) (by kernel_rfl) (Since.drew _) (fun K' hK' => ?_)
      refine calm_move _ rfl (by rfl) rfl ?_
      go_simp
      refine calm_move _ rfl (by rfl) rfl ?_
      go_simp
      refine calm_do (.int .i64 ((t1 : Int) + (t2 : Int))) rfl (by rfl) (fun w' hw' => ?_) ?_
      · go_simp
        all_goals (first | omega | (rw [IntKind.wrap_i64]; omega))
      go_simp
      refine calm_do (.int .i64 (na : Int)) rfl (by rfl) (fun w' hw' => ?_) ?_
      · go_simp
        all_goals (rw [Int.tmod_eq_emod_of_nonneg (by omega), ← HNA.out]; omega)
      go_simp
      refine calm_move _ rfl (by rfl) rfl ?_
      go_simp
      refine calm_do (.pointer (some ⟨b8, o8, none⟩)) rfl (by rfl) (fun w' hw' => ?_) ?_
      · go_simp
      go_simp
      refine calm_do (.int .i64 (a : Int)) rfl (by rfl) (fun w' hw' => ?_) ?_
      · obtain ⟨x0, x1, x2, x3, x4, x5, x6⟩ := HX.out w' hw'
        go_simp
      go_simp
      refine calm_move _ rfl (by rfl) rfl ?_
      go_simp
      refine calm_do (.pointer (some ⟨b8, o8 + 1, none⟩)) rfl (by rfl) (fun w' hw' => ?_) ?_
      · go_simp
      go_simp
      refine calm_do (.int .i64 (b : Int)) rfl (by rfl) (fun w' hw' => ?_) ?_
      · obtain ⟨x0, x1, x2, x3, x4, x5, x6⟩ := HX.out w' hw'
        go_simp
      go_simp
      refine calm_move _ rfl (by rfl) rfl ?_
      go_simp
      refine calm_do (.pointer (some ⟨b8, o8 + 2, none⟩)) rfl (by rfl) (fun w' hw' => ?_) ?_
      · go_simp
      go_simp
      refine calm_do (.int .i64 (c : Int)) rfl (by rfl) (fun w' hw' => ?_) ?_
      · obtain ⟨x0, x1, x2, x3, x4, x5, x6⟩ := HX.out w' hw'
        go_simp
      go_simp
      refine calm_move _ rfl (by rfl) rfl ?_
      go_simp
      refine calm_do (.pointer (some ⟨b8, o8 + 3, none⟩)) rfl (by rfl) (fun w' hw' => ?_) ?_
      · go_simp
      go_simp
      refine calm_do (.int .i64 (d : Int)) rfl (by rfl) (fun w' hw' => ?_) ?_
      · obtain ⟨x0, x1, x2, x3, x4, x5, x6⟩ := HX.out w' hw'
        go_simp
      go_simp
      refine calm_move _ rfl (by rfl) rfl ?_
      go_simp
      refine calm_do (.int .i64 ((d : Int) + (t1 : Int))) rfl (by rfl) (fun w' hw' => ?_) ?_
      · go_simp
        all_goals (first | omega | (rw [IntKind.wrap_i64]; omega))
      go_simp
      refine calm_do (.int .i64 (nE : Int)) rfl (by rfl) (fun w' hw' => ?_) ?_
      · go_simp
        all_goals (rw [Int.tmod_eq_emod_of_nonneg (by omega), ← HNE.out]; omega)
      go_simp
      refine calm_move _ rfl (by rfl) rfl ?_
      go_simp
      refine calm_do (.pointer (some ⟨b8, o8 + 4, none⟩)) rfl (by rfl) (fun w' hw' => ?_) ?_
      · go_simp
      go_simp
      refine calm_do (.int .i64 (e : Int)) rfl (by rfl) (fun w' hw' => ?_) ?_
      · obtain ⟨x0, x1, x2, x3, x4, x5, x6⟩ := HX.out w' hw'
        go_simp
      go_simp
      refine calm_move _ rfl (by rfl) rfl ?_
      go_simp
      refine calm_do (.pointer (some ⟨b8, o8 + 5, none⟩)) rfl (by rfl) (fun w' hw' => ?_) ?_
      · go_simp
      go_simp
      refine calm_do (.int .i64 (f : Int)) rfl (by rfl) (fun w' hw' => ?_) ?_
      · obtain ⟨x0, x1, x2, x3, x4, x5, x6⟩ := HX.out w' hw'
        go_simp
      go_simp
      refine calm_move _ rfl (by rfl) rfl ?_
      go_simp
      refine calm_do (.pointer (some ⟨b8, o8 + 6, none⟩)) rfl (by rfl) (fun w' hw' => ?_) ?_
      · go_simp
      go_simp
      refine calm_do (.int .i64 (g : Int)) rfl (by rfl) (fun w' hw' => ?_) ?_
      · obtain ⟨x0, x1, x2, x3, x4, x5, x6⟩ := HX.out w' hw'
        go_simp
      go_simp
      refine calm_nil (hK'.out _ ?_)
      clear hK' K'
      refine held_call (i := 28) (fuel := 1) (by kernel_rfl) rfl (by rfl) (fun K' hK' => ?_)
      have S8' : Since wd (wd.alloc (.cells #[.int .i64 (na : Int), .int .i64 (a : Int), .int .i64 (b : Int), .int .i64 (c : Int), .int .i64 (nE : Int), .int .i64 (e : Int), .int .i64 (f : Int), .int .i64 (g : Int)] 3)).drew := (below_one wd _).drew
      have rN : Row .i64 (wd.alloc (.cells #[.int .i64 (na : Int), .int .i64 (a : Int), .int .i64 (b : Int), .int .i64 (c : Int), .int .i64 (nE : Int), .int .i64 (e : Int), .int .i64 (f : Int), .int .i64 (g : Int)] 3)).drew (some ⟨wd.heap.size, 0, none⟩) 8 8 (nI [na, a, b, c, nE, e, f, g]) := (row_new .i64 wd 3 wd.heap.size rfl (nI [na, a, b, c, nE, e, f, g]) 8 rfl (by decide) _ rfl).below (Below.refl _ _).drew (Nat.le_refl _)
      go_simp
      refine hK' _ _ S8' ?_
      clear hK' K'
      have HBN : Hid (Below w1.heap.size w1 (wd.alloc (.cells #[.int .i64 (na : Int), .int .i64 (a : Int), .int .i64 (b : Int), .int .i64 (c : Int), .int .i64 (nE : Int), .int .i64 (e : Int), .int .i64 (f : Int), .int .i64 (g : Int)] 3)).drew) := hbel.trans (Below.mono S8' hbel.size)
      generalize (wd.alloc (.cells #[.int .i64 (na : Int), .int .i64 (a : Int), .int .i64 (b : Int), .int .i64 (c : Int), .int .i64 (nE : Int), .int .i64 (e : Int), .int .i64 (f : Int), .int .i64 (g : Int)] 3)).drew = we at *
      have HRN : Hid (Row .i64 we (some ⟨wd.heap.size, 0, none⟩) 8 8 (nI [na, a, b, c, nE, e, f, g])) := rN
      refine held_reads (rs := [29]) (fuel := 0) (by kernel_rfl) (fun c d v a w h => by cases d <;> exact h) (by kernel_rfl) (Since.refl _) (fun K' hK' => ?_)
      go_simp
      refine calm_assign _ rfl (by rfl) rfl ?_
      go_simp
      refine calm_nil (hK'.out _ ?_)
      clear hK' K' rN S8'
      refine wpAnyH_done (by kernel_rfl) ?_ _
      go_wp2
      go_roundw
      case rel => exact ⟨k + 1, na, a, b, c, nE, e, f, g, _, _, by omega, by go_num, rfl, HN, HRN, HBN⟩
      case measure => simp [intOf]; omega
    · obtain rfl : k = 64 := by omega
      have HM : Hid (mixL K s z = s.plus ⟨a, b, c, d, e, f, g, h⟩) := HFin.out _ HQ.out
      have HOKq : Hid ((⟨a, b, c, d, e, f, g, h⟩ : S8).Ok) := ⟨ba, bb, bc, bd, be, bf, bg, bh⟩
      have rQ := HR.out
      have rS := rowS.below HB.out (Nat.le_refl _)
      have HBL := HB
      replace rQ : Row .i64 wr a8 8 c8 (nI (⟨a, b, c, d, e, f, g, h⟩ : S8).list) := rQ
      generalize (⟨a, b, c, d, e, f, g, h⟩ : S8) = q at *
      obtain ⟨wL, hwL⟩ : ∃ x, x = wr := ⟨_, rfl⟩
      subst hwL
      obtain ⟨bS, oS, rfl, hbS, hcS⟩ := rS.hcell (by decide)
      obtain ⟨bQ, oQ, rfl, hbQ, hcQ⟩ := rQ.hcell (by decide)
      have HCS : Hid (∀ i, i < 8 → wL.cell? ⟨bS, oS + i, none⟩ = some (.int .i64 ((nI s.list)[i]?.getD 0))) := hcS
      have HCQ : Hid (∀ i, i < 8 → wL.cell? ⟨bQ, oQ + i, none⟩ = some (.int .i64 ((nI q.list)[i]?.getD 0))) := hcQ
      have sL := HBL.out.size
      clear hcS hcQ rS rQ HR HB HQ HFin ba bb bc bd be bf bg bh rowS rowK rowW
      rw [show ((64 : Nat) : Int) = 64 from rfl]
      go_wp2
      go_loopw [14, 15] (fun v y wr => ∃ i : Nat, i ≤ 8 ∧ y = .int .i64 (i : Int) ∧ Hid (wr.ownsRow wL.heap.size 3 1 v i ((nI ((s.plus q).list.take i)).map (Value.int .i64))) ∧ Hid (Below wL.heap.size wL wr)) (fun _ y _ => 8 - (intOf y).toNat)
      case atStart => exact ⟨0, by omega, rfl, World.ownsRow_nil _ _ _ _, Below.refl _ _⟩
      case round =>
        obtain ⟨i, hi, rfl, HO, HB⟩ := hrel
        have hown := HO.out
        have hbel := HB.out
        have hs3 := hbel.size
        by_cases hlt8 : i < 8
        · have HT : Hid ((s.plus q).list.take (i + 1) = (s.plus q).list.take i ++ [(s.list[i]?.getD 0 + q.list[i]?.getD 0) % 4294967296]) := by
            show _ = _
            rw [take_snocN _ _ hlt8, plus_get s q i hlt8]
          have lS := list8_lt hs i
          have lQ := list8_lt HOKq.out i
          have HXX : Hid (∀ w', Below wL.heap.size wL w' → (w'.cell? ⟨bS, oS + i, none⟩ = some (.int .i64 ((s.list[i]?.getD 0 : Nat) : Int)) ∧ w'.cell? ⟨bQ, oQ + i, none⟩ = some (.int .i64 ((q.list[i]?.getD 0 : Nat) : Int)))) := fun w' hw' => by
            refine ⟨?_, ?_⟩
            · rw [hw'.cell (by exact hbS), HCS.out i hlt8, nI_get]
            · rw [hw'.cell (by exact hbQ), HCQ.out i hlt8, nI_get]
          generalize s.list[i]?.getD 0 = xs at *
          generalize q.list[i]?.getD 0 = xq at *
          have hii : (i : Int) < 8 := by omega
          obtain ⟨nx, hnx⟩ : ∃ nx, (xs + xq) % 4294967296 = nx := ⟨_, rfl⟩
          rw [hnx] at HT
          have HNX : Hid ((xs + xq) % 4294967296 = nx) := hnx
          clear hnx
          go_wp2_with fail
          have hS : Below wL.heap.size wL wr.drew := hbel.drew
          have ownd : wr.drew.ownsRow wL.heap.size 3 1 u14 i ((nI ((s.plus q).list.take i)).map (Value.int .i64)) := hown
          have hs2 : wL.heap.size ≤ wr.drew.heap.size := hs3
          refine heldS_open (fun w' => Below wL.heap.size wL w') (by kernel_rfl) ?_
          refine held_reads (rs := [0, 1, 2, 3, 4, 5, 6, 7, 8, 9, 10]) (fuel := 3) (by kernel_rfl) (fun c d v a w h => by cases d <;> exact h) (by kernel_rfl) hS (fun K' hK' => ?_)
          refine calm_move _ rfl (by rfl) rfl ?_
          go_simp
          refine calm_move _ rfl (by rfl) rfl ?_
          go_simp
          refine calm_move _ rfl (by rfl) rfl ?_
          go_simp
          refine calm_do (.pointer (some ⟨bS, oS + i, none⟩)) rfl (by rfl) (fun w' hw' => ?_) ?_
          · go_simp
          go_simp
          refine calm_do (.int .i64 (xs : Int)) rfl (by rfl) (fun w' hw' => ?_) ?_
          · obtain ⟨x0, x1⟩ := HXX.out w' hw'
            go_simp
          go_simp
          refine calm_move _ rfl (by rfl) rfl ?_
          go_simp
          refine calm_move _ rfl (by rfl) rfl ?_
          go_simp
          refine calm_do (.pointer (some ⟨bQ, oQ + i, none⟩)) rfl (by rfl) (fun w' hw' => ?_) ?_
          · go_simp
          go_simp
          refine calm_do (.int .i64 (xq : Int)) rfl (by rfl) (fun w' hw' => ?_) ?_
          · obtain ⟨x0, x1⟩ := HXX.out w' hw'
            go_simp
          go_simp
          refine calm_do (.int .i64 ((xs : Int) + (xq : Int))) rfl (by rfl) (fun w' hw' => ?_) ?_
          · go_simp
            all_goals (first | omega | (rw [IntKind.wrap_i64]; omega))
          go_simp
          refine calm_do (.int .i64 (nx : Int)) rfl (by rfl) (fun w' hw' => ?_) ?_
          · go_simp
            all_goals (rw [Int.tmod_eq_emod_of_nonneg (by omega), ← HNX.out]; omega)
          go_simp
          refine calm_nil (hK'.out _ ?_)
          clear hK' K'
          refine heldS_op (i := 11) (fuel := 2) (by kernel_rfl) rfl (by rfl) (fun K' hK' => ?_)
          have hS2 : Below wL.heap.size wL (wr.drew.alloc (.cells #[.int .i64 (nx : Int)] 3)) := hS.alloc hs2 _
          go_simp
          refine hK' _ _ hS2 ?_
          clear hK' K'
          refine heldS_op (i := 12) (fuel := 1) (by kernel_rfl) rfl (by rfl) (fun K' hK' => ?_)
          refine wp_append_own _ (.tmp 123) (.tmp 134) 22 rfl wL.heap.size 3 i0 (.int .i64 0) 1 8 Try.underlying22 hi0 hz0 hz1 hz2 rfl (by decide) _ _ _ rfl (ownd.alloc _) ⟨wr.heap.size, 0, none⟩ 1 1 [.int .i64 (nx : Int)] rfl rfl (cell_one_new wr.drew _ _) (by intro u hu; simp at hu; subst hu; rfl) (by unfold maxLen; omega) (by omega) (by simp; omega) ?_
          intro v' w9 hown' hgrow _
          have R := rel_push (w := wL) hs2 ownd hS hown' hgrow
          rw [← nI_snoc, ← HT.out] at R
          clear hown' hgrow
          refine hK' _ _ R.2 ?_
          clear hK' K'
          refine held_reads (rs := [13]) (fuel := 0) (by kernel_rfl) (fun c d v a w h => by cases d <;> exact h) (by kernel_rfl) R.2 (fun K' hK' => ?_)
          go_simp
          refine calm_assign _ rfl (by rfl) rfl ?_
          go_simp
          refine calm_nil (hK'.out _ ?_)
          clear hK' K'
          refine wpAnyH_done (by kernel_rfl) ?_ _
          go_wp2
          go_roundw
          case rel => exact ⟨i + 1, by omega, by go_num, R.1, R.2⟩
          case measure => simp [intOf]; omega
        · obtain rfl : i = 8 := by omega
          rw [List.take_of_length_le (show (s.plus q).list.length ≤ 8 from Nat.le_refl _), ← HM.out] at hown
          go_wp2
          go_ret
          exact ⟨_, rfl, owns_base hown (by omega), q1.trans ((HBL.out.trans (hbel.mono sL)).mono s1)⟩
end Go.Proofs.Ytoijeefmddopbaa
