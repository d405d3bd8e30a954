/-
  What the walks of layer 8's laws share: a drive that was made since W (DHere), what Write and Erase leave (plain), what is read of a page that was packed, tiny, small, awake.
-/
import Derived.Test.YtggpgdaacbmmdaaGreatDriveCode3
import Derived.Test.YtggpgdaacbmmdaaGreatEccFlips
namespace Go.Proofs.YtggpgdaacbmmdaaGreat
open Go.RowKit Go.Maps
set_option linter.unusedVariables false
set_option maxRecDepth 8192

/-- A drive and its chip that were made since W; nothing that W had has turned. -/
structure DHere (W : World) (G : Geo) (B : CB) (F : Nat → Prop) (N : Nat) (S : CS) (d : Nat) (w : World) : Prop where
  here : Here W G B F N S w
  box : DBox w d B.c
  off : ¬ F d
section
variable {W w w' : World} {G : Geo} {B : CB} {F : Nat → Prop} {N N' : Nat} {S S' : CS} {d : Nat}
theorem DHere.below (h : DHere W G B F N S d w) (q : Below w.heap.size w w') : DHere W G B F N S d w' := ⟨h.here.below q, h.box.below q (Nat.le_refl _), h.off⟩
theorem DHere.does (h : DHere W G B F N S d w) (dd : Does G B F N' w S' w') : ∃ F', DHere W G B F' N' S' d w' ∧ ∀ k a len cap z, Off F k w a len cap z → Off F' k w' a len cap z := by
  obtain ⟨F', h1, t, f⟩ := dd
  refine ⟨F', ⟨⟨h1, fun x hx => ?_, h.here.bel.trans (t.below h.here.bel.size (fun x hx => h.here.low x hx))⟩, h.box.turned t h.off, fun hd => ?_⟩, fun k a len cap z ho => ho.step t f⟩
  · rcases f x hx with e | e
    · exact h.here.low x e
    · exact Nat.le_trans h.here.bel.size e
  · rcases f d hd with e | e
    · exact h.off e
    · have := h.box.lt; omega
theorem DHere.turned (h : DHere W G B F N S d w) (hc : ChipAt G B F N' S' w') (t : Turned F w w') : DHere W G B F N' S' d w' ∧ ∀ k a len cap z, Off F k w a len cap z → Off F k w' a len cap z := by
  obtain ⟨h1, h2⟩ := h.here.turned hc t
  exact ⟨⟨h1, h.box.turned t h.off, h.off⟩, h2⟩
theorem DHere.same (h : DHere W G B F N S d w) (e : S = S') : DHere W G B F N S' d w := e ▸ h
theorem DHere.bel (h : DHere W G B F N S d w) : Below W.heap.size W w := h.here.bel
theorem DHere.chip (h : DHere W G B F N S d w) : ChipAt G B F N S w := h.here.chip
/-- A row that W had. -/
theorem DHere.old (h : DHere W G B F N S d w) {k : IntKind} {a : Option Addr} {len cap : Nat} {z : List Int} (r : Row k W a len cap z) : Off F k w a len cap z :=
  Off.of_old (r.below h.bel (Nat.le_refl _)) (fun h0 x hx => r.blk_lt h0 x hx) h.here.low
theorem dhere_new (h : Here W G B F N S w) (q : Below w.heap.size w w') (db : DBox w' d B.c) (hd : w.heap.size ≤ d) : DHere W G B F N S d w' :=
  ⟨h.below q, db, fun hf => by have := h.chip.fresh d hf; omega⟩
end

section
variable {G : Geo} {S : CS} {x y : Int} {z : List Int}
theorem inB0_of {x m : Int} (h : 0 ≤ x ∧ x < m) : inB0 x m = true := by unfold inB0; exact decide_eq_true h
theorem after_ok {r : Int × CS} (h : r.1 ≠ 72) : CS.after G r x = r := by unfold CS.after; rw [if_pos h]
theorem after_fail (hu : S.up = true) (hx : 0 ≤ x ∧ x < G.b) (ha : S.ah = 0) : CS.after G (72, S) x = (72, S.mark x) := by
  have hm : S.doMark G x = (0, S.mark x) := by
    unfold CS.doMark
    rw [if_neg (by rw [hu]; simp), if_neg (by rw [inB0_of hx]; simp), if_neg (by omega), counted_zero ha]
  unfold CS.after
  rw [if_neg (by simp)]
  simp only [hm]
  rw [if_neg (by simp)]
theorem write_ok (hu : S.up = true) (hx : 0 ≤ x ∧ x < G.b) (hy : 0 ≤ y ∧ y < G.p) (hn : y = S.nx x) (ha : S.ah = 0) (hw : S.wk x = false) (hl : z.length = G.L) : CS.after G (S.doProgram G x y z) x = (0, S.lay x y z) := by
  rw [program_ok hu (fitsP_of hx hy hl) hn (by omega) hw, counted_zero ha, after_ok (by simp)]
theorem write_weak (hu : S.up = true) (hx : 0 ≤ x ∧ x < G.b) (hy : 0 ≤ y ∧ y < G.p) (hn : y = S.nx x) (ha : S.ah = 0) (hw : S.wk x = true) (hl : z.length = G.L) : CS.after G (S.doProgram G x y z) x = (72, S.mark x) := by
  have hp : S.doProgram G x y z = (72, S) := by
    unfold CS.doProgram
    rw [if_neg (by rw [hu]; simp), if_neg (by rw [fitsP_of hx hy hl]; simp), if_neg (by simp [hn]), if_neg (by omega), if_pos hw, counted_zero ha]
  rw [hp, after_fail hu hx ha]
theorem write_cut (hu : S.up = true) (hx : 0 ≤ x ∧ x < G.b) (hy : 0 ≤ y ∧ y < G.p) (hn : y = S.nx x) (ha : S.ah = 1) (hl : z.length = G.L) : CS.after G (S.doProgram G x y z) x = (70, S.counted.lay x y (padF G.L (z.take (keptN S.ke z.length)))) := by
  rw [program_cut hu (fitsP_of hx hy hl) hn ha, after_ok (by simp)]
theorem eraseD_ok (hu : S.up = true) (hx : 0 ≤ x ∧ x < G.b) (ha : S.ah = 0) (hw : S.wk x = false) (hb : S.bd x = false) : S.eraseD G x = (0, (S.wipe G.L x G.p.toNat).next0 x) := by
  unfold CS.eraseD
  rw [use_of hu (inB0_of hx) rfl hb, if_neg (by simp), erase_ok hu hx (by omega) hw, counted_zero ha, after_ok (by simp)]
theorem eraseD_bad (hu : S.up = true) (hx : 0 ≤ x ∧ x < G.b) (hb : S.bd x = true) : S.eraseD G x = (73, S) := by
  unfold CS.eraseD
  rw [use_bad hu (inB0_of hx) rfl hb, if_pos (by simp)]
end

theorem maxC_zero (s : Nat) : maxC (fun _ => 0) s = 0 := by
  induction s with
  | zero => rfl
  | succ s ih => show max (maxC (fun _ => 0) s) 0 = 0; rw [ih]; rfl
theorem maxC_le {C : Nat → Nat} {t : Nat} : ∀ {s : Nat}, (∀ j, j < s → C j ≤ t) → maxC C s ≤ t := by
  intro s
  induction s with
  | zero => intro _; exact Nat.zero_le _
  | succ s ih => intro h; show max (maxC C s) (C s) ≤ t; have := ih fun j hj => h j (by omega); have := h s (by omega); omega
/-- What is read of a page in which few bits are turned. -/
theorem isRead_flips {G : Geo} {x z ps X : List Int} {k : Nat} {er : Int} (hz : IsPack G.s G.n G.f G.m G.W x z) (hx : IsB x) (hxl : x.length = G.R) (hnd : ps.Nodup) (hin : ∀ p ∈ ps, 0 ≤ p ∧ p < 8 * ((G.s * G.W : Nat) : Int))
    (hc : ∀ j, j < G.s → cntTo (8 * G.W) (8 * G.n + 13 * G.f) ps j ≤ G.f) (h : IsRead G (turnI z ps) X k er) : X = x ∧ k = maxC (cntTo (8 * G.W) (8 * G.n + 13 * G.f) ps) G.s ∧ er = 0 := by
  have g := G.ok
  have hmk : (turnI z ps)[G.L - 1]?.getD 0 = 0 := by
    rw [flip_mark (s := G.s) (W := G.W) g.hL hin, show G.L - 1 = G.s * G.W by have := g.hL; omega]
    exact hz.mark
  rcases h with ⟨h0, _⟩ | ⟨_, S, hS, h⟩
  · exact absurd hmk h0
  · obtain ⟨h1, h2, h3⟩ := flip_read (L := G.L) hz g.hW g.hm (by have := g.hn; omega) (by have := g.hn; omega) (by have := g.hf; omega) hx (by rw [hxl, g.hR]) hnd hin hc hS
    rcases h with ⟨⟨j, hj, hne⟩, _⟩ | ⟨_, e1, e2, e3⟩
    · exact absurd (h1 j hj) hne
    · exact ⟨by rw [e1, h2], by rw [e2, h3], e3⟩
/-- What is read of a page as it was packed. -/
theorem isRead_clean {G : Geo} {x z X : List Int} {k : Nat} {er : Int} (hz : IsPack G.s G.n G.f G.m G.W x z) (hx : IsB x) (hxl : x.length = G.R) (h : IsRead G z X k er) : X = x ∧ k = 0 ∧ er = 0 := by
  have h2 := isRead_flips (ps := []) hz hx hxl List.nodup_nil (by simp) (fun j _ => Nat.zero_le _) h
  exact ⟨h2.1, by rw [h2.2.1]; exact maxC_zero _, h2.2.2⟩

theorem tiny8_any (w : World) : Calls Tryz.prog 49 #[] w fun e w' => e = .returned (.agg #[.int .i64 2, .int .i64 2, .int .i64 1, .int .i64 16, .int .i64 1]) ∧ Below w.heap.size w w' := by
  go_enter Tryz.func49, Tryz.ntmps49
  go_wp2
  refine bodyPost_ret (v := .agg #[.int .i64 2, .int .i64 2, .int .i64 1, .int .i64 16, .int .i64 1]) (by simp [results, Tryz.results49, go_sem]) rfl ?_
  exact ⟨rfl, below_one _ _⟩
/-- Is a geometry looked at? -/
def small8 (b p s n f : Int) : Bool := mayG b p s n f && decide (s * n ≤ 32 ∧ b ≤ 16 ∧ p ≤ 8)
set_option maxHeartbeats 800000 in
theorem small8_any (b p s n f : Int) (w : World) : Calls Tryz.prog 9 #[.agg #[.int .i64 b, .int .i64 p, .int .i64 s, .int .i64 n, .int .i64 f]] w fun e w' => e = .returned (.bool (small8 b p s n f)) ∧ Below w.heap.size w w' := by
  cases hm : mayG b p s n f
  · have HS : Hid (small8 b p s n f = false) := by show _ = _; unfold small8; rw [hm]; rfl
    go_enter Tryz.func9, Tryz.ntmps9
    go_wp2_with fail
    refine (refMay_any b p s n f _).mono ?_
    rintro e w1 ⟨rfl, q1⟩
    rw [hm]
    go_wp2_with fail
    go_ret
    exact ⟨ret_bool HS.out.symm, btrans (below_one _ _) q1⟩
  · have hm' := hm
    unfold mayG at hm'
    rw [decide_eq_true_iff] at hm'
    obtain ⟨_, _, _, _, h5, h6, h7, h8, _, _, _, _⟩ := hm'
    obtain ⟨s, rfl⟩ := Int.eq_ofNat_of_zero_le (show 0 ≤ s by omega)
    obtain ⟨n, rfl⟩ := Int.eq_ofNat_of_zero_le (show 0 ≤ n by omega)
    have HS : Hid (small8 b p s n f = decide (((s * n : Nat) : Int) ≤ 32 ∧ b ≤ 16 ∧ p ≤ 8)) := by show _ = _; unfold small8; rw [hm, ← Int.natCast_mul, Bool.true_and]
    have hroom := refRoom_any b p f s n (s * n) rfl (by omega) (by omega)
    generalize s * n = R at hroom HS
    go_enter Tryz.func9, Tryz.ntmps9
    go_wp2_with fail
    refine (refMay_any b p s n f _).mono ?_
    rintro e w1 ⟨rfl, q1⟩
    rw [hm]
    have gb := (gbox_new w 23 b p s n f).below q1 (Nat.le_refl _)
    obtain ⟨_, c0, c1, c2, c3, c4⟩ := gb
    have gb := (gbox_new w 23 b p s n f).below q1 (Nat.le_refl _)
    go_wp2_with fail
    refine (hroom _).mono ?_
    rintro e w2 ⟨rfl, q2⟩
    clear c0 c1 c2 c3 c4
    obtain ⟨_, c0, c1, c2, c3, c4⟩ := gb.below q2 (Nat.le_refl _)
    go_wp2_with fail
    all_goals (go_ret; refine ⟨ret_bool ?_, btrans (btrans (below_one _ _) q1) q2⟩; rw [HS.out]; first | (rw [decide_eq_decide]; omega) | (symm; rw [decide_eq_false_iff_not]; omega) | (symm; rw [decide_eq_true_iff]; omega))
/-- A small geometry. -/
theorem geo8_ex {b p s n f : Int} (hs : small8 b p s n f = true) : ∃ G : Geo, b = G.b ∧ p = G.p ∧ s = G.s ∧ n = G.n ∧ f = G.f ∧ G.b ≤ 16 ∧ G.p ≤ 8 ∧ G.R ≤ 32 := by
  unfold small8 at hs
  rw [Bool.and_eq_true, decide_eq_true_iff] at hs
  obtain ⟨h, h1, h2, h3⟩ := hs
  obtain ⟨S, N, F, R, m, W, L, rfl, rfl, rfl, G⟩ := gok_ex h (by omega)
  refine ⟨⟨b, p, S, N, F, R, m, W, L, G⟩, rfl, rfl, rfl, rfl, rfl, h2, h3, ?_⟩
  have := G.hR
  show R ≤ 32
  rw [← Int.natCast_mul] at h1
  omega
end Go.Proofs.YtggpgdaacbmmdaaGreat
