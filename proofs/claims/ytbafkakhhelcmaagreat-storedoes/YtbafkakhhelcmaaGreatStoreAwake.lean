/-
  Layer 11's laws: tiny, small, awake; StoreNil, StoreOpens.
-/
import Derived.Test.YtbafkakhhelcmaaGreatStoreLaw
import Derived.Lib.SlBytesConst
namespace Go.Proofs.YtbafkakhhelcmaaGreat
open Go.RowKit Go.Maps
set_option linter.unusedVariables false
set_option maxRecDepth 8192

theorem tiny11_any (w : World) : Calls Tryz.prog 42 #[] w fun e w' => e = .returned (.agg #[.int .i64 4, .int .i64 3, .int .i64 1, .int .i64 16, .int .i64 1]) ∧ Below w.heap.size w w' := by
  go_enter Tryz.func42, Tryz.ntmps42
  go_wp2
  refine bodyPost_ret (v := .agg #[.int .i64 4, .int .i64 3, .int .i64 1, .int .i64 16, .int .i64 1]) (by simp [results, Tryz.results42, go_sem]) rfl ?_
  exact ⟨rfl, below_one _ _⟩
/-- Is a geometry looked at? -/
def small11 (b p s n f : Int) : Bool := mayG b p s n f && decide (s * n ≤ 32 ∧ b ≤ 12 ∧ p ≤ 5)
set_option maxHeartbeats 800000 in
theorem small11_any (b p s n f : Int) (w : World) : Calls Tryz.prog 9 #[.agg #[.int .i64 b, .int .i64 p, .int .i64 s, .int .i64 n, .int .i64 f]] w fun e w' => e = .returned (.bool (small11 b p s n f)) ∧ Below w.heap.size w w' := by
  cases hm : mayG b p s n f
  · have HS : Hid (small11 b p s n f = false) := by show _ = _; unfold small11; rw [hm]; rfl
    go_enter Tryz.func9, Tryz.ntmps9
    go_wp2_with fail
    refine (refMay_any b p s n f _).mono ?_
    rintro e w1 ⟨rfl, q1⟩
    rw [hm]
    go_wp2_with fail
    go_ret
    exact ⟨ret_bool HS.out.symm, btrans (below_one _ _) q1⟩
  · have hm' := hm
    unfold mayG at hm'
    rw [decide_eq_true_iff] at hm'
    obtain ⟨_, _, _, _, h5, h6, h7, h8, _, _, _, _⟩ := hm'
    obtain ⟨s, rfl⟩ := Int.eq_ofNat_of_zero_le (show 0 ≤ s by omega)
    obtain ⟨n, rfl⟩ := Int.eq_ofNat_of_zero_le (show 0 ≤ n by omega)
    have HS : Hid (small11 b p s n f = decide (((s * n : Nat) : Int) ≤ 32 ∧ b ≤ 12 ∧ p ≤ 5)) := by show _ = _; unfold small11; rw [hm, ← Int.natCast_mul, Bool.true_and]
    have hroom := refRoom_any b p f s n (s * n) rfl (by omega) (by omega)
    generalize s * n = R at hroom HS
    go_enter Tryz.func9, Tryz.ntmps9
    go_wp2_with fail
    refine (refMay_any b p s n f _).mono ?_
    rintro e w1 ⟨rfl, q1⟩
    rw [hm]
    have gb := (gbox_new w 23 b p s n f).below q1 (Nat.le_refl _)
    obtain ⟨_, c0, c1, c2, c3, c4⟩ := gb
    have gb := (gbox_new w 23 b p s n f).below q1 (Nat.le_refl _)
    go_wp2_with fail
    refine (hroom _).mono ?_
    rintro e w2 ⟨rfl, q2⟩
    clear c0 c1 c2 c3 c4
    obtain ⟨_, c0, c1, c2, c3, c4⟩ := gb.below q2 (Nat.le_refl _)
    go_wp2_with fail
    all_goals (go_ret; refine ⟨ret_bool ?_, btrans (btrans (below_one _ _) q1) q2⟩; rw [HS.out]; first | (rw [decide_eq_decide]; omega) | (symm; rw [decide_eq_false_iff_not]; omega) | (symm; rw [decide_eq_true_iff]; omega))
/-- A small geometry. -/
theorem geo11_ex {b p s n f : Int} (hs : small11 b p s n f = true) : ∃ G : Geo, b = G.b ∧ p = G.p ∧ s = G.s ∧ n = G.n ∧ f = G.f ∧ G.b ≤ 12 ∧ G.p ≤ 5 ∧ G.R ≤ 32 := by
  unfold small11 at hs
  rw [Bool.and_eq_true, decide_eq_true_iff] at hs
  obtain ⟨h, h1, h2, h3⟩ := hs
  obtain ⟨S, N, F, R, m, W, L, rfl, rfl, rfl, G⟩ := gok_ex h (by omega)
  refine ⟨⟨b, p, S, N, F, R, m, W, L, G⟩, rfl, rfl, rfl, rfl, rfl, h2, h3, ?_⟩
  have := G.hR
  show R ≤ 32
  rw [← Int.natCast_mul] at h1
  omega
/-- awake's geometry. -/
def G11 : Geo := ⟨4, 3, 1, 16, 1, 16, 2, 18, 19, ⟨by decide, by decide, by decide, by decide, by decide, by decide, by decide, by decide, by decide, by decide, by decide⟩⟩
theorem row_mark11 (k : IntKind) (w : World) (e : TypeId) (fr : Nat × Nat) (zs : List Int) (n : Nat) (hn : zs.length = n) (hm : n ≤ maxLen) (cs : Array Value) (hc : cs = (zs.map (Value.int k)).toArray) :
    Row k (w.alloc (.cells cs e fr)) (some ⟨w.heap.size, 0, none⟩) n n zs := by
  subst hc
  refine ⟨hn, Nat.le_refl _, hm, (fun h => by cases h), fun _ => ⟨w.heap.size, 0, rfl, by simp, fun i hi => ?_⟩⟩
  rw [World.cell?_alloc_mark, Nat.zero_add]
  simp [List.getElem?_map, List.getElem?_eq_getElem (show i < zs.length from by omega)]
theorem str_abc : strOfNums [97, 98, 99] = ⟨#[97, 98, 99]⟩ := by rfl
theorem isB_abc : IsB [97, 98, 99] := fun z hz => by simp only [List.mem_cons, List.not_mem_nil, or_false] at hz; omega
set_option maxHeartbeats 3200000 in
theorem awake11_any (w : World) : Calls Tryz.prog 12 #[] w fun e w' => e = .returned (.bool true) ∧ Below w.heap.size w w' := by
  go_enter Tryz.func12, Tryz.ntmps12
  go_wp2_with fail
  refine (tiny11_any w).mono ?_
  rintro e w1 ⟨rfl, q1⟩
  go_wp2_with fail
  refine (chipNew_nil G11 w1).mono ?_
  rintro e w2 ⟨cc, rfl, hn⟩
  obtain ⟨B, F, ⟨rfl, hlim⟩, hh⟩ := newChip_lim q1 hn
  have hcl := cl_new hh hlim
  clear hn q1 hh
  go_wp2_with fail
  refine (drvNew_any B.c w2).mono ?_
  rintro e w3 ⟨d, hd, rfl, db, q3⟩
  have hfd : ¬ F d := fun hf => by have := hcl.chip.fresh d hf; omega
  have hop := (hcl.below q3).opened rfl db hfd 2 (by omega) (by omega) (fun _ _ => rfl)
  clear hcl q3 db
  go_wp2_with fail
  refine hop.mono ?_
  rintro e w4 ⟨s, g, st, nu, ⟨hs, hg, hl⟩, rfl, h4, q4⟩
  clear hop q4 hs hg
  have hr0 := h4.read_none 0 (by omega) rfl
  go_wp2_with fail
  refine hr0.mono ?_
  rintro e w5 ⟨rfl, rfl⟩
  clear hr0
  have hst : st = [-1, -1] := by
    match st, hl with
    | [a, b], _ =>
      have e0 := h4.stands (j := 0) (by simp)
      have e1 := h4.stands (j := 1) (by simp)
      rcases e0 with ⟨_, e0⟩ | ⟨_, _, e0, _⟩
      · rcases e1 with ⟨_, e1⟩ | ⟨_, _, e1, _⟩
        · simp only [List.getElem?_cons_zero, List.getElem?_cons_succ, Option.getD_some] at e0 e1
          rw [e0, e1]
        · cases e1
      · cases e0
  have r5 := row_mark11 .u8 w4 5 (3, 4) [97, 98, 99] 3 rfl (by unfold maxLen; omega) #[.int .u8 97, .int .u8 98, .int .u8 99] rfl
  have q5 := below_one w4 (.cells #[.int .u8 97, .int .u8 98, .int .u8 99] 5 (3, 4))
  have kc := Lib.run_convert_bytes_const (P := Tryz.prog) w4 43 5 #[.int .u8 97, .int .u8 98, .int .u8 99] 3 3 Tryz.underlying43 Tryz.underlying5
  have o5 := h4.new r5 (fun _ q hq => by cases hq; exact Nat.le_refl _)
  have h5 := h4.below q5
  clear r5 q5 h4
  have hch := h5.change 0 (by omega) [97, 98, 99] _ _ _ o5 isB_abc (by decide) (by decide) (by decide)
  go_wp2_with fail
  clear kc
  refine hch.mono ?_
  rintro e w6 ⟨r, rfl, hc⟩
  have hr := chg_well hc rfl 0 (by decide) (by rw [hst]; decide) rfl rfl
  subst hr
  clear hch o5 h5
  rcases hc with ⟨F6, S6, K6, st6, nu6, _, h6, hst6, _, _, ah6, cl6, _, _⟩ | ⟨_, _, _, _, hr, _⟩ | ⟨_, _, _, _, _, hr, _⟩
  rotate_left
  · cases hr
  · cases hr
  have hl6 : st6.length = 2 := by rw [hst6]; exact hl
  have hrd := h6.read_some 0 (by omega) (D := [97, 98, 99]) (updM_at _ _ _)
  go_wp2_with fail
  refine hrd.mono ?_
  rintro e w7 ⟨a7, c7, k7, ⟨⟨hn7, _⟩, hk⟩, rfl, r7, q7⟩
  have hk0 : k7 = 0 := hk (cl6 (fun _ _ => rfl))
  subst hk0
  have h7 := h6.below q7
  have o7 := h6.new r7 hn7
  clear hrd hk h6 q7 hn7 r7
  have hun := h7.unmap 0 (by omega) (by decide)
  go_wp2_with fail
  refine hun.mono ?_
  rintro e w8 ⟨r, rfl, hu⟩
  clear hun h7
  rcases hu with ⟨F8, S8, K8, st8, nu8, rfl, h8, hst8, q8, _⟩ | ⟨_, _, _, _, _, _, _, _, _, _, hn⟩
  rotate_left
  · exact absurd (ah6 rfl) hn
  have o8 := o7.step q8
  have hl8 : st8.length = 2 := by rw [hst8]; exact hl6
  have hr8 := h8.read_none 0 (by omega) (updM_at _ _ _)
  clear o7 q8
  go_wp2_with fail
  refine hr8.mono ?_
  rintro e w9 ⟨rfl, rfl⟩
  clear hr8
  have k1 := conv_row (P := Tryz.prog) Tryz.underlying43 Tryz.underlying5 Tryz.underlying9 o8.row
  have hle := stLebs_any w8 h8.at_.sb
  have hcp := stCap_any w8 h8.at_
  clear o8
  rw [hl8] at hle
  rw [show ([97, 98, 99] : List Int).length = 3 from rfl] at k1
  rw [str_abc] at k1
  go_wp2_with fail
  refine hle.mono ?_
  rintro e w9 ⟨rfl, rfl⟩
  go_wp2_with fail
  refine hcp.mono ?_
  rintro e w9 ⟨rfl, q9⟩
  clear hle hcp k1
  rw [show G11.C = 32 from rfl]
  go_wp2_with fail
  go_ret
  exact ⟨rfl, btrans h8.bel q9⟩
end Go.Proofs.YtbafkakhhelcmaaGreat
