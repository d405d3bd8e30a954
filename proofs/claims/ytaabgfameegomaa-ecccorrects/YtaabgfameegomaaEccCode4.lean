/-
  The code of layer 6 (ecc), as it landed: Pack. (Written by tools/gen/ecc_pack.py.)
-/
import Derived.Test.YtaabgfameegomaaEccCode3
import Derived.Test.YtaabgfameegomaaPackE
namespace Go.Proofs.Ytaabgfameegomaa
open Go.RowKit
set_option linter.unusedVariables false
set_option maxRecDepth 8192

/-- 'copy(out[o:o+len], y)': a part of a row of the call's own is filled. -/
theorem copy_at {P : Program} {k : IntKind} {w0 w : World} {B g o len cap d dc : Nat} {dT elem ty : TypeId} {a : Option Addr} {y z : List Int} (hu : P.underlying dT = some (.slice elem)) (hsz : (P.info? elem).map (·.size) = some 1)
    (hg : w.heap[g]? = some (.cells (z.map (Value.int k)).toArray elem (0, 0))) (ho : o + len ≤ z.length) (hr : Row k w a len cap y) (h0 : 0 < len) (hd : d = len) (hb : Below B w0 w) (hB : B ≤ g) :
    ∃ w2, Sem.run P (Builtin.copy_ #[dT, dT] ty #[.slice (some ⟨g, o, none⟩) d dc, .slice a len cap]) w = .ok (.int .i64 len) w2 ∧ w2.heap[g]? = some (.cells ((splice z o y).map (Value.int k)).toArray elem (0, 0)) ∧ Below B w0 w2 := by
  have hl := hr.hlen
  subst hd
  obtain ⟨b, off, rfl, hbs, hcell⟩ := hr.hcell h0
  have hrun := run_copy_row (P := P) w dT dT ty elem g o d dc ⟨b, off, none⟩ d cap (z.map (Value.int k)).toArray elem (y.map (Value.int k)) hu hsz hg (by rw [List.length_map, hl]; exact (Nat.min_self d).symm) (cells_row hl hcell) (by simp; omega) (ints_oneCell _ _)
  have e1 : ((z.map (Value.int k)).toArray.toList.take o) ++ y.map (Value.int k) ++ (z.map (Value.int k)).toArray.toList.drop (o + (y.map (Value.int k)).length) = (splice z o y).map (Value.int k) := by
    unfold splice
    simp [List.map_take, List.map_drop]
  rw [e1] at hrun
  refine ⟨_, ?_, setRow_heap w g _ _ elem _ hg, below_setRow hb hB _⟩
  rw [hrun]
  simp [goInt, hl]

/-- A round of Pack. -/
theorem pack_round {i n f m W : Nat} {x z y zE : List Int} (hW : n + m = W) (hl : i * W + n + m ≤ z.length) (hy : part x (i * n) n = y) (hyl : y.length = n) (hE : IsEnc f y zE) (hEl : zE.length = m) (h : Packed i n f m W x z) :
    Packed (i + 1) n f m W x (splice (splice z (i * W) y) (i * W + n) zE) ∧ (splice (splice z (i * W) y) (i * W + n) zE).length = z.length := by
  have l1 : (splice z (i * W) y).length = z.length := length_splice (by omega)
  have l2 : (splice (splice z (i * W) y) (i * W + n) zE).length = z.length := by rw [length_splice (by omega), l1]
  refine ⟨Packed.next (h.keep hW (by omega) (by omega) fun q hq => ?_) ?_ ?_, l2⟩
  · rw [splice_get (by omega), if_neg (by omega), splice_get (by omega), if_neg (by omega)]
  · rw [part_splice_off (by omega) (by omega) (.inl (Nat.le_refl _)), hy]
    have := part_splice_at (z := z) (y := y) (o := i * W) (by omega)
    rwa [hyl] at this
  · have := part_splice_at (z := splice z (i * W) y) (y := zE) (o := i * W + n) (by omega)
    rw [hEl] at this
    rw [this, hy]
    exact hE
theorem row_at {w : World} {g L : Nat} {T : TypeId} {z : List Int} (h : w.heap[g]? = some (.cells (z.map (Value.int .u8)).toArray T (0, 0))) (hl : z.length = L) (hm : L ≤ maxLen) : Row .u8 w (some ⟨g, 0, none⟩) L L z :=
  isB_of_row (owns_of_heap (base := 0) h (by rw [List.length_map, hl]) (Nat.zero_le _) hm)

theorem eccPack_no (b p s n f : Int) (a : Option Addr) (len cap : Nat) (w : World) (hm : mayG b p s n f = false) : Calls Try.prog 13 #[.agg #[.int .i64 b, .int .i64 p, .int .i64 s, .int .i64 n, .int .i64 f], .slice a len cap] w fun e w' => e = .returned (.tuple #[.slice none 0 0, .int .i64 1]) ∧ Below w.heap.size w w' := by
  go_enter Try.func13, Try.ntmps13
  go_wp2_with fail
  refine (eccMayBe_any b p s n f _).mono ?_
  rintro e w1 ⟨rfl, q1⟩
  rw [hm]
  go_wp2_with fail
  go_ret2
  exact ⟨rfl, btrans (below_one _ _) q1⟩
theorem eccPack_len {b p : Int} {s n f R m W L : Nat} (G : GOk b p s n f R m W L) (a : Option Addr) (len cap : Nat) (w : World) (hne : len ≠ R) : Calls Try.prog 13 #[.agg #[.int .i64 b, .int .i64 p, .int .i64 ((s : Nat)), .int .i64 ((n : Nat)), .int .i64 ((f : Nat))], .slice a len cap] w fun e w' => e = .returned (.tuple #[.slice none 0 0, .int .i64 1]) ∧ Below w.heap.size w w' := by
  have HM : Hid (mayG b p s n f = true) := G.may
  have hroom := room_any b p f s n R G.hR G.hs.2 (by have := G.hn; omega)
  have hq : (((len : Nat) : Int) != (R : Int)) = true := by simp; omega
  go_enter Try.func13, Try.ntmps13
  go_wp2_with fail
  refine (eccMayBe_any b p s n f _).mono ?_
  rintro e w1 ⟨rfl, q1⟩
  rw [HM.out]
  obtain ⟨_, c0, c1, c2, c3, c4⟩ := (gbox_new w 23 b p s n f).below q1 (Nat.le_refl _)
  go_wp2_with fail
  refine (hroom _).mono ?_
  rintro e w2 ⟨rfl, q2⟩
  go_wp2_with fail
  go_ret2
  exact ⟨rfl, btrans (btrans (below_one _ _) q1) q2⟩
set_option maxHeartbeats 3200000 in
set_option maxRecDepth 100000 in
theorem eccPack_yes (hB : HBitsC) (hE : HEncC) {b p : Int} {s n f R m W L : Nat} (G : GOk b p s n f R m W L) (a : Option Addr) (cap : Nat) (x : List Int) (w : World) (rx : Row .u8 w a R cap x) (bx : IsB x) :
    Calls Try.prog 13 #[.agg #[.int .i64 b, .int .i64 p, .int .i64 ((s : Nat)), .int .i64 ((n : Nat)), .int .i64 ((f : Nat))], .slice a R cap] w fun e w' => ∃ z gr, IsPack s n f m W x z ∧ w.heap.size ≤ gr ∧ e = .returned (.tuple #[.slice (some ⟨gr, 0, none⟩) L L, .int .i64 0]) ∧ w'.ownsRow w.heap.size 5 1 (.slice (some ⟨gr, 0, none⟩) L L) L (z.map (Value.int .u8)) ∧ Below w.heap.size w w' := by
  have HM : Hid (mayG b p s n f = true) := G.may
  have hroom := room_any b p f s n R G.hR G.hs.2 (by have := G.hn; omega)
  have hraw := rawBytes_any hB G
  have hs2 := G.hs
  have hn2 := G.hn
  have hf2 := G.hf
  have hm2 := G.m2
  have hL2 := G.L2
  have hR2 := G.hR1
  have HW : Hid (n + m = W) := G.hW
  have HMM : Hid ((13 * f + 7) / 8 = m) := G.hm
  have HLW : Hid (s * W + 1 = L) := G.hL
  have HX : Hid (x.length = R) := rx.hlen
  have hrc := rx.hcap
  have hrm := rx.hmax
  have hct : ∀ i, i < s → ∀ (g : Nat) (w : World), _ := fun i hi g => cut_any hB G hi g 0 L L (Nat.le_refl _) (by unfold maxLen; omega)
  have HAT : Hid (∀ i, i < s → i * W + n + m + 1 ≤ L) := fun i hi => by have := G.at_ hi; have := HW.out; omega
  have HPT : Hid (∀ i, i < s → i * n + n ≤ R) := fun i hi => G.part hi
  have hmaxL : L ≤ maxLen := by unfold maxLen; omega
  obtain ⟨i0, hi0, hz0, hz1, hz2⟩ := info_parts Try.info5
  have hxs : ∃ rb off, a = some ⟨rb, off, none⟩ := by
    obtain ⟨rb, off, h, _⟩ := rx.hcell (by omega)
    exact ⟨rb, off, h⟩
  obtain ⟨rb, off, rfl⟩ := hxs
  clear G
  go_enter Try.func13, Try.ntmps13
  go_wp2_with fail
  have gb := gbox_new w 23 b p s n f
  have q0 := below_one w (.cells #[.int .i64 b, .int .i64 p, .int .i64 s, .int .i64 n, .int .i64 f] 23)
  generalize w.alloc (.cells #[.int .i64 b, .int .i64 p, .int .i64 s, .int .i64 n, .int .i64 f] 23) = w0 at *
  generalize hgg : w.heap.size = g at gb
  refine (eccMayBe_any b p s n f _).mono ?_
  rintro e w1 ⟨rfl, q1⟩
  rw [HM.out]
  replace gb := gb.below q1 (Nat.le_refl _)
  replace q0 := btrans q0 q1
  clear q1 HM
  have gb1 := gb
  obtain ⟨_, c0, c1, c2, c3, c4⟩ := gb1
  go_wp2_with fail
  refine (hroom _).mono ?_
  rintro e w2 ⟨rfl, q1⟩
  replace gb := gb.below q1 (Nat.le_refl _)
  replace q0 := btrans q0 q1
  clear q1 c0 c1 c2 c3 c4 hroom
  have gb1 := gb
  obtain ⟨_, c0, c1, c2, c3, c4⟩ := gb1
  go_wp2_with fail
  refine (hraw _).mono ?_
  rintro e w3 ⟨rfl, q1⟩
  replace gb := gb.below q1 (Nat.le_refl _)
  replace q0 := btrans q0 q1
  clear q1 c0 c1 c2 c3 c4 hraw
  have hq0 := q0.size
  have hmk : ∀ w1 : World, w1.ownsRow w.heap.size 5 1 (.slice (some ⟨w3.heap.size, 0, none⟩) L L) L (madeCells (Value.int IntKind.u8 0).cells (L * 1)).toList → w3.grownBy w1 none → w1.heap[w3.heap.size]? = some (.cells ((List.replicate L (0 : Int)).map (Value.int .u8)).toArray 5 (0, 0)) ∧ Below w3.heap.size w3 w1 := fun w1 h1 h2 => by
    rw [made_ints] at h1
    exact ⟨heap_of_owns h1, (Below.refl _ _).grown h2 (Nat.le_refl _) (by simp)⟩
  go_wp2_with (at_make; refine wpList_make_full _ rfl _ _ 24 rfl w.heap.size 5 i0 (.int .u8 0) 1 Try.underlying24 hi0 hz0 hz1 _ _ _ _ L rfl rfl rfl rfl (by rw [hz2]; omega) hmaxL hq0 ?_; intro w4 hown4 hgrow4; obtain ⟨hg4, q4⟩ := hmk w4 hown4 hgrow4; obtain ⟨_, c0, c1, c2, c3, c4⟩ := gb.below q4 (Nat.le_refl _))
  clear hmk hown4 hgrow4 c0 c1 c2 c3 c4
  replace rx := rx.below q0 (Nat.le_refl _)
  have hgb3 := gb.lt
  have hq4 := q4.size
  have hg4l : w3.heap.size < w4.heap.size := lt_of_block hg4
  have hB4 : Below w3.heap.size w3 w4 := q4
  have HLR : Hid ((List.replicate L (0 : Int)).length = L) := List.length_replicate
  generalize hgx : w3.heap.size = gr at *
  clear q4
  go_loopw [29] (fun y wr => ∃ (i : Nat) (z : List Int), i ≤ s ∧ y = .int .i64 i ∧ z.length = L ∧ IsB z ∧ Packed i n f m W x z ∧ wr.heap[gr]? = some (.cells (z.map (Value.int .u8)).toArray 5 (0, 0)) ∧ Below gr w3 wr) (fun y _ => s - (intOf y).toNat)
  case atStart => exact ⟨0, _, Nat.zero_le _, rfl, HLR.out, isB_noughts L, packed_zero _ _ _ _ _ _, hg4, hB4⟩
  case round =>
    clear hg4 hB4 HLR hg4l hq4
    obtain ⟨i, z, hi, rfl, hzl, hz, hpk, hgz, qb⟩ := hrel
    have HZL : Hid (z.length = L) := hzl
    have HPK : Hid (Packed i n f m W x z) := hpk
    clear hzl hpk
    have hsr := lt_of_block hgz
    by_cases hlt : i < s
    case neg =>
      have e : i = s := by omega
      subst e
      clear hlt hi
      have hfz := unfrozen_of_blk hgz (L - 1)
      have u1 : IntKind.i64.wrap ((L : Int) - 1) = ((L - 1 : Nat) : Int) := by rw [IntKind.wrap_i64]; omega
      have u2 : (L : Int) - 1 = ((L - 1 : Nat) : Int) := by omega
      have HFIN : Hid (IsPack i n f m W x (z.set (L - 1) 0)) := ⟨by rw [List.length_set, HZL.out, HLW.out], isB_set hz _ _ (by decide) (by decide), HPK.out.keep HW.out (by rw [HZL.out]; have := HLW.out; omega) (by rw [List.length_set, HZL.out]; have := HLW.out; omega) (fun q hq => by rw [set_get, if_neg (by have := HLW.out; omega)]), by rw [set_get, if_pos ⟨by have := HLW.out; omega, by rw [HZL.out]; omega⟩]⟩
      have ow := owns_of_heap (base := w.heap.size) hgz (by rw [List.length_map, HZL.out]) hq0 hmaxL
      have hcl := owned_cell ow (L - 1) (by omega)
      generalize z[L - 1]?.getD 0 = zl at hcl
      have R := owned_set (q := L - 1) (x := 0) hq0 ow (Below.trans q0 (qb.mono hq0))
      have HR : Hid _ := R
      clear R ow hgz qb
      generalize L - 1 = L1 at *
      go_wp2_with fail
      go_ret2
      exact ⟨_, gr, HFIN.out, hq0, rfl, HR.out.1, HR.out.2⟩
    have gb1 := gb.below qb (by rw [hgx]; exact Nat.le_refl _)
    have rx1 := rx.below qb (by rw [hgx]; exact Nat.le_refl _)
    have q1 := Below.trans q0 (qb.mono hq0)
    have hat := HAT.out i hlt
    have hpt := HPT.out i hlt
    have hc := hct i hlt gr
    rw [Nat.zero_add] at hc
    have HFn : Hid (i * n = i * n) := rfl
    obtain ⟨F, hF⟩ : ∃ F, i * W = F := ⟨_, rfl⟩
    obtain ⟨D, hD⟩ : ∃ D, i * n = D := ⟨_, rfl⟩
    rw [hF] at hc hat
    rw [hD] at hpt
    have HF : Hid (i * W = F) := hF
    have HD : Hid (i * n = D) := hD
    clear hF hD HFn
    have u5 : (i : Int) < (s : Int) := by omega
    obtain ⟨D2, hD2⟩ : ∃ D2, D + n = D2 := ⟨_, rfl⟩
    have HD2 : Hid (D + n = D2) := hD2
    clear hD2
    have HDI : Hid ((i : Int) * (n : Int) = (D : Int)) := by show _ = _; rw [← Int.natCast_mul, HD.out]
    have HDJ : Hid (((i : Int) + 1) * (n : Int) = (D2 : Int)) := by show _ = _; rw [Int.add_mul, HDI.out]; have := HD2.out; omega
    have hDD : D < D2 := by have := HD2.out; omega
    have hDR : D2 ≤ R := by have := HD2.out; omega
    go_wp2_with fail
    refine held_begin (by kernel_rfl) ?_
    refine held_reads (rs := [0, 1, 2, 3, 4, 5, 6, 7, 8, 9, 10]) (fuel := 0) (by kernel_rfl) (fun c d v a w h => by cases d <;> exact h) (by kernel_rfl) (Since.drew _) (fun K hK => ?_)
    refine calm_move _ rfl (by rfl) rfl ?_
    go_simp
    refine calm_do (.pointer (some ⟨g, 3, none⟩)) rfl (by rfl) (fun w' hw' => ?_) ?_
    · skip
      go_simp
    go_simp
    refine calm_do (.int .i64 n) rfl (by rfl) (fun w' hw' => ?_) ?_
    · have gb' := gb1.below hw' (Nat.le_refl _)
      obtain ⟨_, c0, c1, c2, c3, c4⟩ := gb'
      go_simp
    go_simp
    refine calm_do (.int .i64 D) rfl (by rfl) (fun w' hw' => ?_) ?_
    · skip
      go_simp
      all_goals (rw [HDI.out, IntKind.wrap_i64]; omega)
    go_simp
    refine calm_move _ rfl (by rfl) rfl ?_
    go_simp
    refine calm_do (.int .i64 ((i : Int) + 1)) rfl (by rfl) (fun w' hw' => ?_) ?_
    · skip
      go_simp
      all_goals (rw [IntKind.wrap_i64]; omega)
    go_simp
    refine calm_do (.pointer (some ⟨g, 3, none⟩)) rfl (by rfl) (fun w' hw' => ?_) ?_
    · skip
      go_simp
    go_simp
    refine calm_do (.int .i64 n) rfl (by rfl) (fun w' hw' => ?_) ?_
    · have gb' := gb1.below hw' (Nat.le_refl _)
      obtain ⟨_, c0, c1, c2, c3, c4⟩ := gb'
      go_simp
    go_simp
    refine calm_do (.int .i64 D2) rfl (by rfl) (fun w' hw' => ?_) ?_
    · skip
      go_simp
      all_goals (rw [HDJ.out, IntKind.wrap_i64]; omega)
    go_simp
    refine calm_assign _ rfl (by rfl) rfl ?_
    go_simp
    refine calm_assign _ rfl (by rfl) rfl ?_
    go_simp
    refine calm_nil (hK.out _ ?_)
    clear hK K
    refine wpAnyH_done (by kernel_rfl) ?_ _
    have qd : Below wr.heap.size wr wr.drew := (Below.refl _ _).drew
    replace gb1 := gb1.below qd (Nat.le_refl _)
    replace rx1 := rx1.below qd (Nat.le_refl _)
    replace hgz := block_below hgz qd hsr
    replace qb := qb.trans (qd.mono (by omega))
    clear q1 qd hsr
    generalize wr.drew = wd at *
    have gb2 := gb1
    obtain ⟨_, c0, c1, c2, c3, c4⟩ := gb2
    go_wp2_with fail
    refine (hc _).mono ?_
    rintro e w5 ⟨rfl, q5⟩
    clear c0 c1 c2 c3 c4 hc hct
    have hsr := lt_of_block hgz
    replace gb1 := gb1.below q5 (Nat.le_refl _)
    replace rx1 := rx1.below q5 (Nat.le_refl _)
    replace hgz := block_below hgz q5 hsr
    replace qb := qb.trans (q5.mono (by omega))
    clear q5 hsr
    have ry : Row .u8 w5 (some ⟨rb, off + D, none⟩) (D2 - D) (D2 - D) (part x D n) := by
      rw [show D2 - D = n by have := HD2.out; omega]
      exact row_part rx1 D n n (by have := HD2.out; omega) (Nat.le_refl _) (by unfold maxLen; omega)
    have HY : Hid (part x D n = part x D n) := rfl
    have by_ := isB_part bx D n
    have hyl : (part x D n).length = n := length_part (by rw [HX.out]; have := HD2.out; omega)
    generalize hyy : part x D n = y at *
    clear HY
    have HYL : Hid (y.length = n) := hyl
    have HYY : Hid (part x D n = y) := hyy
    clear hyl hyy
    obtain ⟨w6, hrun, hg6, qb6⟩ := copy_at (P := Try.prog) (d := n) (dc := n) (o := F) (dT := 24) (elem := 5) (ty := 3) Try.underlying24 (by kernel_rfl) hgz (by rw [HZL.out]; have := HD2.out; omega) ry (by omega) (by have := HD2.out; omega) qb (Nat.le_refl _)
    clear ry hgz qb
    replace gb := gb.below qb6 (by rw [hgx]; exact Nat.le_refl _)
    have gb2 := gb
    obtain ⟨_, c0, c1, c2, c3, c4⟩ := gb2
    have e1 : (D : Int) ≤ (D2 : Int) := by omega
    have e2 : (D2 : Int) ≤ (cap : Int) := by omega
    have e3 : ¬ D2 = D := by omega
    have r6 := row_at hg6 (by rw [length_splice (by rw [HZL.out, HYL.out]; omega), HZL.out]) hmaxL
    have r7 := row_part r6 F n n (by omega) (Nat.le_refl _) (by unfold maxLen; omega)
    rw [Nat.zero_add, show part (splice z F y) F n = y by have := part_splice_at (z := z) (y := y) (o := F) (by rw [HZL.out, HYL.out]; omega); rwa [HYL.out] at this] at r7
    have hen := hE.yes f _ _ _ y _ r7 by_ (by omega) hf2.1 hf2.2 (by omega)
    clear r6 r7
    go_wp2_with fail
    refine hen.mono ?_
    rintro e w7 ⟨zE, hzE, aE, cE, rfl, rE, q7⟩
    clear hen hrun c0 c1 c2 c3 c4
    have hzl : zE.length = m := by rw [hzE.len, HMM.out]
    have hzb := hzE.isB
    have HZE : Hid (IsEnc f y zE) := hzE
    have HEL : Hid (zE.length = m) := hzl
    rw [hzl] at rE ⊢
    clear hzE hzl
    have hsr := lt_of_block hg6
    replace gb := gb.below q7 (Nat.le_refl _)
    replace hg6 := block_below hg6 q7 hsr
    replace qb6 := qb6.trans (q7.mono (by omega))
    clear q7 hsr
    obtain ⟨w8, hrun, hg8, qb8⟩ := copy_at (P := Try.prog) (d := m) (dc := m) (o := F + n) (dT := 24) (elem := 5) (ty := 3) Try.underlying24 (by kernel_rfl) hg6 (by rw [length_splice (by rw [HZL.out, HYL.out]; omega), HZL.out]; omega) rE (by omega) rfl qb6 (Nat.le_refl _)
    have HNX : Hid (Packed (i + 1) n f m W x (splice (splice z F y) (F + n) zE) ∧ (splice (splice z F y) (F + n) zE).length = z.length) := by
      show _ ∧ _
      rw [← HF.out]
      exact pack_round HW.out (by rw [HF.out, HZL.out]; omega) (by rw [HD.out]; exact HYY.out) HYL.out HZE.out HEL.out HPK.out
    have HBB : Hid (IsB (splice (splice z F y) (F + n) zE)) := isB_splice (isB_splice hz by_) hzb
    generalize splice (splice z F y) (F + n) zE = z2 at *
    clear hg6 qb6 rE
    go_wp2_with fail
    go_roundw
    case rel => exact ⟨i + 1, z2, by omega, by go_num, by rw [HNX.out.2, HZL.out], HBB.out, HNX.out.1, hg8, qb8⟩
    case measure => simp [intOf]; omega

end Go.Proofs.Ytaabgfameegomaa
