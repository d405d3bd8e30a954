/-
  The code of layer 6 (ecc), as it landed: Pack. (Written by tools/gen/ecc_pack.py.)
-/
import Derived.Test.YtgamakejaknagaaGreatPackJ
import Derived.Test.YtgamakejaknagaaGreatPackE
namespace Go.Proofs.YtgamakejaknagaaGreat
open Go.RowKit
set_option linter.unusedVariables false
set_option maxRecDepth 8192

/-- 'copy(out[o:o+len], y)': a part of a row of the call's own is filled. -/
theorem copy_at {P : Program} {k : IntKind} {w0 w : World} {B g o len cap d dc : Nat} {dT elem ty : TypeId} {a : Option Addr} {y z : List Int} (hu : P.underlying dT = some (.slice elem)) (hsz : (P.info? elem).map (·.size) = some 1)
    (hg : w.heap[g]? = some (.cells (z.map (Value.int k)).toArray elem (0, 0))) (ho : o + len ≤ z.length) (hr : Row k w a len cap y) (h0 : 0 < len) (hd : d = len) (hb : Below B w0 w) (hB : B ≤ g) :
    ∃ w2, Sem.run P (Builtin.copy_ #[dT, dT] ty #[.slice (some ⟨g, o, none⟩) d dc, .slice a len cap]) w = .ok (.int .i64 len) w2 ∧ w2.heap[g]? = some (.cells ((splice z o y).map (Value.int k)).toArray elem (0, 0)) ∧ Below B w0 w2 := by
  have hl := hr.hlen
  subst hd
  obtain ⟨b, off, rfl, hbs, hcell⟩ := hr.hcell h0
  have hrun := run_copy_row (P := P) w dT dT ty elem g o d dc ⟨b, off, none⟩ d cap (z.map (Value.int k)).toArray elem (y.map (Value.int k)) hu hsz hg (by rw [List.length_map, hl]; exact (Nat.min_self d).symm) (cells_row hl hcell) (by simp; omega) (ints_oneCell _ _)
  have e1 : ((z.map (Value.int k)).toArray.toList.take o) ++ y.map (Value.int k) ++ (z.map (Value.int k)).toArray.toList.drop (o + (y.map (Value.int k)).length) = (splice z o y).map (Value.int k) := by
    unfold splice
    simp [List.map_take, List.map_drop]
  rw [e1] at hrun
  refine ⟨_, ?_, setRow_heap w g _ _ elem _ hg, below_setRow hb hB _⟩
  rw [hrun]
  simp [goInt, hl]

/-- A round of Pack. -/
theorem pack_round {i n f m W : Nat} {x z y zE : List Int} (hW : n + m = W) (hl : i * W + n + m ≤ z.length) (hy : part x (i * n) n = y) (hyl : y.length = n) (hE : IsEnc f y zE) (hEl : zE.length = m) (h : Packed i n f m W x z) :
    Packed (i + 1) n f m W x (splice (splice z (i * W) y) (i * W + n) zE) ∧ (splice (splice z (i * W) y) (i * W + n) zE).length = z.length := by
  have l1 : (splice z (i * W) y).length = z.length := length_splice (by omega)
  have l2 : (splice (splice z (i * W) y) (i * W + n) zE).length = z.length := by rw [length_splice (by omega), l1]
  refine ⟨Packed.next (h.keep hW (by omega) (by omega) fun q hq => ?_) ?_ ?_, l2⟩
  · rw [splice_get (by omega), if_neg (by omega), splice_get (by omega), if_neg (by omega)]
  · rw [part_splice_off (by omega) (by omega) (.inl (Nat.le_refl _)), hy]
    have := part_splice_at (z := z) (y := y) (o := i * W) (by omega)
    rwa [hyl] at this
  · have := part_splice_at (z := splice z (i * W) y) (y := zE) (o := i * W + n) (by omega)
    rw [hEl] at this
    rw [this, hy]
    exact hE
theorem row_at {w : World} {g L : Nat} {T : TypeId} {z : List Int} (h : w.heap[g]? = some (.cells (z.map (Value.int .u8)).toArray T (0, 0))) (hl : z.length = L) (hm : L ≤ maxLen) : Row .u8 w (some ⟨g, 0, none⟩) L L z :=
  isB_of_row (owns_of_heap (base := 0) h (by rw [List.length_map, hl]) (Nat.zero_le _) hm)

set_option maxHeartbeats 3200000 in
set_option maxRecDepth 100000 in
theorem eccPack_yes (hB : HBitsC) (hE : HEncC) {b p : Int} {s n f R m W L : Nat} (G : GOk b p s n f R m W L) (a : Option Addr) (cap : Nat) (x : List Int) (w : World) (rx : Row .u8 w a R cap x) (bx : IsB x) :
    Calls Tryz.prog 104 #[.agg #[.int .i64 b, .int .i64 p, .int .i64 ((s : Nat)), .int .i64 ((n : Nat)), .int .i64 ((f : Nat))], .slice a R cap] w fun e w' => ∃ z gr, IsPack s n f m W x z ∧ w.heap.size ≤ gr ∧ e = .returned (.tuple #[.slice (some ⟨gr, 0, none⟩) L L, .int .i64 0]) ∧ w'.ownsRow w.heap.size 5 1 (.slice (some ⟨gr, 0, none⟩) L L) L (z.map (Value.int .u8)) ∧ Below w.heap.size w w' := by
  have HM : Hid (mayG b p s n f = true) := G.may
  have hroom := room_any b p f s n R G.hR G.hs.2 (by have := G.hn; omega)
  have hraw := rawBytes_any hB G
  have hs2 := G.hs
  have hn2 := G.hn
  have hf2 := G.hf
  have hm2 := G.m2
  have hL2 := G.L2
  have hR2 := G.hR1
  have HW : Hid (n + m = W) := G.hW
  have HMM : Hid ((13 * f + 7) / 8 = m) := G.hm
  have HLW : Hid (s * W + 1 = L) := G.hL
  have HX : Hid (x.length = R) := rx.hlen
  have hrc := rx.hcap
  have hrm := rx.hmax
  have hct : ∀ i, i < s → ∀ (g : Nat) (w : World), _ := fun i hi g => cut_any hB G hi g 0 L L (Nat.le_refl _) (by unfold maxLen; omega)
  have HAT : Hid (∀ i, i < s → i * W + n + m + 1 ≤ L) := fun i hi => by have := G.at_ hi; have := HW.out; omega
  have HPT : Hid (∀ i, i < s → i * n + n ≤ R) := fun i hi => G.part hi
  have hmaxL : L ≤ maxLen := by unfold maxLen; omega
  obtain ⟨i0, hi0, hz0, hz1, hz2⟩ := info_parts Tryz.info5
  have hxs : ∃ rb off, a = some ⟨rb, off, none⟩ := by
    obtain ⟨rb, off, h, _⟩ := rx.hcell (by omega)
    exact ⟨rb, off, h⟩
  obtain ⟨rb, off, rfl⟩ := hxs
  clear G
  go_enter Tryz.func104, Tryz.ntmps104
  go_wp2_with fail
  have gb := gbox_new w 23 b p s n f
  have q0 := below_one w (.cells #[.int .i64 b, .int .i64 p, .int .i64 s, .int .i64 n, .int .i64 f] 23)
  generalize w.alloc (.cells #[.int .i64 b, .int .i64 p, .int .i64 s, .int .i64 n, .int .i64 f] 23) = w0 at *
  generalize hgg : w.heap.size = g at gb
  refine (eccMayBe_any b p s n f _).mono ?_
  rintro e w1 ⟨rfl, q1⟩
  rw [HM.out]
  replace gb := gb.below q1 (Nat.le_refl _)
  replace q0 := btrans q0 q1
  clear q1 HM
  have gb1 := gb
  obtain ⟨_, c0, c1, c2, c3, c4⟩ := gb1
  go_wp2_with fail
  refine (hroom _).mono ?_
  rintro e w2 ⟨rfl, q1⟩
  replace gb := gb.below q1 (Nat.le_refl _)
  replace q0 := btrans q0 q1
  clear q1 c0 c1 c2 c3 c4 hroom
  have gb1 := gb
  obtain ⟨_, c0, c1, c2, c3, c4⟩ := gb1
  go_wp2_with fail
  refine (hraw _).mono ?_
  rintro e w3 ⟨rfl, q1⟩
  replace gb := gb.below q1 (Nat.le_refl _)
  replace q0 := btrans q0 q1
  clear q1 c0 c1 c2 c3 c4 hraw
  have hq0 := q0.size
  have hmk : ∀ w1 : World, w1.ownsRow w.heap.size 5 1 (.slice (some ⟨w3.heap.size, 0, none⟩) L L) L (madeCells (Value.int IntKind.u8 0).cells (L * 1)).toList → w3.grownBy w1 none → w1.heap[w3.heap.size]? = some (.cells ((List.replicate L (0 : Int)).map (Value.int .u8)).toArray 5 (0, 0)) ∧ Below w3.heap.size w3 w1 := fun w1 h1 h2 => by
    rw [made_ints] at h1
    exact ⟨heap_of_owns h1, (Below.refl _ _).grown h2 (Nat.le_refl _) (by simp)⟩
  go_wp2_with (at_make; refine wpList_make_full _ rfl _ _ 33 rfl w.heap.size 5 i0 (.int .u8 0) 1 Tryz.underlying33 hi0 hz0 hz1 _ _ _ _ L rfl rfl rfl rfl (by rw [hz2]; omega) hmaxL hq0 ?_; intro w4 hown4 hgrow4; obtain ⟨hg4, q4⟩ := hmk w4 hown4 hgrow4; obtain ⟨_, c0, c1, c2, c3, c4⟩ := gb.below q4 (Nat.le_refl _))
  clear hmk hown4 hgrow4 c0 c1 c2 c3 c4
  replace rx := rx.below q0 (Nat.le_refl _)
  have hgb3 := gb.lt
  have hq4 := q4.size
  have hg4l : w3.heap.size < w4.heap.size := lt_of_block hg4
  have hB4 : Below w3.heap.size w3 w4 := q4
  have HLR : Hid ((List.replicate L (0 : Int)).length = L) := List.length_replicate
  generalize hgx : w3.heap.size = gr at *
  clear q4
  go_loopw [29] (fun y wr => ∃ (i : Nat) (z : List Int), i ≤ s ∧ y = .int .i64 i ∧ z.length = L ∧ IsB z ∧ Packed i n f m W x z ∧ wr.heap[gr]? = some (.cells (z.map (Value.int .u8)).toArray 5 (0, 0)) ∧ Below gr w3 wr) (fun y _ => s - (intOf y).toNat)
  case atStart => exact ⟨0, _, Nat.zero_le _, rfl, HLR.out, isB_noughts L, packed_zero _ _ _ _ _ _, hg4, hB4⟩
  case round =>
    clear hg4 hB4 HLR hg4l hq4
    obtain ⟨i, z, hi, rfl, hzl, hz, hpk, hgz, qb⟩ := hrel
    have HZL : Hid (z.length = L) := hzl
    have HPK : Hid (Packed i n f m W x z) := hpk
    clear hzl hpk
    have hsr := lt_of_block hgz
    by_cases hlt : i < s
    case neg =>
      have e : i = s := by omega
      subst e
      clear hlt hi
      have hfz := unfrozen_of_blk hgz (L - 1)
      have u1 : IntKind.i64.wrap ((L : Int) - 1) = ((L - 1 : Nat) : Int) := by rw [IntKind.wrap_i64]; omega
      have u2 : (L : Int) - 1 = ((L - 1 : Nat) : Int) := by omega
      have HFIN : Hid (IsPack i n f m W x (z.set (L - 1) 0)) := ⟨by rw [List.length_set, HZL.out, HLW.out], isB_set hz _ _ (by decide) (by decide), HPK.out.keep HW.out (by rw [HZL.out]; have := HLW.out; omega) (by rw [List.length_set, HZL.out]; have := HLW.out; omega) (fun q hq => by rw [set_get, if_neg (by have := HLW.out; omega)]), by rw [set_get, if_pos ⟨by have := HLW.out; omega, by rw [HZL.out]; omega⟩]⟩
      have ow := owns_of_heap (base := w.heap.size) hgz (by rw [List.length_map, HZL.out]) hq0 hmaxL
      have hcl := owned_cell ow (L - 1) (by omega)
      generalize z[L - 1]?.getD 0 = zl at hcl
      have R := owned_set (q := L - 1) (x := 0) hq0 ow (Below.trans q0 (qb.mono hq0))
      have HR : Hid _ := R
      clear R ow hgz qb
      generalize L - 1 = L1 at *
      go_wp2_with fail
      go_ret2
      exact ⟨_, gr, HFIN.out, hq0, rfl, HR.out.1, HR.out.2⟩
    have gb1 := gb.below qb (by rw [hgx]; exact Nat.le_refl _)
    have rx1 := rx.below qb (by rw [hgx]; exact Nat.le_refl _)
    have q1 := Below.trans q0 (qb.mono hq0)
    have hat := HAT.out i hlt
    have hpt := HPT.out i hlt
    have hc := hct i hlt gr
    rw [Nat.zero_add] at hc
    have HFn : Hid (i * n = i * n) := rfl
    obtain ⟨F, hF⟩ : ∃ F, i * W = F := ⟨_, rfl⟩
    obtain ⟨D, hD⟩ : ∃ D, i * n = D := ⟨_, rfl⟩
    rw [hF] at hc hat
    rw [hD] at hpt
    have HF : Hid (i * W = F) := hF
    have HD : Hid (i * n = D) := hD
    clear hF hD HFn
    have u5 : (i : Int) < (s : Int) := by omega
    obtain ⟨D2, hD2⟩ : ∃ D2, D + n = D2 := ⟨_, rfl⟩
    have HD2 : Hid (D + n = D2) := hD2
    clear hD2
    have HDI : Hid ((i : Int) * (n : Int) = (D : Int)) := by show _ = _; rw [← Int.natCast_mul, HD.out]
    have HDJ : Hid (((i : Int) + 1) * (n : Int) = (D2 : Int)) := by show _ = _; rw [Int.add_mul, HDI.out]; have := HD2.out; omega
    have hDD : D < D2 := by have := HD2.out; omega
    have hDR : D2 ≤ R := by have := HD2.out; omega
    go_wp2_with fail
    refine held_begin (by kernel_rfl) ?_
    refine held_reads (rs := [0, 1, 2, 3, 4, 5, 6, 7, 8, 9, 10]) (fuel := 0) (by kernel_rfl) (fun c d v a w h => by cases d <;> exact h) (by kernel_rfl) (Since.drew _) (fun K hK => ?_)
    refine calm_move _ rfl (by rfl) rfl ?_
    go_simp
    refine calm_do (.pointer (some ⟨g, 3, none⟩)) rfl (by rfl) (fun w' hw' => ?_) ?_
    · skip
      go_simp
    go_simp
    refine calm_do (.int .i64 n) rfl (by rfl) (fun w' hw' => ?_) ?_
    · have gb' := gb1.below hw' (Nat.le_refl _)
      obtain ⟨_, c0, c1, c2, c3, c4⟩ := gb'
      go_simp
    go_simp
    refine calm_do (.int .i64 D) rfl (by rfl) (fun w' hw' => ?_) ?_
    · skip
      go_simp
      all_goals (rw [HDI.out, IntKind.wrap_i64]; omega)
    go_simp
    refine calm_move _ rfl (by rfl) rfl ?_
    go_simp
    refine calm_do (.int .i64 ((i : Int) + 1)) rfl (by rfl) (fun w' hw' => ?_) ?_
    · skip
      go_simp
      all_goals (rw [IntKind.wrap_i64]; omega)
    go_simp
    refine calm_do (.pointer (some ⟨g, 3, none⟩)) rfl (by rfl) (fun w' hw' => ?_) ?_
    · skip
      go_simp
    go_simp
    refine calm_do (.int .i64 n) rfl (by rfl) (fun w' hw' => ?_) ?_
    · have gb' := gb1.below hw' (Nat.le_refl _)
      obtain ⟨_, c0, c1, c2, c3, c4⟩ := gb'
      go_simp
    go_simp
    refine calm_do (.int .i64 D2) rfl (by rfl) (fun w' hw' => ?_) ?_
    · skip
      go_simp
      all_goals (rw [HDJ.out, IntKind.wrap_i64]; omega)
    go_simp
    refine calm_assign _ rfl (by rfl) rfl ?_
    go_simp
    refine calm_assign _ rfl (by rfl) rfl ?_
    go_simp
    refine calm_nil (hK.out _ ?_)
    clear hK K
    refine wpAnyH_done (by kernel_rfl) ?_ _
    have qd : Below wr.heap.size wr wr.drew := (Below.refl _ _).drew
    replace gb1 := gb1.below qd (Nat.le_refl _)
    replace rx1 := rx1.below qd (Nat.le_refl _)
    replace hgz := block_below hgz qd hsr
    replace qb := qb.trans (qd.mono (by omega))
    clear q1 qd hsr
    generalize wr.drew = wd at *
    have gb2 := gb1
    obtain ⟨_, c0, c1, c2, c3, c4⟩ := gb2
    go_wp2_with fail
    refine (hc _).mono ?_
    rintro e w5 ⟨rfl, q5⟩
    clear c0 c1 c2 c3 c4 hc hct
    have hsr := lt_of_block hgz
    replace gb1 := gb1.below q5 (Nat.le_refl _)
    replace rx1 := rx1.below q5 (Nat.le_refl _)
    replace hgz := block_below hgz q5 hsr
    replace qb := qb.trans (q5.mono (by omega))
    clear q5 hsr
    have ry : Row .u8 w5 (some ⟨rb, off + D, none⟩) (D2 - D) (D2 - D) (part x D n) := by
      rw [show D2 - D = n by have := HD2.out; omega]
      exact row_part rx1 D n n (by have := HD2.out; omega) (Nat.le_refl _) (by unfold maxLen; omega)
    have HY : Hid (part x D n = part x D n) := rfl
    have by_ := isB_part bx D n
    have hyl : (part x D n).length = n := length_part (by rw [HX.out]; have := HD2.out; omega)
    generalize hyy : part x D n = y at *
    clear HY
    have HYL : Hid (y.length = n) := hyl
    have HYY : Hid (part x D n = y) := hyy
    clear hyl hyy
    obtain ⟨w6, hrun, hg6, qb6⟩ := copy_at (P := Tryz.prog) (d := n) (dc := n) (o := F) (dT := 33) (elem := 5) (ty := 3) Tryz.underlying33 (by kernel_rfl) hgz (by rw [HZL.out]; have := HD2.out; omega) ry (by omega) (by have := HD2.out; omega) qb (Nat.le_refl _)
    clear ry hgz qb
    replace gb := gb.below qb6 (by rw [hgx]; exact Nat.le_refl _)
    have gb2 := gb
    obtain ⟨_, c0, c1, c2, c3, c4⟩ := gb2
    have e1 : (D : Int) ≤ (D2 : Int) := by omega
    have e2 : (D2 : Int) ≤ (cap : Int) := by omega
    have e3 : ¬ D2 = D := by omega
    have r6 := row_at hg6 (by rw [length_splice (by rw [HZL.out, HYL.out]; omega), HZL.out]) hmaxL
    have r7 := row_part r6 F n n (by omega) (Nat.le_refl _) (by unfold maxLen; omega)
    rw [Nat.zero_add, show part (splice z F y) F n = y by have := part_splice_at (z := z) (y := y) (o := F) (by rw [HZL.out, HYL.out]; omega); rwa [HYL.out] at this] at r7
    have hen := hE.yes f _ _ _ y _ r7 by_ (by omega) hf2.1 hf2.2 (by omega)
    clear r6 r7
    go_wp2_with fail
    refine hen.mono ?_
    rintro e w7 ⟨zE, hzE, aE, cE, rfl, rE, q7⟩
    clear hen hrun c0 c1 c2 c3 c4
    have hzl : zE.length = m := by rw [hzE.len, HMM.out]
    have hzb := hzE.isB
    have HZE : Hid (IsEnc f y zE) := hzE
    have HEL : Hid (zE.length = m) := hzl
    rw [hzl] at rE ⊢
    clear hzE hzl
    have hsr := lt_of_block hg6
    replace gb := gb.below q7 (Nat.le_refl _)
    replace hg6 := block_below hg6 q7 hsr
    replace qb6 := qb6.trans (q7.mono (by omega))
    clear q7 hsr
    obtain ⟨w8, hrun, hg8, qb8⟩ := copy_at (P := Tryz.prog) (d := m) (dc := m) (o := F + n) (dT := 33) (elem := 5) (ty := 3) Tryz.underlying33 (by kernel_rfl) hg6 (by rw [length_splice (by rw [HZL.out, HYL.out]; omega), HZL.out]; omega) rE (by omega) rfl qb6 (Nat.le_refl _)
    have HNX : Hid (Packed (i + 1) n f m W x (splice (splice z F y) (F + n) zE) ∧ (splice (splice z F y) (F + n) zE).length = z.length) := by
      show _ ∧ _
      rw [← HF.out]
      exact pack_round HW.out (by rw [HF.out, HZL.out]; omega) (by rw [HD.out]; exact HYY.out) HYL.out HZE.out HEL.out HPK.out
    have HBB : Hid (IsB (splice (splice z F y) (F + n) zE)) := isB_splice (isB_splice hz by_) hzb
    generalize splice (splice z F y) (F + n) zE = z2 at *
    clear hg6 qb6 rE
    go_wp2_with fail
    go_roundw
    case rel => exact ⟨i + 1, z2, by omega, by go_num, by rw [HNX.out.2, HZL.out], HBB.out, HNX.out.1, hg8, qb8⟩
    case measure => simp [intOf]; omega

end Go.Proofs.YtgamakejaknagaaGreat

/-
  The code of layer 6 (ecc), as it landed: Unpack. (Written by tools/gen/ecc_unpack.py.)
-/
namespace Go.Proofs.YtgamakejaknagaaGreat
open Go.RowKit
set_option linter.unusedVariables false
set_option maxRecDepth 8192

/-- The sector c lies in the block g, as its j-th. -/
def SecAt (w : World) (g j : Nat) (c : Sec) : Prop := g < w.heap.size ∧ ∃ a cap, w.cell? ⟨g, j * 3, none⟩ = some (.slice a c.d.length cap) ∧ w.cell? ⟨g, j * 3 + 1, none⟩ = some (.int .i64 (c.n : Int)) ∧ w.cell? ⟨g, j * 3 + 2, none⟩ = some (.int .i64 c.e) ∧ Row .u8 w a c.d.length cap c.d
theorem SecAt.below {w w' : World} {g j B : Nat} {c : Sec} (h : SecAt w g j c) (hb : Below B w w') (hB : w.heap.size ≤ B) : SecAt w' g j c := by
  obtain ⟨hg, a, cap, h0, h1, h2, hr⟩ := h
  refine ⟨by have := hb.size; omega, a, cap, ?_, ?_, ?_, hr.below hb hB⟩
  · rw [hb.cell (by show g < B; omega)]; exact h0
  · rw [hb.cell (by show g < B; omega)]; exact h1
  · rw [hb.cell (by show g < B; omega)]; exact h2
/-- A block of sectors that is being filled: no bytes in it. -/
structure SecBlk (w : World) (g s : Nat) (T : TypeId) (i : Nat) (S : Nat → Sec) : Prop where
  blk : ∃ cs : Array Value, w.heap[g]? = some (.cells cs T (0, 0)) ∧ cs.size = 3 * s ∧ ∀ (q : Nat) (x : Int), cs[q]? ≠ some (Value.int .u8 x)
  sec : ∀ j, j < i → SecAt w g j (S j)
theorem SecBlk.below {w w' : World} {g s B i : Nat} {T : TypeId} {S : Nat → Sec} (h : SecBlk w g s T i S) (hb : Below B w w') (hB : w.heap.size ≤ B) : SecBlk w' g s T i S := by
  obtain ⟨⟨cs, h1, h2, h3⟩, h4⟩ := h
  have := lt_of_block h1
  exact ⟨⟨cs, block_below h1 hb (by omega), h2, h3⟩, fun j hj => (h4 j hj).below hb hB⟩
theorem set_noU8 {cs : Array Value} (h : ∀ (q : Nat) (x : Int), cs[q]? ≠ some (Value.int .u8 x)) (i : Nat) (v : Value) (hv : ∀ x, v ≠ Value.int .u8 x) : ∀ (q : Nat) (x : Int), (cs.setIfInBounds i v)[q]? ≠ some (Value.int .u8 x) := by
  intro q x
  rw [Array.getElem?_setIfInBounds]
  split
  · split
    · intro e; exact hv x (Option.some.inj e)
    · simp
  · exact h q x
theorem cell_far {w : World} {g i k : Nat} {v : Value} (h : i ≠ k) : (w.setCell ⟨g, i, none⟩ v).cell? ⟨g, k, none⟩ = w.cell? ⟨g, k, none⟩ := World.cell?_setCell_other _ _ _ _ (by intro e; exact h (Addr.mk.inj e).2.1)
theorem SecAt.set3 {w : World} {g j i : Nat} {c : Sec} (h : SecAt w g j c) (u v x : Value) (hij : j ≠ i) {cs : Array Value} {T : TypeId} (hb : w.heap[g]? = some (.cells cs T (0, 0))) (hn : ∀ (q : Nat) (y : Int), cs[q]? ≠ some (Value.int .u8 y)) :
    SecAt (((w.setCell ⟨g, i * 3, none⟩ u).setCell ⟨g, i * 3 + 1, none⟩ v).setCell ⟨g, i * 3 + 2, none⟩ x) g j c := by
  obtain ⟨hg, a, cap, h0, h1, h2, hr⟩ := h
  refine ⟨by simpa using hg, a, cap, ?_, ?_, ?_, hr.set3 g _ _ _ u v x (fun h0 => hr.apart hb hn h0)⟩
  · rw [cell_far (by omega), cell_far (by omega), cell_far (by omega)]; exact h0
  · rw [cell_far (by omega), cell_far (by omega), cell_far (by omega)]; exact h1
  · rw [cell_far (by omega), cell_far (by omega), cell_far (by omega)]; exact h2
/-- A sector is laid down. -/
theorem SecBlk.next {w : World} {g s i : Nat} {T : TypeId} {S : Nat → Sec} (h : SecBlk w g s T i S) (hi : i < s) (c : Sec) (a : Option Addr) (cap : Nat) (hr : Row .u8 w a c.d.length cap c.d) :
    SecBlk (((w.setCell ⟨g, i * 3, none⟩ (.slice a c.d.length cap)).setCell ⟨g, i * 3 + 1, none⟩ (.int .i64 (c.n : Int))).setCell ⟨g, i * 3 + 2, none⟩ (.int .i64 c.e)) g s T (i + 1) (fun j => if j = i then c else S j) := by
  obtain ⟨⟨cs, h1, h2, h3⟩, h4⟩ := h
  have hb := block_set (i := i * 3 + 2) (block_set (i := i * 3 + 1) (block_set (i := i * 3) h1 (.slice a c.d.length cap)) (.int .i64 (c.n : Int))) (.int .i64 c.e)
  refine ⟨⟨_, hb, by simpa using h2, set_noU8 (set_noU8 (set_noU8 h3 _ _ (by simp)) _ _ (by simp)) _ _ (by simp)⟩, fun j hj => ?_⟩
  by_cases e : j = i
  · subst e
    rw [if_pos rfl]
    refine ⟨by simpa using lt_of_block h1, a, cap, ?_, ?_, ?_, hr.set3 g _ _ _ _ _ _ (fun h0 => hr.apart h1 h3 h0)⟩
    · rw [cell_of_blk hb]; simp [Array.getElem?_setIfInBounds, h2]; omega
    · rw [cell_of_blk hb]; simp [Array.getElem?_setIfInBounds, h2]; omega
    · rw [cell_of_blk hb]; simp [Array.getElem?_setIfInBounds, h2]; omega
  · rw [if_neg e]
    exact (h4 j (by omega)).set3 _ _ _ e h1 h3
theorem SecBlk.cells {w : World} {g s i : Nat} {T : TypeId} {S : Nat → Sec} (h : SecBlk w g s T i S) (hi : i < s) : (∃ v0 v1 v2, w.cell? ⟨g, i * 3, none⟩ = some v0 ∧ w.cell? ⟨g, i * 3 + 1, none⟩ = some v1 ∧ w.cell? ⟨g, i * 3 + 2, none⟩ = some v2) ∧ (∀ q, w.frozen? ⟨g, q, none⟩ = false) ∧ g < w.heap.size := by
  obtain ⟨⟨cs, h1, h2, h3⟩, h4⟩ := h
  refine ⟨⟨cs[i * 3]'(by omega), cs[i * 3 + 1]'(by omega), cs[i * 3 + 2]'(by omega), ?_, ?_, ?_⟩, fun q => unfrozen_of_blk h1 q, lt_of_block h1⟩
  · rw [cell_of_blk h1, Array.getElem?_eq_getElem]
  · rw [cell_of_blk h1, Array.getElem?_eq_getElem]
  · rw [cell_of_blk h1, Array.getElem?_eq_getElem]
theorem made_secs (n : Nat) : ∀ (q : Nat) (x : Int), (madeCells (Value.agg #[.slice none 0 0, .int .i64 0, .int .i64 0]).cells (n * 3))[q]? ≠ some (Value.int .u8 x) := by
  intro q x
  unfold madeCells
  simp only [Value.cells, Array.getElem?_map, Array.getElem?_range]
  split
  · have : q % 3 = 0 ∨ q % 3 = 1 ∨ q % 3 = 2 := by omega
    rcases this with h | h | h <;> simp [h]
  · simp
theorem secblk_new {w : World} {base g s : Nat} {T : TypeId} (h : w.ownsRow base T 3 (.slice (some ⟨g, 0, none⟩) s s) s (madeCells (Value.agg #[.slice none 0 0, .int .i64 0, .int .i64 0]).cells (s * 3)).toList) (S : Nat → Sec) : SecBlk w g s T 0 S := by
  rcases h.2 with ⟨h', _⟩ | ⟨g', cap', cur, h', _, hg, _, _, hcs, htake⟩
  · simp at h'
  · simp only [Value.slice.injEq, Option.some.injEq, Addr.mk.injEq, and_true, true_and] at h'
    obtain ⟨rfl, rfl⟩ := h'
    rw [List.take_of_length_le (by simp; omega)] at htake
    have e : cur = madeCells (Value.agg #[.slice none 0 0, .int .i64 0, .int .i64 0]).cells (s * 3) := by apply Array.ext'; exact htake
    subst e
    exact ⟨⟨_, hg, by rw [size_madeCells]; omega, made_secs s⟩, fun j hj => absurd hj (by omega)⟩

theorem Tryz.info157 : (Tryz.prog.info? 157).map (fun i => (i.zero, i.size, i.bytes)) = some (some (.agg #[.slice none 0 0, .int .i64 0, .int .i64 0]), 3, 40) := by kernel_rfl
set_option maxHeartbeats 1600000 in
theorem eccUnpack_mark (hB : HBitsC) {b p : Int} {s n f R m W L : Nat} (G : GOk b p s n f R m W L) (a : Option Addr) (cap : Nat) (z : List Int) (w : World) (rz : Row .u8 w a L cap z) (bz : IsB z) (hmk : z[L - 1]?.getD 0 ≠ 0) (er : Int) (HER : Hid (er = if z[L - 1]?.getD 0 = 255 ∧ blankTo f z W s = true then 61 else 60)) :
    Calls Tryz.prog 89 #[.agg #[.int .i64 b, .int .i64 p, .int .i64 ((s : Nat)), .int .i64 ((n : Nat)), .int .i64 ((f : Nat))], .slice a L cap] w fun e w' => e = .returned (.tuple #[.slice none 0 0, .int .i64 er]) ∧ Below w.heap.size w w' := by
  have HM : Hid (mayG b p s n f = true) := G.may
  have hraw := rawBytes_any hB G
  have hs2 := G.hs
  have hn2 := G.hn
  have hf2 := G.hf
  have hm2 := G.m2
  have hL2 := G.L2
  have HW : Hid (n + m = W) := G.hW
  have HMM : Hid ((13 * f + 7) / 8 = m) := G.hm
  have HZL : Hid (z.length = L) := rz.hlen
  have hrc := rz.hcap
  have hrm := rz.hmax
  have hxs : ∃ rb off, a = some ⟨rb, off, none⟩ := by
    obtain ⟨rb, off, h, _⟩ := rz.hcell (by omega)
    exact ⟨rb, off, h⟩
  obtain ⟨rb, off, rfl⟩ := hxs
  have hbl := fun (rb off : Nat) (w : World) (rz : Row .u8 w (some ⟨rb, off, none⟩) L cap z) (h : z[L - 1]?.getD 0 = 255) => blank_any hB G rb off cap z w rz bz h
  have hbn := fun (rb off : Nat) (w : World) (rz : Row .u8 w (some ⟨rb, off, none⟩) L cap z) (h : z[L - 1]?.getD 0 ≠ 255) => blank_not G rb off cap z w rz bz h
  clear G
  go_enter Tryz.func89, Tryz.ntmps89
  go_wp2_with fail
  have gb := gbox_new w 23 b p s n f
  have q0 := below_one w (.cells #[.int .i64 b, .int .i64 p, .int .i64 s, .int .i64 n, .int .i64 f] 23)
  generalize w.alloc (.cells #[.int .i64 b, .int .i64 p, .int .i64 s, .int .i64 n, .int .i64 f] 23) = w0 at *
  generalize hgg : w.heap.size = g at gb
  refine (eccMayBe_any b p s n f _).mono ?_
  rintro e w1 ⟨rfl, q1⟩
  rw [HM.out]
  replace gb := gb.below q1 (Nat.le_refl _)
  replace q0 := btrans q0 q1
  clear q1 HM
  have gb1 := gb
  obtain ⟨_, c0, c1, c2, c3, c4⟩ := gb1
  go_wp2_with fail
  refine (hraw _).mono ?_
  rintro e w2 ⟨rfl, q1⟩
  replace gb := gb.below q1 (Nat.le_refl _)
  replace q0 := btrans q0 q1
  clear q1 c0 c1 c2 c3 c4 hraw
  replace rz := rz.below q0 (Nat.le_refl _)
  obtain ⟨b', off', he, hbs, hcell⟩ := rz.hcell (by omega)
  simp only [Option.some.injEq, Addr.mk.injEq, and_true] at he
  obtain ⟨rfl, rfl⟩ := he
  have hcl := hcell (L - 1) (by omega)
  clear hcell
  have hz1 := bz _ (mem_getD z (L - 1) (by rw [HZL.out]; omega))
  have u1 : IntKind.i64.wrap ((L : Int) - 1) = ((L - 1 : Nat) : Int) := by rw [IntKind.wrap_i64]; omega
  have u2 : (L : Int) - 1 = ((L - 1 : Nat) : Int) := by omega
  have gb1 := gb
  obtain ⟨_, c0, c1, c2, c3, c4⟩ := gb1
  have hbl1 := hbl rb off w2 rz
  have hbn1 := hbn rb off w2 rz
  clear hbl hbn
  have HZ : Hid (z[L - 1]?.getD 0 = z[L - 1]?.getD 0) := rfl
  generalize z[L - 1]?.getD 0 = zl at *
  clear HZ
  have hne : (zl != 0) = true := by simpa using hmk
  have hne2 : ¬ zl = 0 := hmk
  generalize L - 1 = L1 at *
  by_cases h255 : zl = 255
  · have hcc := hbl1 h255
    cases hbl : blankTo f z W s
    · have HE : Hid (er = 60) := by show _ = _; rw [HER.out, hbl]; simp
      rw [hbl] at hcc
      clear hbl1 hbn1 h255 HER
      go_wp2_with fail
      refine hcc.mono ?_
      rintro e w3 ⟨rfl, q3⟩
      go_wp2_with fail
      go_ret2
      exact ⟨by rw [HE.out]; rfl, btrans q0 q3⟩
    · have HE : Hid (er = 61) := by show _ = _; rw [HER.out, hbl]; simp [h255]
      rw [hbl] at hcc
      clear hbl1 hbn1 h255 HER
      go_wp2_with fail
      refine hcc.mono ?_
      rintro e w3 ⟨rfl, q3⟩
      go_wp2_with fail
      go_ret2
      exact ⟨by rw [HE.out]; rfl, btrans q0 q3⟩
  · have hcc := hbn1 h255
    have HE : Hid (er = 60) := by show _ = _; rw [HER.out]; simp [h255]
    clear hbl1 hbn1 HER
    go_wp2_with fail
    refine hcc.mono ?_
    rintro e w3 ⟨rfl, q3⟩
    go_wp2_with fail
    go_ret2
    exact ⟨by rw [HE.out]; rfl, btrans q0 q3⟩

set_option maxHeartbeats 3200000 in
set_option maxRecDepth 100000 in
theorem eccUnpack_yes (hB : HBitsC) {b p : Int} {s n f R m W L : Nat} (G : GOk b p s n f R m W L) (a : Option Addr) (cap : Nat) (z : List Int) (w : World) (rz : Row .u8 w a L cap z) (bz : IsB z) (hD : HDecC) (hmk : z[L - 1]?.getD 0 = 0) :
    Calls Tryz.prog 89 #[.agg #[.int .i64 b, .int .i64 p, .int .i64 ((s : Nat)), .int .i64 ((n : Nat)), .int .i64 ((f : Nat))], .slice a L cap] w fun e w' => ∃ (S : Nat → Sec) (gs : Nat), (∀ j, j < s → IsSec f (part z (j * W) n) (part z (j * W + n) m) (S j)) ∧ w.heap.size ≤ gs ∧ e = .returned (.tuple #[.slice (some ⟨gs, 0, none⟩) s s, .int .i64 0]) ∧ (∀ j, j < s → SecAt w' gs j (S j)) ∧ Below w.heap.size w w' := by
  have HM : Hid (mayG b p s n f = true) := G.may
  have hraw := rawBytes_any hB G
  have hs2 := G.hs
  have hn2 := G.hn
  have hf2 := G.hf
  have hm2 := G.m2
  have hL2 := G.L2
  have HW : Hid (n + m = W) := G.hW
  have HMM : Hid ((13 * f + 7) / 8 = m) := G.hm
  have HZL : Hid (z.length = L) := rz.hlen
  have hrc := rz.hcap
  have hrm := rz.hmax
  have hxs : ∃ rb off, a = some ⟨rb, off, none⟩ := by
    obtain ⟨rb, off, h, _⟩ := rz.hcell (by omega)
    exact ⟨rb, off, h⟩
  obtain ⟨rb, off, rfl⟩ := hxs
  have hct : ∀ i, i < s → ∀ (rb off : Nat) (w : World), _ := fun i hi rb off => cut_any hB G hi rb off L cap hrc hrm
  have HAT : Hid (∀ i, i < s → i * W + n + m + 1 ≤ L) := fun i hi => by have := G.at_ hi; have := HW.out; omega
  clear G
  obtain ⟨i0, hi0, hz0, hz1, hz2⟩ := info_parts Tryz.info157
  go_enter Tryz.func89, Tryz.ntmps89
  go_wp2_with fail
  have gb := gbox_new w 23 b p s n f
  have q0 := below_one w (.cells #[.int .i64 b, .int .i64 p, .int .i64 s, .int .i64 n, .int .i64 f] 23)
  generalize w.alloc (.cells #[.int .i64 b, .int .i64 p, .int .i64 s, .int .i64 n, .int .i64 f] 23) = w0 at *
  generalize hgg : w.heap.size = g at gb
  refine (eccMayBe_any b p s n f _).mono ?_
  rintro e w1 ⟨rfl, q1⟩
  rw [HM.out]
  replace gb := gb.below q1 (Nat.le_refl _)
  replace q0 := btrans q0 q1
  clear q1 HM
  have gb1 := gb
  obtain ⟨_, c0, c1, c2, c3, c4⟩ := gb1
  go_wp2_with fail
  refine (hraw _).mono ?_
  rintro e w2 ⟨rfl, q1⟩
  replace gb := gb.below q1 (Nat.le_refl _)
  replace q0 := btrans q0 q1
  clear q1 c0 c1 c2 c3 c4 hraw
  replace rz := rz.below q0 (Nat.le_refl _)
  obtain ⟨b', off', he, hbs, hcell⟩ := rz.hcell (by omega)
  simp only [Option.some.injEq, Addr.mk.injEq, and_true] at he
  obtain ⟨rfl, rfl⟩ := he
  have hcl := hcell (L - 1) (by omega)
  clear hcell
  rw [hmk] at hcl
  have u1 : IntKind.i64.wrap ((L : Int) - 1) = ((L - 1 : Nat) : Int) := by rw [IntKind.wrap_i64]; omega
  have u2 : (L : Int) - 1 = ((L - 1 : Nat) : Int) := by omega
  have gb1 := gb
  obtain ⟨_, c0, c1, c2, c3, c4⟩ := gb1
  clear hmk
  generalize L - 1 = L1 at *
  have hq0 := q0.size
  have hsm : s ≤ maxLen := by unfold maxLen; omega
  have hmk : ∀ w1 : World, w1.ownsRow w.heap.size 157 3 (.slice (some ⟨w2.heap.size, 0, none⟩) s s) s (madeCells (Value.agg #[.slice none 0 0, .int .i64 0, .int .i64 0]).cells (s * 3)).toList → w2.grownBy w1 none → SecBlk w1 w2.heap.size s 157 0 (fun _ => ⟨[], 0, 0⟩) ∧ Below w2.heap.size w2 w1 := fun w1 h1 h2 => ⟨secblk_new h1 _, (Below.refl _ _).grown h2 (Nat.le_refl _) (by simp)⟩
  go_wp2_with (at_make; refine wpList_make_full _ rfl _ _ 134 rfl w.heap.size 157 i0 (.agg #[.slice none 0 0, .int .i64 0, .int .i64 0]) 3 Tryz.underlying134 hi0 hz0 hz1 _ _ _ _ s rfl rfl rfl rfl (by rw [hz2]; omega) hsm hq0 ?_; intro w3 hown3 hgrow3)
  obtain ⟨hsb, qb⟩ := hmk w3 hown3 hgrow3
  clear hmk hown3 hgrow3 c0 c1 c2 c3 c4 u1 u2 hcl hbs
  generalize hgx : w2.heap.size = gs at *
  go_loopw [35] (fun y wr => ∃ (i : Nat) (S : Nat → Sec), i ≤ s ∧ y = .int .i64 i ∧ (∀ j, j < i → IsSec f (part z (j * W) n) (part z (j * W + n) m) (S j)) ∧ SecBlk wr gs s 157 i S ∧ Below gs w2 wr) (fun y _ => s - (intOf y).toNat)
  case atStart => exact ⟨0, _, Nat.zero_le _, rfl, fun j hj => absurd hj (by omega), hsb, qb⟩
  case round =>
    clear hsb qb
    obtain ⟨i, S, hi, rfl, hS, hsb, qb⟩ := hrel
    have HS : Hid (∀ j, j < i → IsSec f (part z (j * W) n) (part z (j * W + n) m) (S j)) := hS
    clear hS
    by_cases hlt : i < s
    case neg =>
      have e : i = s := by omega
      subst e
      have HSB : Hid (SecBlk wr gs i 157 i S) := hsb
      clear hsb
      go_wp2_with fail
      go_ret2
      exact ⟨S, gs, HS.out, hq0, rfl, HSB.out.sec, Below.trans q0 (qb.mono hq0)⟩
    have gb1 := gb.below qb (by rw [hgx]; exact Nat.le_refl _)
    have rz1 := rz.below qb (by rw [hgx]; exact Nat.le_refl _)
    have hat := HAT.out i hlt
    have hc := hct i hlt rb off
    clear hct HAT
    have u5 : (i : Int) < (s : Int) := by omega
    have HSB : Hid (SecBlk wr gs s 157 i S) := hsb
    clear hsb
    have gb2 := gb1
    obtain ⟨_, c0, c1, c2, c3, c4⟩ := gb2
    go_wp2_with fail
    refine (hc _).mono ?_
    rintro e w4 ⟨rfl, q4⟩
    clear hc c0 c1 c2 c3 c4
    have hwr := qb.size
    rw [hgx] at hwr
    replace gb1 := gb1.below q4 (Nat.le_refl _)
    replace rz1 := rz1.below q4 (Nat.le_refl _)
    replace qb := qb.trans (q4.mono hwr)
    have HSB1 : Hid (SecBlk w4 gs s 157 i S) := HSB.out.below q4 (Nat.le_refl _)
    clear q4 HSB
    have ra := row_part rz1 (i * W) n n (by omega) (Nat.le_refl _) (by unfold maxLen; omega)
    have rb1 := row_part rz1 (i * W + n) m m (by omega) (Nat.le_refl _) (by unfold maxLen; omega)
    rw [← Nat.add_assoc] at rb1
    have hsec := sector_any hD f _ _ _ _ _ _ _ _ _ ra (isB_part bz _ _) rb1 (isB_part bz _ _) (by omega) (by omega) (by unfold mayB; rw [decide_eq_true_iff]; have := HMM.out; omega)
    clear ra rb1
    have gb2 := gb1
    obtain ⟨_, c0, c1, c2, c3, c4⟩ := gb2
    go_wp2_with fail
    refine hsec.mono ?_
    rintro e w5 ⟨c, av, cv, hc, rfl, rc, q5⟩
    clear hsec c0 c1 c2 c3 c4
    have hw4 := qb.size
    rw [hgx] at hw4
    replace qb := qb.trans (q5.mono hw4)
    have HSB2 : Hid (SecBlk w5 gs s 157 i S) := HSB1.out.below q5 (Nat.le_refl _)
    clear q5 HSB1
    obtain ⟨⟨v0, v1, v2, k0, k1, k2⟩, kf, kg⟩ := HSB2.out.cells hlt
    have f0 := kf (i * 3)
    have f1 := kf (i * 3 + 1)
    have f2 := kf (i * 3 + 2)
    clear kf
    have HNX : Hid _ := HSB2.out.next hlt c av cv rc
    have HS2 : Hid (∀ j, j < i + 1 → IsSec f (part z (j * W) n) (part z (j * W + n) m) (if j = i then c else S j)) := fun j hj => by
      by_cases e : j = i
      · subst e; rw [if_pos rfl]; exact hc
      · rw [if_neg e]; exact HS.out j (by omega)
    have HQ : Hid _ := ((qb.setCell (show gs ≤ (⟨gs, i * 3, none⟩ : Addr).block from Nat.le_refl _) (.slice av c.d.length cv)).setCell (show gs ≤ (⟨gs, i * 3 + 1, none⟩ : Addr).block from Nat.le_refl _) (.int .i64 (c.n : Int))).setCell (show gs ≤ (⟨gs, i * 3 + 2, none⟩ : Addr).block from Nat.le_refl _) (.int .i64 c.e)
    clear rc hc HSB2 HS qb
    go_wp2_with fail
    go_roundw
    case rel => exact ⟨i + 1, _, by omega, by go_num, HS2.out, HNX.out, HQ.out⟩
    case measure => simp [intOf]; omega

end Go.Proofs.YtgamakejaknagaaGreat
