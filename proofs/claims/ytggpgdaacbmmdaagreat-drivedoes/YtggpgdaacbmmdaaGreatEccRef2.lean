/-
  The document's answer of layer 6 (casemateref06): Pack, Marked, Near. (Written by tools/gen/ecc_ref2.py.)
-/
import Derived.Test.YtggpgdaacbmmdaaGreatEccRef
import Derived.Test.YtggpgdaacbmmdaaGreatEccCode6
namespace Go.Proofs.YtggpgdaacbmmdaaGreat
open Go.RowKit
set_option linter.unusedVariables false
set_option maxRecDepth 8192

/-- A round of Pack. -/
theorem refpack_round {i n f m W : Nat} {x z y zE : List Int} (hW : n + m = W) (hl : z.length = i * W) (hy : part x (i * n) n = y) (hyl : y.length = n) (hE : IsEnc f y zE) (hEl : zE.length = m) (h : Packed i n f m W x z) :
    Packed (i + 1) n f m W x (z ++ y ++ zE) ∧ (z ++ y ++ zE).length = (i + 1) * W := by
  have e0 : (i + 1) * W = i * W + W := by rw [Nat.add_mul, Nat.one_mul]
  have l2 : (z ++ y ++ zE).length = (i + 1) * W := by simp; omega
  have g1 : ∀ q, q < i * W → z[q]?.getD 0 = (z ++ y ++ zE)[q]?.getD 0 := fun q hq => by rw [List.append_assoc, List.getElem?_append_left (by omega)]
  refine ⟨Packed.next (h.keep hW (by omega) (by omega) g1) ?_ ?_, l2⟩
  · rw [hy]
    refine getD_ext (by rw [length_part (by omega), hyl]) fun q hq => ?_
    rw [length_part (by omega)] at hq
    rw [part_get _ _ _ _ hq, List.getElem?_append_left (by simp; omega), List.getElem?_append_right (by omega)]
    congr 2
    omega
  · have : part (z ++ y ++ zE) (i * W + n) m = zE := by
      refine getD_ext (by rw [length_part (by omega), hEl]) fun q hq => ?_
      rw [length_part (by omega)] at hq
      rw [part_get _ _ _ _ hq, List.getElem?_append_right (by simp; omega)]
      congr 2
      simp
      omega
    rw [this, hy]
    exact hE
theorem refpack_end {s n f m W : Nat} {x z : List Int} (hW : n + m = W) (hl : z.length = s * W) (hz : IsB z) (h : Packed s n f m W x z) : IsPack s n f m W x (z ++ [0]) := by
  refine ⟨by simp [hl], ?_, h.keep hW (by omega) (by simp; omega) (fun q hq => by rw [List.getElem?_append_left (by omega)]), by rw [List.getElem?_append_right (by omega), hl, Nat.sub_self]; rfl⟩
  intro v hv
  rcases List.mem_append.1 hv with hv | hv
  · exact hz v hv
  · simp at hv; subst hv; decide
theorem isB_append {x y : List Int} (hx : IsB x) (hy : IsB y) : IsB (x ++ y) := fun v hv => by
  rcases List.mem_append.1 hv with hv | hv
  · exact hx v hv
  · exact hy v hv

set_option maxHeartbeats 3200000 in
set_option maxRecDepth 100000 in
theorem refPack6_own {b p : Int} {s n f R m W L : Nat} (G : GOk b p s n f R m W L) (a : Option Addr) (cap : Nat) (x : List Int) (w : World) (rx : Row .u8 w a R cap x) (bx : IsB x) :
    Calls Tryz.prog 68 #[.agg #[.int .i64 b, .int .i64 p, .int .i64 ((s : Nat)), .int .i64 ((n : Nat)), .int .i64 ((f : Nat))], .slice a R cap] w fun e w' => ∃ z ao co, IsPack s n f m W x z ∧ e = .returned (.slice ao L co) ∧ Row .u8 w' ao L co z ∧ (∀ q : Addr, ao = some q → w.heap.size ≤ q.block) ∧ Below w.heap.size w w' := by
  have hs2 := G.hs
  have hn2 := G.hn
  have hf2 := G.hf
  have hm2 := G.m2
  have hL2 := G.L2
  have hR2 := G.hR1
  have HW : Hid (n + m = W) := G.hW
  have HMM : Hid ((13 * f + 7) / 8 = m) := G.hm
  have HLW : Hid (s * W + 1 = L) := G.hL
  have HX : Hid (x.length = R) := rx.hlen
  have hrc := rx.hcap
  have hrm := rx.hmax
  have HPT : Hid (∀ i, i < s → i * n + n ≤ R) := fun i hi => G.part hi
  have HAT : Hid (∀ i, i < s → i * W + W + 1 ≤ L) := fun i hi => G.at_ hi
  have hxs : ∃ rb off, a = some ⟨rb, off, none⟩ := by
    obtain ⟨rb, off, h, _⟩ := rx.hcell (by omega)
    exact ⟨rb, off, h⟩
  obtain ⟨rb, off, rfl⟩ := hxs
  obtain ⟨i0, hi0, hz0, hz1, hz2⟩ := info_parts Tryz.info5
  clear G
  go_enter Tryz.func68, Tryz.ntmps68
  go_wp2_with fail
  have gb := gbox_new w 23 b p s n f
  have q0 := below_one w (.cells #[.int .i64 b, .int .i64 p, .int .i64 s, .int .i64 n, .int .i64 f] 23)
  generalize w.alloc (.cells #[.int .i64 b, .int .i64 p, .int .i64 s, .int .i64 n, .int .i64 f] 23) = w0 at *
  generalize hgg : w.heap.size = g at gb
  replace rx := rx.below q0 (Nat.le_refl _)
  generalize hgx : w0.heap.size = B at *
  go_loopw [5, 6] (fun v y wr => ∃ (i : Nat) (z : List Int), i ≤ s ∧ y = .int .i64 i ∧ z.length = i * W ∧ IsB z ∧ Packed i n f m W x z ∧ wr.ownsRow B 5 1 v (i * W) (z.map (Value.int .u8)) ∧ Below B w0 wr) (fun _ y _ => s - (intOf y).toNat)
  case atStart => exact ⟨0, [], Nat.zero_le _, rfl, by simp, fun v hv => by simp at hv, packed_zero _ _ _ _ _ _, by rw [Nat.zero_mul]; exact World.ownsRow_nil _ _ _ _, by rw [← hgx]; exact Below.refl _ _⟩
  case round =>
    obtain ⟨i, z, hi, rfl, hzl, hz, hpk, own, qb⟩ := hrel
    have HZL : Hid (z.length = i * W) := hzl
    have HPK : Hid (Packed i n f m W x z) := hpk
    clear hzl hpk
    have hsz := qb.size
    rw [hgx] at hsz
    have gb1 := gb.below qb (by rw [hgx]; exact Nat.le_refl _)
    have gb2 := gb1
    obtain ⟨_, c0, c1, c2, c3, c4⟩ := gb2
    by_cases hlt : i < s
    case neg =>
      have e : i = s := by omega
      subst e
      have HFIN : Hid (IsPack i n f m W x (z ++ [0])) := refpack_end HW.out HZL.out hz HPK.out
      have hiL : i * W + 1 ≤ 169 := by have := HLW.out; omega
      generalize hiw : i * W = iW at *
      have HL1 : Hid (iW + 1 = L) := HLW.out
      clear hiw HLW
      go_wp2_with (at_builtin; refine wpList_append_own _ rfl _ _ 38 rfl B 5 i0 (.int .u8 0) 1 1 Tryz.underlying38 hi0 hz0 hz1 hz2 rfl (by decide) _ _ _ rfl (own.alloc _) ⟨wr.heap.size, 0, none⟩ 1 1 [.int .u8 0] rfl rfl ?c1 ?c2 ?c3 ?c4 ?c5 ?_)
      case c1 => exact cell_one_new _ _ _
      case c2 => intro u hu; simp at hu; subst hu; rfl
      case c3 => unfold maxLen; omega
      case c4 => omega
      case c5 => simp; omega
      intro v' w1 own' hgrow _
      have R := rel_push hsz own qb own' hgrow
      clear own' hgrow own qb
      obtain ⟨own, qb⟩ := R
      rw [HL1.out] at own
      obtain ⟨ao, co, rfl, ro⟩ := row_of_owns own
      have HHD : Hid (∀ q : Addr, ao = some q → w.heap.size ≤ q.block) := fun q hq => by
        rcases own.2 with ⟨h', _⟩ | ⟨g', _, _, h', hge, _⟩
        · simp only [Value.slice.injEq] at h'; rw [h'.1] at hq; cases hq
        · simp only [Value.slice.injEq] at h'; rw [h'.1] at hq; cases hq; exact Nat.le_trans (by rw [← hgx]; exact q0.size) hge
      clear own
      go_wp2_with fail
      go_ret
      exact ⟨_, ao, co, HFIN.out, rfl, ro, HHD.out, Below.trans q0 (qb.mono (by rw [← hgx]; exact q0.size))⟩
    have rx1 := rx.below qb (by rw [hgx]; exact Nat.le_refl _)
    have hpt := HPT.out i hlt
    have hat := HAT.out i hlt
    have u5 : (i : Int) < (s : Int) := by omega
    obtain ⟨D, hD⟩ : ∃ D, i * n = D := ⟨_, rfl⟩
    rw [hD] at hpt
    have HD : Hid (i * n = D) := hD
    clear hD
    obtain ⟨D2, hD2⟩ : ∃ D2, D + n = D2 := ⟨_, rfl⟩
    have HD2 : Hid (D + n = D2) := hD2
    clear hD2
    have HDI : Hid ((i : Int) * (n : Int) = (D : Int)) := by show _ = _; rw [← Int.natCast_mul, HD.out]
    have HDJ : Hid (((i : Int) + 1) * (n : Int) = (D2 : Int)) := by show _ = _; rw [Int.add_mul, HDI.out]; have := HD2.out; omega
    have hDD : D < D2 := by have := HD2.out; omega
    have hDR : D2 ≤ R := by have := HD2.out; omega
    have v1 : IntKind.i64.wrap ((i : Int) * (n : Int)) = (D : Int) := by rw [HDI.out, IntKind.wrap_i64]; omega
    have v2 : IntKind.i64.wrap (((i : Int) + 1) * (n : Int)) = (D2 : Int) := by rw [HDJ.out, IntKind.wrap_i64]; omega
    have v3 := HDI.out
    have v4 := HDJ.out
    have e1 : (D : Int) ≤ (D2 : Int) := by omega
    have e2 : (D2 : Int) ≤ (cap : Int) := by omega
    have e3 : ¬ cap = D := by omega
    have ry : Row .u8 wr (some ⟨rb, off + D, none⟩) (D2 - D) (cap - D) (part x D n) := by
      rw [show D2 - D = n by have := HD2.out; omega]
      exact row_part rx1 D n (cap - D) (by have := HD2.out; omega) (by have := HD2.out; omega) (by omega)
    have hyB := isB_part bx D n
    have hyl : (part x D n).length = n := length_part (by rw [HX.out]; have := HD2.out; omega)
    generalize hyy : part x D n = y at *
    have HYL : Hid (y.length = n) := hyl
    have HYY : Hid (part x D n = y) := hyy
    clear hyl hyy
    have hdn : D2 - D = n := by have := HD2.out; omega
    have HDN : Hid (D2 - D = n) := hdn
    clear hdn
    obtain ⟨iW, hiW⟩ : ∃ iW, i * W = iW := ⟨_, rfl⟩
    rw [hiW] at own hat
    have HIW : Hid (i * W = iW) := hiW
    clear hiW
    have hDs : D2 - D ≤ 64 := by have := HD2.out; omega
    have HDN2 : Hid (D2 - D = n) := HDN.out
    clear HDN
    go_wp2_with (at_builtin; refine wpList_append_row _ rfl _ _ 38 rfl B 5 i0 (.int .u8 0) 1 Tryz.underlying38 hi0 hz0 hz1 hz2 rfl _ _ _ rfl own .u8 _ (D2 - D) (cap - D) y rfl ry ?c1 ?c2 ?c3 ?_)
    case c1 => unfold maxLen; omega
    case c2 => omega
    case c3 => omega
    intro va w1 own1 hgrow1
    have qb1 : Below B w0 w1 := qb.grown hgrow1 hsz (fun k hk => (own.lt k hk).1)
    clear hgrow1 own qb gb1 c0 c1 c2 c3 c4 ry rx1
    have hsz1 := qb1.size
    rw [hgx] at hsz1
    rw [HDN2.out] at own1
    have gb2 := gb.below qb1 (by rw [hgx]; exact Nat.le_refl _)
    obtain ⟨_, c0, c1, c2, c3, c4⟩ := gb2
    have ry1 : Row .u8 w1 (some ⟨rb, off + D, none⟩) (D2 - D) (cap - D) y := by
      rw [← HYY.out, HDN2.out]
      exact row_part (rx.below qb1 (by rw [hgx]; exact Nat.le_refl _)) D n (cap - D) (by have := HD2.out; omega) (by have := HD2.out; omega) (by omega)
    have hen := refEncode_any f _ _ _ y w1 hf2.2 ry1 hyB (by omega)
    clear ry1
    go_wp2_with fail
    refine hen.mono ?_
    rintro e w2 ⟨zE, aE, cE, hzE, rfl, rE, q2⟩
    clear hen c0 c1 c2 c3 c4
    have hzl : zE.length = m := by rw [hzE.len, HMM.out]
    have hzb := hzE.isB
    have HZE : Hid (IsEnc f y zE) := hzE
    have HEL : Hid (zE.length = m) := hzl
    rw [hzl] at rE ⊢
    clear hzE hzl
    have own2 := owns_below own1 q2
    replace qb1 := qb1.trans (q2.mono hsz1)
    clear own1 q2 hsz1
    have hsz2 := qb1.size
    rw [hgx] at hsz2
    go_wp2_with (at_builtin; refine wpList_append_row _ rfl _ _ 38 rfl B 5 i0 (.int .u8 0) 1 Tryz.underlying38 hi0 hz0 hz1 hz2 rfl _ _ _ rfl own2 .u8 _ m cE zE rfl rE ?c1 ?c2 ?c3 ?_)
    case c1 => unfold maxLen; omega
    case c2 => omega
    case c3 => omega
    intro vb w3 own3 hgrow3
    have qb3 : Below B w0 w3 := qb1.grown hgrow3 hsz2 (fun k hk => (own2.lt k hk).1)
    clear hgrow3 own2 qb1 rE hsz2
    have HNX : Hid (Packed (i + 1) n f m W x (z ++ y ++ zE) ∧ (z ++ y ++ zE).length = (i + 1) * W) := refpack_round HW.out HZL.out (by rw [HD.out]; exact HYY.out) HYL.out HZE.out HEL.out HPK.out
    have HIW2 : Hid ((i + 1) * W = iW + n + m) := by show _ = _; rw [Nat.add_mul, Nat.one_mul, HIW.out]; have := HW.out; omega
    go_wp2_with fail
    go_roundw
    case rel => exact ⟨i + 1, z ++ y ++ zE, by omega, by go_num, HNX.out.2, isB_append (isB_append hz hyB) hzb, HNX.out.1, by rw [HIW2.out, List.map_append, List.map_append, List.append_assoc]; exact own3, qb3⟩
    case measure => simp [intOf]; omega

theorem refPack6_any {b p : Int} {s n f R m W L : Nat} (G : GOk b p s n f R m W L) (a : Option Addr) (cap : Nat) (x : List Int) (w : World) (rx : Row .u8 w a R cap x) (bx : IsB x) :
    Calls Tryz.prog 68 #[.agg #[.int .i64 b, .int .i64 p, .int .i64 ((s : Nat)), .int .i64 ((n : Nat)), .int .i64 ((f : Nat))], .slice a R cap] w fun e w' => ∃ z ao co, IsPack s n f m W x z ∧ e = .returned (.slice ao L co) ∧ Row .u8 w' ao L co z ∧ Below w.heap.size w w' :=
  (refPack6_own G a cap x w rx bx).mono fun e w' ⟨z, ao, co, h1, h2, h3, _, h4⟩ => ⟨z, ao, co, h1, h2, h3, h4⟩

end Go.Proofs.YtggpgdaacbmmdaaGreat
