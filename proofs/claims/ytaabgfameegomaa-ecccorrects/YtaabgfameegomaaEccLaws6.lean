/-
  The walk of layer 6's law EccCorrects, out of the code's contracts: it returns true; nothing old turns. (Written by tools/gen/ecc_law_corrects.py.)
-/
import Derived.Test.YtaabgfameegomaaEccAwake
import Derived.Test.YtaabgfameegomaaEccFlips
import Derived.Test.YtaabgfameegomaaPackD
namespace Go.Proofs.Ytaabgfameegomaa
open Go.RowKit
set_option linter.unusedVariables false
set_option maxRecDepth 8192

theorem owns_far {w : World} {base n c g g' i : Nat} {e : TypeId} {xs : List Value} (h : w.ownsRow base e 1 (.slice (some ⟨g, 0, none⟩) n c) n xs) (v : Value) (hne : g ≠ g') : (w.setCell ⟨g', i, none⟩ v).ownsRow base e 1 (.slice (some ⟨g, 0, none⟩) n c) n xs :=
  h.kept (grown_set w ⟨g', i, none⟩ v) (.inr (by show some g ≠ some g'; intro e; exact hne (Option.some.inj e)))
theorem owned_setB {e : TypeId} {w wr : World} {B g n cap q : Nat} {zs : List Bool} (hB : B ≤ g) (hown : wr.ownsRow B e 1 (.slice (some ⟨g, 0, none⟩) n cap) n (zs.map Value.bool)) (hnx : Below B w wr) :
    (wr.setCell ⟨g, q, none⟩ (.bool true)).ownsRow B e 1 (.slice (some ⟨g, 0, none⟩) n cap) n ((zs.set q true).map Value.bool) ∧ Below B w (wr.setCell ⟨g, q, none⟩ (.bool true)) := by
  refine ⟨?_, hnx.setCell hB _⟩
  rw [List.map_set]
  exact (hown.stored q (.bool true)).1
theorem nodup_snoc {l : List Int} {a : Int} (h : l.Nodup) (ha : a ∉ l) : (l ++ [a]).Nodup := List.pairwise_append.2 ⟨h, List.pairwise_singleton _ _, fun x hx y hy => by
  simp at hy
  subst hy
  intro e
  subst e
  exact ha hx⟩
theorem any_no {l : List Int} {q : Int} (h : (l.any fun v => v == q) = false) : q ∉ l := fun hm => by
  rw [List.any_eq_false] at h
  exact h q hm (by simp)
theorem turn_next {z ps : List Int} {i q : Nat} (h : ps.take (i + 1) = ps.take i ++ [(q : Int)]) : turnI z (ps.take (i + 1)) = (turnI z (ps.take i)).set (q / 8) (flipB ((turnI z (ps.take i))[q / 8]?.getD 0) (q % 8)) := by
  rw [h, turnI_snoc, Int.toNat_natCast]
  rfl
theorem xor_flip8 (c : Int) (k : Nat) (h0 : 0 ≤ c) (h1 : c ≤ 255) (hk : k < 8) : bits BinOp.xor IntKind.u8 c (2 ^ k) = flipB c k := by
  have := xor_flip c k h0 h1 hk
  have e : (2 : Int) ^ k % 256 = 2 ^ k := by
    rcases (show k = 0 ∨ k = 1 ∨ k = 2 ∨ k = 3 ∨ k = 4 ∨ k = 5 ∨ k = 6 ∨ k = 7 by omega) with rfl | rfl | rfl | rfl | rfl | rfl | rfl | rfl <;> decide
  rwa [e] at this
/-- What a read of a page behind few flips comes to. -/
theorem eccRead_flip (hB : HBitsC) {b p : Int} {s n f R m W L : Nat} (G : GOk b p s n f R m W L) (a : Option Addr) (cap : Nat) (x z ps : List Int) (w : World) (rz : Row .u8 w a L cap (turnI z ps)) (hD : HDecC) (hz : IsPack s n f m W x z) (hx : IsB x) (hxl : x.length = R) (hnd : ps.Nodup) (hin : ∀ p ∈ ps, 0 ≤ p ∧ p < 8 * ((s * W : Nat) : Int)) (hc : ∀ j, j < s → cntTo (8 * W) (8 * n + 13 * f) ps j ≤ f) :
    Calls Try.prog 20 #[.agg #[.int .i64 b, .int .i64 p, .int .i64 ((s : Nat)), .int .i64 ((n : Nat)), .int .i64 ((f : Nat))], .slice a L cap] w fun e w' => ∃ ao co, e = .returned (.tuple #[.slice ao R co, .int .i64 (maxC (cntTo (8 * W) (8 * n + 13 * f) ps) s : Nat), .int .i64 0]) ∧ Row .u8 w' ao R co x ∧ Below w.heap.size w w' := by
  have hn := G.hn
  refine (eccRead_yes hB G a cap _ w rz (isB_turnI hz.isB ps) hD (by rw [flip_mark G.hL hin, ← G.hL, Nat.add_sub_cancel]; exact hz.mark)).mono ?_
  rintro e w1 ⟨S, hS, h⟩
  obtain ⟨h1, h2, h3⟩ := flip_read (L := L) hz G.hW G.hm (by omega) hn.2 G.hf.2 hx (by rw [G.hR, hxl]) hnd hin hc hS
  rcases h with ⟨⟨j, hj, hne⟩, _⟩ | ⟨_, ao, co, rfl, r, q⟩
  · exact absurd (h1 j hj) hne
  · rw [h2] at r
    rw [h3]
    exact ⟨ao, co, rfl, r, q⟩

theorem Try.info4 : (Try.prog.info? 4).map (fun i => (i.zero, i.size, i.bytes)) = some (some (.bool false), 1, 1) := by kernel_rfl
theorem made_bools6 (n : Nat) : (madeCells (Value.bool false).cells (n * 1)).toList = (List.replicate n false).map Value.bool := by
  rw [Nat.mul_one]
  simpa [Value.cells] using toList_madeCells_one (Value.bool false) n
/-- 'make([]int, n)'. -/
theorem makeI (n : Nat) (hn : n ≤ 10000) (w : World) : ∃ w', Sem.run Try.prog (Instr.makeSlice 45 (.int .i64 (n : Int)) (.int .i64 (n : Int))) w = .ok (.slice (some ⟨w.heap.size, 0, none⟩) n n) w' ∧
    w'.ownsRow w.heap.size 3 1 (.slice (some ⟨w.heap.size, 0, none⟩) n n) n ((List.replicate n (0 : Int)).map (Value.int .i64)) ∧ Below w.heap.size w w' := by
  obtain ⟨i0, hi0, hz0, hz1, hz2⟩ := info_parts Try.info3
  obtain ⟨w', hrun, r1, r2⟩ := run_make_full (P := Try.prog) w w.heap.size 45 3 i0 (.int .i64 0) 1 Try.underlying45 hi0 hz0 hz1 .i64 .i64 n (by rw [hz2]; omega) (by unfold maxLen; omega) (Nat.le_refl _)
  rw [made_ints] at r1
  exact ⟨w', hrun, r1, (Below.refl _ _).grown r2 (Nat.le_refl _) (by simp)⟩
/-- 'make([]bool, n)'. -/
theorem makeB (n : Nat) (c : Int) (hc : c = (n : Int)) (hn : n ≤ 10000) (w : World) : ∃ w', Sem.run Try.prog (Instr.makeSlice 46 (.int .i64 c) (.int .i64 c)) w = .ok (.slice (some ⟨w.heap.size, 0, none⟩) n n) w' ∧
    w'.ownsRow w.heap.size 4 1 (.slice (some ⟨w.heap.size, 0, none⟩) n n) n ((List.replicate n false).map Value.bool) ∧ Below w.heap.size w w' := by
  subst hc
  obtain ⟨i0, hi0, hz0, hz1, hz2⟩ := info_parts Try.info4
  obtain ⟨w', hrun, r1, r2⟩ := run_make_full (P := Try.prog) w w.heap.size 46 4 i0 (.bool false) 1 Try.underlying46 hi0 hz0 hz1 .i64 .i64 n (by rw [hz2]; omega) (by unfold maxLen; omega) (Nat.le_refl _)
  rw [made_bools6] at r1
  exact ⟨w', hrun, r1, (Below.refl _ _).grown r2 (Nat.le_refl _) (by simp)⟩
set_option maxHeartbeats 6400000 in
set_option maxRecDepth 100000 in
theorem walk_eccCorrects (hB : HBitsC) (hE : HEncC) (hD : HDecC) (b p s n f : Int) (a : Option Addr) (len cap : Nat) (x : List Int) (c : Option Addr) (pl cap' : Nat) (ps : List Int) (w : World) (rx : Row .u8 w a len cap x) (bx : IsB x) (rp : Row .i64 w c pl cap' ps) (hwp : ∀ q ∈ ps, (Lit.int .i64 q).wf = true) :
    Calls Try.prog 5 #[.agg #[.int .i64 b, .int .i64 p, .int .i64 s, .int .i64 n, .int .i64 f], .slice a len cap, .slice c pl cap'] w fun e w' => e = .returned (.bool true) ∧ Below w.heap.size w w' := by
  cases hsm : small6 b p s n f
  · go_enter Try.func5, Try.ntmps5
    go_wp2_with fail
    refine (small6_any b p s n f _).mono ?_
    rintro e w1 ⟨rfl, q1⟩
    rw [hsm]
    go_wp2_with fail
    go_ret
    exact ⟨rfl, btrans (below_one _ _) q1⟩
  cases hmy : mayG b p s n f
  · go_enter Try.func5, Try.ntmps5
    go_wp2_with fail
    refine (small6_any b p s n f _).mono ?_
    rintro e w1 ⟨rfl, q1⟩
    rw [hsm]
    have gb := (gbox_new w 23 b p s n f).below q1 (Nat.le_refl _)
    obtain ⟨_, c0, c1, c2, c3, c4⟩ := gb
    go_wp2_with fail
    refine (refMay_any b p s n f _).mono ?_
    rintro e w2 ⟨rfl, q2⟩
    rw [hmy]
    go_wp2_with fail
    go_ret
    exact ⟨rfl, btrans (btrans (below_one _ _) q1) q2⟩
  obtain ⟨s, n, f, R, m, W, L, rfl, rfl, rfl, G⟩ := gok_ex hmy (small6_may hsm hmy)
  have HSM : Hid (small6 b p s n f = true) := hsm
  have HMY : Hid (mayG b p s n f = true) := hmy
  clear hsm hmy
  have hmaxl : len ≤ maxLen := Nat.le_trans rx.hcap rx.hmax
  have hroom := refRoom_any b p f s n R G.hR G.hs.2 (by have := G.hn; omega)
  by_cases hl : len = R
  case neg =>
    have hq : (((len : Nat) : Int) != (R : Int)) = true := by simp; omega
    clear G
    go_enter Try.func5, Try.ntmps5
    go_wp2_with fail
    refine (small6_any b p s n f _).mono ?_
    rintro e w1 ⟨rfl, q1⟩
    rw [HSM.out]
    have gb := (gbox_new w 23 b p s n f).below q1 (Nat.le_refl _)
    have gb1 := gb
    obtain ⟨_, c0, c1, c2, c3, c4⟩ := gb1
    go_wp2_with fail
    refine (refMay_any b p s n f _).mono ?_
    rintro e w2 ⟨rfl, q2⟩
    rw [HMY.out]
    clear c0 c1 c2 c3 c4
    have gb1 := gb.below q2 (Nat.le_refl _)
    obtain ⟨_, c0, c1, c2, c3, c4⟩ := gb1
    go_wp2_with fail
    refine (hroom _).mono ?_
    rintro e w3 ⟨rfl, q3⟩
    go_wp2_with fail
    go_ret
    exact ⟨rfl, btrans (btrans (btrans (below_one _ _) q1) q2) q3⟩
  subst hl
  have hraw := refRaw_any G
  have hwh := refWhole_any G
  have HL : Hid (s * W + 1 = L) := G.hL
  have HW : Hid (n + m = W) := G.hW
  have HM : Hid ((13 * f + 7) / 8 = m) := G.hm
  have hL2 := G.L2
  have hs2 := G.hs
  have hn2 := G.hn
  have hf2 := G.hf
  have hW2 := G.W2
  have hm2 := G.m2
  have HRN : Hid (s * n = len) := G.hR
  have hpmax : pl ≤ maxLen := Nat.le_trans rp.hcap rp.hmax
  have HXL : Hid (x.length = len) := rx.hlen
  have HPL : Hid (ps.length = pl) := rp.hlen
  have hpk := fun (w : World) (r : Row .u8 w a len cap x) => eccPack_yes hB hE G a cap x w r bx
  have hrd := fun (w : World) (gr : Nat) (z : List Int) (r : Row .u8 w (some ⟨gr, 0, none⟩) L L (turnI z ps)) (hz : IsPack s n f m W x z) (hnd : ps.Nodup) (hin : ∀ p ∈ ps, 0 ≤ p ∧ p < 8 * ((s * W : Nat) : Int)) (hc : ∀ j, j < s → cntTo (8 * W) (8 * n + 13 * f) ps j ≤ f) => eccRead_flip hB G _ _ x z ps w r hD hz bx rx.hlen hnd hin hc
  clear G
  go_enter Try.func5, Try.ntmps5
  go_wp2_with fail
  have gb := gbox_new w 23 b p s n f
  have q1 := below_one w (.cells #[.int .i64 b, .int .i64 p, .int .i64 s, .int .i64 n, .int .i64 f] 23)
  generalize w.alloc (.cells #[.int .i64 b, .int .i64 p, .int .i64 s, .int .i64 n, .int .i64 f] 23) = w0 at *
  generalize hgg : w.heap.size = g at gb
  replace rx := rx.below q1 (Nat.le_refl _)
  replace rp := rp.below q1 (Nat.le_refl _)
  refine (small6_any b p s n f _).mono ?_
  rintro e w1 ⟨rfl, qq⟩
  replace gb := gb.below qq (Nat.le_refl _)
  replace rx := rx.below qq (Nat.le_refl _)
  replace rp := rp.below qq (Nat.le_refl _)
  replace q1 := btrans q1 qq
  clear qq
  rw [HSM.out]
  have gb_ := gb
  obtain ⟨_, c0, c1, c2, c3, c4⟩ := gb_
  go_wp2_with fail
  clear c0 c1 c2 c3 c4
  refine (refMay_any b p s n f _).mono ?_
  rintro e w2 ⟨rfl, qq⟩
  replace gb := gb.below qq (Nat.le_refl _)
  replace rx := rx.below qq (Nat.le_refl _)
  replace rp := rp.below qq (Nat.le_refl _)
  replace q1 := btrans q1 qq
  clear qq
  rw [HMY.out]
  have gb_ := gb
  obtain ⟨_, c0, c1, c2, c3, c4⟩ := gb_
  go_wp2_with fail
  clear c0 c1 c2 c3 c4
  refine (hroom _).mono ?_
  rintro e w3 ⟨rfl, qq⟩
  replace gb := gb.below qq (Nat.le_refl _)
  replace rx := rx.below qq (Nat.le_refl _)
  replace rp := rp.below qq (Nat.le_refl _)
  replace q1 := btrans q1 qq
  clear qq
  clear HSM HMY hroom
  by_cases hpl : 200 < pl
  case pos =>
    have hpl1 : (200 : Int) < (pl : Int) := by omega
    go_wp2_with fail
    go_ret
    exact ⟨rfl, q1⟩
  have hpl1 : ¬ (200 : Int) < (pl : Int) := by omega
  have gb_ := gb
  obtain ⟨_, c0, c1, c2, c3, c4⟩ := gb_
  go_wp2_with fail
  clear c0 c1 c2 c3 c4
  refine (hpk _ rx).mono ?_
  rintro e w4 ⟨z, gr, hz, hgr, rfl, own, qb⟩
  clear hpk
  have HPK : Hid (IsPack s n f m W x z) := hz
  have HZL : Hid (z.length = L) := by show _ = _; rw [hz.len, HL.out]
  have hzb := hz.isB
  clear hz
  have gb_ := gb.below qb (Nat.le_refl _)
  obtain ⟨_, c0, c1, c2, c3, c4⟩ := gb_
  go_wp2_with fail
  clear c0 c1 c2 c3 c4
  refine (hraw _).mono ?_
  rintro e w5 ⟨rfl, qq⟩
  replace own := owns_below own qq
  replace qb := qb.trans (qq.mono qb.size)
  clear qq
  clear hraw
  have gb_ := gb.below qb (Nat.le_refl _)
  obtain ⟨_, c0, c1, c2, c3, c4⟩ := gb_
  go_wp2_with fail
  clear c0 c1 c2 c3 c4
  refine (hwh _).mono ?_
  rintro e w6 ⟨rfl, qq⟩
  replace own := owns_below own qq
  replace qb := qb.trans (qq.mono qb.size)
  clear qq
  clear hwh
  obtain ⟨w7, hrun7, ownC, q7⟩ := makeI s (by omega) w6
  have hb6 := qb.size
  have hgrl : gr < w6.heap.size := (own.lt gr rfl).2
  have own7 := owns_below own q7
  have qb7 := qb.trans (q7.mono hb6)
  have hgc : w6.heap.size < w7.heap.size := (ownC.lt _ rfl).2
  have hb7 := qb7.size
  obtain ⟨w8, hrun8, ownF, q8⟩ := makeB (8 * L) (8 * (L : Int)) (by omega) (by omega) w7
  have gb6a := gb.below qb (Nat.le_refl _)
  have gb7a := gb.below qb7 (Nat.le_refl _)
  have own8 := owns_below own7 q8
  have ownC8 := owns_base (owns_below ownC q8) hb6
  have ownF8 := owns_base ownF hb7
  have qb8 := qb7.trans (q8.mono hb7)
  clear own7 ownC ownF own qb qb7 q7 q8
  have u1 : IntKind.i64.wrap (8 * (L : Int)) = 8 * (L : Int) := by rw [IntKind.wrap_i64]; omega
  obtain ⟨_, c0, c1, c2, c3, c4⟩ := gb6a
  generalize hgcE : w6.heap.size = gc at *
  generalize hgfE : w7.heap.size = gf at *
  have hne1 : gr ≠ gc := by omega
  have hne2 : gr ≠ gf := by omega
  have hne3 : gc ≠ gf := by omega
  go_wp2_with fail
  clear c0 c1 c2 c3 c4 hrun7 hrun8 gb7a
  have HT0 : Hid (turnI z (ps.take 0) = z) := rfl
  have HC0 : Hid (cntL (8 * W) (8 * n + 13 * f) s (ps.take 0) = List.replicate s 0) := cntL_nil _ _ _
  have HS0 : Hid (setTo (8 * L) ps 0 = List.replicate (8 * L) false) := setTo_zero _ _
  have hgcB : w3.heap.size ≤ gc := hb6
  have hgfB : w3.heap.size ≤ gf := hb7
  go_loopw [12] (fun y wr => ∃ i : Nat, i ≤ pl ∧ y = .int .i64 i ∧ (∀ p ∈ ps.take i, 0 ≤ p ∧ p < 8 * ((s * W : Nat) : Int)) ∧ (ps.take i).Nodup ∧ wr.ownsRow w3.heap.size 5 1 (.slice (some ⟨gr, 0, none⟩) L L) L ((turnI z (ps.take i)).map (Value.int .u8)) ∧ wr.ownsRow w3.heap.size 3 1 (.slice (some ⟨gc, 0, none⟩) s s) s ((cntL (8 * W) (8 * n + 13 * f) s (ps.take i)).map (Value.int .i64)) ∧ wr.ownsRow w3.heap.size 4 1 (.slice (some ⟨gf, 0, none⟩) (8 * L) (8 * L)) (8 * L) ((setTo (8 * L) ps i).map Value.bool) ∧ Below w3.heap.size w3 wr) (fun y _ => pl - (intOf y).toNat)
  case atStart => exact ⟨0, Nat.zero_le _, rfl, fun p hp => by simp at hp, by simp, by rw [HT0.out]; exact own8, by rw [HC0.out]; exact ownC8, by rw [HS0.out]; exact ownF8, qb8⟩
  case round =>
    clear own8 ownC8 ownF8 qb8 HT0 HC0 HS0
    obtain ⟨i, hi, rfl, hin, hnd, own, ownC, ownF, qb⟩ := hrel
    have HIN : Hid (∀ p ∈ ps.take i, 0 ≤ p ∧ p < 8 * ((s * W : Nat) : Int)) := hin
    have HND : Hid (ps.take i).Nodup := hnd
    clear hin hnd
    by_cases hlt : i < pl
    case neg =>
      have e : i = pl := by omega
      subst e
      have htk : ps.take i = ps := List.take_of_length_le (by rw [HPL.out]; exact Nat.le_refl _)
      rw [htk] at own ownC HIN HND
      clear htk ownF hlt hi
      have HCL : Hid (∀ j, j < s → wr.cell? ⟨gc, j, none⟩ = some (.int .i64 ((cntTo (8 * W) (8 * n + 13 * f) ps j : Nat) : Int))) := fun j hj => by
        rw [owned_cell ownC j hj, cntL_at _ _ _ _ _ hj]
      have hgcl : gc < wr.heap.size := (ownC.lt gc rfl).2
      have rz := isB_of_row own
      have hcle : ∀ j, cntTo (8 * W) (8 * n + 13 * f) ps j ≤ 200 := fun j => by have := cnt_le (8 * W) (8 * n + 13 * f) ps j; have := HPL.out; omega
      have HCE : Hid (∀ j, cntTo (8 * W) (8 * n + 13 * f) ps j ≤ 200) := hcle
      clear own ownC hcle
      have hrd2 := fun (w1 : World) (r : Row .u8 w1 (some ⟨gr, 0, none⟩) L L (turnI z ps)) (hc : ∀ j, j < s → cntTo (8 * W) (8 * n + 13 * f) ps j ≤ f) => hrd w1 gr z r HPK.out HND.out HIN.out hc
      clear hrd
      generalize cntTo (8 * W) (8 * n + 13 * f) ps = C at *
      have gbx := gb.below qb (Nat.le_refl _)
      have hQ : Below w.heap.size w wr := btrans q1 qb
      have rxx := rx.below qb (Nat.le_refl _)
      clear qb HPK HND HIN HXL HRN HM HW hwp rp rx
      go_wp2_with fail
      generalize wr = wo at *
      go_loopw [14, 15] (fun mo y wr2 => ∃ j : Nat, j ≤ s ∧ y = .int .i64 j ∧ mo = .int .i64 (maxC C j : Nat) ∧ (∀ k, k < j → C k ≤ f) ∧ Below wo.heap.size wo wr2) (fun _ y _ => s - (intOf y).toNat)
      case atStart => exact ⟨0, Nat.zero_le _, rfl, rfl, fun k hk => absurd hk (by omega), Below.refl _ _⟩
      case round =>
        obtain ⟨j, hj, rfl, rfl, hcj, q2⟩ := hrel
        have HCJ : Hid (∀ k, k < j → C k ≤ f) := hcj
        clear hcj
        by_cases hlt : j < s
        case neg =>
          have e : j = s := by omega
          subst e
          have gb1 := gbx.below q2 (Nat.le_refl _)
          have hrd3 := hrd2 _ (rz.below q2 (Nat.le_refl _)) HCJ.out
          clear hrd2
          have gb_ := gb1
          obtain ⟨_, c0, c1, c2, c3, c4⟩ := gb_
          go_wp2_with fail
          clear c0 c1 c2 c3 c4
          refine hrd3.mono ?_
          rintro e w9 ⟨ao, co, rfl, rd, q9⟩
          clear hrd3
          have qx : Below w.heap.size w w9 := btrans (btrans hQ q2) q9
          have rx9 := (rxx.below q2 (Nat.le_refl _)).below q9 (Nat.le_refl _)
          generalize maxC C j = mx at *
          go_wp2_with fail
          refine (awake6_any hB hE hD _).mono ?_
          rintro e w10 ⟨rfl, qq⟩
          replace rd := rd.below qq (Nat.le_refl _)
          replace rx9 := rx9.below qq (Nat.le_refl _)
          replace qx := btrans qx qq
          clear qq
          have hc1 := conv_row Try.underlying24 Try.underlying5 Try.underlying9 rd
          have hc2 := conv_row Try.underlying24 Try.underlying5 Try.underlying9 rx9
          go_wp2_with fail
          go_ret
          exact ⟨rfl, qx⟩
        have hcc := HCL.out j hlt
        have hce := HCE.out j
        have u5 : (j : Int) < (s : Int) := by omega
        have gb1 := gbx.below q2 (Nat.le_refl _)
        have HMX : Hid (maxC C (j + 1) = max (maxC C j) (C j)) := rfl
        have hmxb : maxC C j ≤ f := by
          clear hcc
          have : ∀ k, k ≤ j → maxC C k ≤ f := by
            intro k
            induction k with
            | zero => intro _; exact Nat.zero_le _
            | succ k ih => intro hk; simp only [maxC]; have := ih (by omega); have := HCJ.out k (by omega); omega
          exact this j (Nat.le_refl _)
        have HC2 : Hid (C j ≤ f → ∀ k, k < j + 1 → C k ≤ f) := fun hc k hk => by
          by_cases e : k = j
          · subst e; exact hc
          · exact HCJ.out k (by omega)
        generalize C j = cj at *
        generalize hmo : maxC C j = mo at *
        have HMO : Hid (maxC C j = mo) := hmo
        clear hmo
        have hcc2 := (Below.cell q2 (p := ⟨gc, j, none⟩) hgcl).trans hcc
        have hgl2 : gc < wr.heap.size := by have := q2.size; omega
        clear hcc
        by_cases hbig : f < cj
        case pos =>
          have hbi : (f : Int) < (cj : Int) := by omega
          go_wp2_with fail
          refine held_begin (by kernel_rfl) ?_
          refine held_reads (rs := [0, 1, 2, 3, 4, 5, 6]) (fuel := 0) (by kernel_rfl) (fun c d v a w h => by cases d <;> exact h) (by kernel_rfl) (Since.drew _) (fun K hK => ?_)
          refine calm_move _ rfl (by rfl) rfl ?_
          go_simp
          refine calm_move _ rfl (by rfl) rfl ?_
          go_simp
          refine calm_do (.pointer (some ⟨gc, j, none⟩)) rfl (by rfl) (fun w' hw' => ?_) ?_
          · skip
            go_simp
          go_simp
          refine calm_do (.int .i64 (cj : Int)) rfl (by rfl) (fun w' hw' => ?_) ?_
          · have kk := (Below.cell (w := wr) hw' (p := ⟨gc, j, none⟩) hgl2).trans hcc2
            go_simp
          go_simp
          refine calm_do (.pointer (some ⟨g, 4, none⟩)) rfl (by rfl) (fun w' hw' => ?_) ?_
          · skip
            go_simp
          go_simp
          refine calm_do (.int .i64 f) rfl (by rfl) (fun w' hw' => ?_) ?_
          · have gb' := gb1.below hw' (Nat.le_refl _)
            obtain ⟨_, c0, c1, c2, c3, c4⟩ := gb'
            go_simp
          go_simp
          refine calm_do (.bool true) rfl (by rfl) (fun w' hw' => ?_) ?_
          · go_simp
          go_simp
          refine calm_nil (hK.out _ ?_)
          clear hK K
          refine wpAnyH_done (by kernel_rfl) ?_ _
          go_wp2_with fail
          go_ret
          exact ⟨rfl, by first | exact (btrans hQ q2).drew | (rw [← hgg]; exact (btrans hQ q2).drew)⟩
        have hbi : ¬ (f : Int) < (cj : Int) := by omega
        go_wp2_with fail
        refine held_begin (by kernel_rfl) ?_
        refine held_reads (rs := [0, 1, 2, 3, 4, 5, 6]) (fuel := 0) (by kernel_rfl) (fun c d v a w h => by cases d <;> exact h) (by kernel_rfl) (Since.drew _) (fun K hK => ?_)
        refine calm_move _ rfl (by rfl) rfl ?_
        go_simp
        refine calm_move _ rfl (by rfl) rfl ?_
        go_simp
        refine calm_do (.pointer (some ⟨gc, j, none⟩)) rfl (by rfl) (fun w' hw' => ?_) ?_
        · skip
          go_simp
        go_simp
        refine calm_do (.int .i64 (cj : Int)) rfl (by rfl) (fun w' hw' => ?_) ?_
        · have kk := (Below.cell (w := wr) hw' (p := ⟨gc, j, none⟩) hgl2).trans hcc2
          go_simp
        go_simp
        refine calm_do (.pointer (some ⟨g, 4, none⟩)) rfl (by rfl) (fun w' hw' => ?_) ?_
        · skip
          go_simp
        go_simp
        refine calm_do (.int .i64 f) rfl (by rfl) (fun w' hw' => ?_) ?_
        · have gb' := gb1.below hw' (Nat.le_refl _)
          obtain ⟨_, c0, c1, c2, c3, c4⟩ := gb'
          go_simp
        go_simp
        refine calm_do (.bool false) rfl (by rfl) (fun w' hw' => ?_) ?_
        · go_simp
        go_simp
        refine calm_nil (hK.out _ ?_)
        clear hK K
        refine wpAnyH_done (by kernel_rfl) ?_ _
        have hcc3 : wr.drew.cell? ⟨gc, j, none⟩ = some (.int .i64 (cj : Int)) := hcc2
        replace q2 := q2.drew
        generalize wr.drew = we at *
        by_cases hmx : cj ≤ mo
        · have hmx1 : (cj : Int) ≤ (mo : Int) := by omega
          have HM2 : Hid (maxC C (j + 1) = mo) := by show _ = _; rw [HMX.out]; omega
          clear HMX
          go_wp2_with fail
          go_roundw
          case rel => exact ⟨j + 1, by omega, by go_num, by rw [HM2.out]; first | done | (rw [if_pos (by omega)]) | (rw [if_neg (by omega)]), HC2.out (by omega), q2⟩
          case measure => simp [intOf]; omega
        · have hmx1 : (mo : Int) ≤ (cj : Int) := by omega
          have HM2 : Hid (maxC C (j + 1) = cj) := by show _ = _; rw [HMX.out]; omega
          clear HMX
          go_wp2_with fail
          go_roundw
          case rel => exact ⟨j + 1, by omega, by go_num, by rw [HM2.out]; first | done | (rw [if_pos (by omega)]) | (rw [if_neg (by omega)]), HC2.out (by omega), q2⟩
          case measure => simp [intOf]; omega
    have rp1 := rp.below qb (Nat.le_refl _)
    obtain ⟨pb, po, rfl, hpb, hpc⟩ := rp1.hcell (by omega)
    have hcp := hpc i hlt
    clear hpc rp1
    have hwb := bounds_i64 (hwp _ (mem_getD ps i (by rw [HPL.out]; exact hlt)))
    have HSN : Hid (ps.take (i + 1) = ps.take i ++ [ps[i]?.getD 0]) := take_snoc ps i (by rw [HPL.out]; exact hlt)
    have HSS : Hid (∀ q : Nat, ps[i]?.getD 0 = (q : Int) → q < 8 * L → setTo (8 * L) ps (i + 1) = (setTo (8 * L) ps i).set q true) := fun q h1 h2 => setTo_succ _ _ _ _ (by rw [HPL.out]; exact hlt) h1 h2
    generalize ps[i]?.getD 0 = P at *
    have u5 : (i : Int) < (pl : Int) := by omega
    have u6 : IntKind.i64.wrap ((L : Int) - 1) = (L : Int) - 1 := by rw [IntKind.wrap_i64]; omega
    have u7 : IntKind.i64.wrap (8 * ((L : Int) - 1)) = 8 * ((L : Int) - 1) := by rw [IntKind.wrap_i64]; omega
    have hQ : Below w.heap.size w wr := btrans q1 qb
    have hQg : Below g w wr := by rw [← hgg]; exact hQ
    by_cases h1 : P < 0
    case pos =>
      go_wp2_with fail
      go_ret
      exact ⟨rfl, by first | exact hQ | exact hQg⟩
    by_cases h2 : 8 * ((L : Int) - 1) ≤ P
    case pos =>
      go_wp2_with fail
      go_ret
      exact ⟨rfl, by first | exact hQ | exact hQg⟩
    obtain ⟨q, rfl⟩ := Int.eq_ofNat_of_zero_le (show 0 ≤ P by omega)
    have hqL : q < 8 * L := by omega
    have hq8 : q < 8 * (L - 1) := by omega
    have hcf := owned_cellB ownF q hqL
    have hff := ownF.frozenAt q
    rw [setTo_at _ _ _ _ hqL] at hcf
    have v0 : (q : Int) < ((8 * L : Nat) : Int) := by omega
    have v0b : (q : Int) < 8 * (L : Int) := by omega
    have v00 : (0 : Int) ≤ (q : Int) := by omega
    cases hfl : ((ps.take i).any fun v => v == (q : Int))
    case true =>
      rw [hfl] at hcf
      go_wp2_with fail
      go_ret
      exact ⟨rfl, by first | exact hQ | exact hQg⟩
    rw [hfl] at hcf
    have HNI : Hid ((q : Int) ∉ ps.take i) := any_no hfl
    clear hfl
    have HIN2 : Hid (∀ p ∈ ps.take (i + 1), 0 ≤ p ∧ p < 8 * ((s * W : Nat) : Int)) := fun p hp => by
      rw [HSN.out] at hp
      rcases List.mem_append.1 hp with hp | hp
      · exact HIN.out p hp
      · simp at hp; subst hp; have := HL.out; omega
    have HND2 : Hid (ps.take (i + 1)).Nodup := by show List.Nodup _; rw [HSN.out]; exact nodup_snoc HND.out HNI.out
    have R3 := owned_setB (q := q) hgfB ownF qb
    rw [← HSS.out q rfl hqL] at R3
    have ownA := owns_far (i := q) own (.bool true) hne2
    have ownCA := owns_far (i := q) ownC (.bool true) hne3
    obtain ⟨ownFA, qbA⟩ := R3
    have HTN : Hid _ := turn_next (z := z) HSN.out
    have hcB := isB_turnI hzb (ps.take i)
    have hcbd := hcB _ (mem_getD (turnI z (ps.take i)) (q / 8) (by rw [length_turnI, HZL.out]; omega))
    clear hcB
    have hcl := owned_cell ownA (q / 8) (by omega)
    have hfz := ownA.frozenAt (q / 8)
    have HX : Hid _ := xor_flip8 ((turnI z (ps.take i))[q / 8]?.getD 0) (q % 8) hcbd.1 hcbd.2 (by omega)
    have R1 := owned_set (q := q / 8) (x := flipB ((turnI z (ps.take i))[q / 8]?.getD 0) (q % 8)) hgr ownA qbA
    rw [← HTN.out] at R1
    have ownCB := owns_far (i := q / 8) ownCA (.int .u8 (flipB ((turnI z (ps.take i))[q / 8]?.getD 0) (q % 8))) hne1.symm
    have ownFB := owns_far (i := q / 8) ownFA (.int .u8 (flipB ((turnI z (ps.take i))[q / 8]?.getD 0) (q % 8))) hne2.symm
    have HR : Hid _ := (And.intro R1.1.drew (And.intro R1.2.drew (And.intro ownCB.drew ownFB.drew)))
    clear R1 ownCB ownFB ownA ownCA ownFA qbA own ownC ownF qb HTN
    have htu := turned_any (q % 8) (by omega)
    generalize hfB : flipB ((turnI z (ps.take i))[q / 8]?.getD 0) (q % 8) = fv at *
    clear hfB
    generalize (turnI z (ps.take i))[q / 8]?.getD 0 = cv at *
    generalize hpr : (2 : Int) ^ (q % 8) = pr at *
    clear hpr
    obtain ⟨q8, hq8e⟩ : ∃ q8, q / 8 = q8 := ⟨_, rfl⟩
    obtain ⟨r, hre⟩ : ∃ r, q % 8 = r := ⟨_, rfl⟩
    rw [hq8e] at hcl hfz HR
    rw [hre] at htu
    have HQ8 : Hid (q / 8 = q8) := hq8e
    have hq8L : q8 < L := by omega
    have hr8 : r < 8 := by omega
    have d1 : (q : Int) / 8 = (q8 : Int) := by omega
    have d2 : (q : Int) % 8 = (r : Int) := by omega
    have d3 : (q : Int).tdiv 8 = (q8 : Int) := by rw [Int.tdiv_eq_ediv_of_nonneg (by omega)]; exact d1
    have d4 : (q : Int).tmod 8 = (r : Int) := by rw [Int.tmod_eq_emod_of_nonneg (by omega)]; exact d2
    clear hq8e hre
    have d5 : IntKind.i64.wrap (q8 : Int) = (q8 : Int) := by rw [IntKind.wrap_i64]; omega
    have d6 : IntKind.i64.wrap (r : Int) = (r : Int) := by rw [IntKind.wrap_i64]; omega
    have d7 : IntKind.i64.wrap ((q : Int).tdiv 8) = (q8 : Int) := by rw [d3, d5]
    have d8 : IntKind.i64.wrap ((q : Int).tmod 8) = (r : Int) := by rw [d4, d6]
    have d9 : IntKind.i64.wrap ((q : Int) / 8) = (q8 : Int) := by rw [d1, d5]
    have d10 : IntKind.i64.wrap ((q : Int) % 8) = (r : Int) := by rw [d2, d6]
    have d11 : ((q8 : Int)).toNat = q8 := by omega
    have d12 : (q8 : Int) < (L : Int) := by omega
    have d13 : (0 : Int) ≤ (q8 : Int) := by omega
    have d14 : ((q : Int)).toNat = q := by omega
    have hx := HX.out
    clear HX
    go_wp2_with fail
    go_region_with (first
      | (go_at_call 24; refine (htu _).mono ?_; rintro e w' ⟨rfl, rfl⟩))
    all_goals
      obtain ⟨own, qb, ownC, ownF⟩ := HR.out
      clear HR hcl hfz hcf hff htu hx d7 d8 d9 d10 d11 d14 d2 d4 d6
      generalize (World.setCell (World.setCell wr ⟨gf, q, none⟩ (.bool true)) ⟨gr, q8, none⟩ (.int .u8 fv)).drew = wb at *
      have gb1 := gb.below qb (Nat.le_refl _)
      obtain ⟨r2, hr2⟩ : ∃ r2, q % (8 * W) = r2 := ⟨_, rfl⟩
      obtain ⟨c9, hc9⟩ : ∃ c9, q / (8 * W) = c9 := ⟨_, rfl⟩
      have HR2 : Hid (q % (8 * W) = r2) := hr2
      have HC9 : Hid (q / (8 * W) = c9) := hc9
      have hc9s : c9 < s := by rw [← hc9]; exact Nat.div_lt_of_lt_mul (by have := HL.out; rw [Nat.mul_comm (8 * W) s, ← Nat.mul_assoc, Nat.mul_comm s 8, Nat.mul_assoc]; omega)
      have hr2b : r2 < 8 * W := by rw [← hr2]; exact Nat.mod_lt _ (by omega)
      clear hr2 hc9
      have f1 : (q : Int).tmod (8 * (W : Int)) = (r2 : Int) := by rw [Int.tmod_eq_emod_of_nonneg (by omega), show 8 * (W : Int) = ((8 * W : Nat) : Int) by omega, ← Int.natCast_emod, HR2.out]
      have f2 : (q : Int) % (8 * (W : Int)) = (r2 : Int) := by rw [show 8 * (W : Int) = ((8 * W : Nat) : Int) by omega, ← Int.natCast_emod, HR2.out]
      have f3 : ¬ (8 * (W : Int)) = 0 := by omega
      have f4 : IntKind.i64.wrap (r2 : Int) = (r2 : Int) := by rw [IntKind.wrap_i64]; omega
      by_cases hit : r2 < 8 * n + 13 * f
      case pos =>
        have hiti : (r2 : Int) < 8 * (n : Int) + 13 * (f : Int) := by omega
        have HCH : Hid _ := cntL_hit (8 * W) (8 * n + 13 * f) s (ps.take i) (q : Int) (by rw [Int.toNat_natCast, HR2.out]; exact hit) (by rw [Int.toNat_natCast, HC9.out]; exact hc9s)
        go_wp2_with fail
        refine held_begin (by kernel_rfl) ?_
        refine held_reads (rs := [0, 1, 2, 3, 4, 5, 6, 7, 8, 9, 10, 11]) (fuel := 0) (by kernel_rfl) (fun c d v a w h => by cases d <;> exact h) (by kernel_rfl) (Since.drew _) (fun K hK => ?_)
        refine calm_move _ rfl (by rfl) rfl ?_
        go_simp
        refine calm_move _ rfl (by rfl) rfl ?_
        go_simp
        refine calm_do (.int .i64 (8 * (W : Int))) rfl (by rfl) (fun w' hw' => ?_) ?_
        · skip
          go_simp
          all_goals (rw [IntKind.wrap_i64]; omega)
        go_simp
        refine calm_do (.int .i64 (r2 : Int)) rfl (by rfl) (fun w' hw' => ?_) ?_
        · skip
          go_simp
          all_goals (first | (rw [f1]; exact f4) | (rw [f2]; exact f4) | exact f4)
        go_simp
        refine calm_do (.pointer (some ⟨g, 3, none⟩)) rfl (by rfl) (fun w' hw' => ?_) ?_
        · skip
          go_simp
        go_simp
        refine calm_do (.int .i64 n) rfl (by rfl) (fun w' hw' => ?_) ?_
        · have gb' := gb1.below hw' (Nat.le_refl _)
          obtain ⟨_, c0, c1, c2, c3, c4⟩ := gb'
          go_simp
        go_simp
        refine calm_do (.int .i64 (8 * (n : Int))) rfl (by rfl) (fun w' hw' => ?_) ?_
        · skip
          go_simp
          all_goals (rw [IntKind.wrap_i64]; omega)
        go_simp
        refine calm_do (.pointer (some ⟨g, 4, none⟩)) rfl (by rfl) (fun w' hw' => ?_) ?_
        · skip
          go_simp
        go_simp
        refine calm_do (.int .i64 f) rfl (by rfl) (fun w' hw' => ?_) ?_
        · have gb' := gb1.below hw' (Nat.le_refl _)
          obtain ⟨_, c0, c1, c2, c3, c4⟩ := gb'
          go_simp
        go_simp
        refine calm_do (.int .i64 (13 * (f : Int))) rfl (by rfl) (fun w' hw' => ?_) ?_
        · skip
          go_simp
          all_goals (rw [IntKind.wrap_i64]; omega)
        go_simp
        refine calm_do (.int .i64 (8 * (n : Int) + 13 * (f : Int))) rfl (by rfl) (fun w' hw' => ?_) ?_
        · skip
          go_simp
          all_goals (rw [IntKind.wrap_i64]; omega)
        go_simp
        refine calm_do (.bool true) rfl (by rfl) (fun w' hw' => ?_) ?_
        · go_simp
        go_simp
        refine calm_nil (hK.out _ ?_)
        clear hK K
        refine wpAnyH_done (by kernel_rfl) ?_ _
        replace qb := qb.drew
        replace own := own.drew
        replace ownC := ownC.drew
        replace ownF := ownF.drew
        generalize wb.drew = wd at *
        clear gb1
        have hcc := owned_cell ownC c9 hc9s
        have hfc := ownC.frozenAt c9
        rw [cntL_at _ _ _ _ _ hc9s] at hcc
        have hcle := cnt_le (8 * W) (8 * n + 13 * f) (ps.take i) c9
        have hcl2 : (ps.take i).length ≤ 200 := by rw [List.length_take]; omega
        have R2 := owned_set (q := c9) (x := ((cntTo (8 * W) (8 * n + 13 * f) (ps.take i) c9 : Nat) : Int) + 1) hgcB ownC qb
        have HRC : Hid (((cntL (8 * W) (8 * n + 13 * f) s (ps.take i)).set c9 (((cntTo (8 * W) (8 * n + 13 * f) (ps.take i) c9 : Nat) : Int) + 1)) = cntL (8 * W) (8 * n + 13 * f) s (ps.take (i + 1))) := by
          show _ = _
          rw [HSN.out, HCH.out, Int.toNat_natCast, HC9.out]
        rw [HRC.out] at R2
        have own2 := owns_far (i := c9) own (.int .i64 (((cntTo (8 * W) (8 * n + 13 * f) (ps.take i) c9 : Nat) : Int) + 1)) hne1
        have ownF2 := owns_far (i := c9) ownF (.int .i64 (((cntTo (8 * W) (8 * n + 13 * f) (ps.take i) c9 : Nat) : Int) + 1)) hne3.symm
        have HR : Hid _ := And.intro R2 (And.intro own2 ownF2)
        clear R2 own2 ownF2 own ownC ownF qb HRC HCH
        generalize cntTo (8 * W) (8 * n + 13 * f) (ps.take i) c9 = cc at *
        have e0 : q8 / W = c9 := by rw [← HC9.out, ← HQ8.out, Nat.div_div_eq_div_mul]
        have e1 : (q8 : Int) / (W : Int) = (c9 : Int) := by rw [← e0, Int.natCast_ediv]
        have e2 : (q8 : Int).tdiv (W : Int) = (c9 : Int) := by rw [Int.tdiv_eq_ediv_of_nonneg (by omega)]; exact e1
        clear e0
        have e3 : ¬ (W : Int) = 0 := by omega
        have e4 : IntKind.i64.wrap (c9 : Int) = (c9 : Int) := by rw [IntKind.wrap_i64]; omega
        have e5 : (c9 : Int) < (s : Int) := by omega
        have e6 : IntKind.i64.wrap ((cc : Int) + 1) = (cc : Int) + 1 := by rw [IntKind.wrap_i64]; omega
        go_wp2_with fail
        go_roundw
        case rel => exact ⟨i + 1, by omega, by go_num, HIN2.out, HND2.out, HR.out.2.1, HR.out.1.1, HR.out.2.2, HR.out.1.2⟩
        case measure => simp [intOf]; omega
      have hiti : ¬ (r2 : Int) < 8 * (n : Int) + 13 * (f : Int) := by omega
      have HCM : Hid (cntL (8 * W) (8 * n + 13 * f) s (ps.take (i + 1)) = cntL (8 * W) (8 * n + 13 * f) s (ps.take i)) := by show _ = _; rw [HSN.out]; exact cntL_miss _ _ _ _ _ (by rw [Int.toNat_natCast, HR2.out]; exact hit)
      go_wp2_with fail
      refine held_begin (by kernel_rfl) ?_
      refine held_reads (rs := [0, 1, 2, 3, 4, 5, 6, 7, 8, 9, 10, 11]) (fuel := 0) (by kernel_rfl) (fun c d v a w h => by cases d <;> exact h) (by kernel_rfl) (Since.drew _) (fun K hK => ?_)
      refine calm_move _ rfl (by rfl) rfl ?_
      go_simp
      refine calm_move _ rfl (by rfl) rfl ?_
      go_simp
      refine calm_do (.int .i64 (8 * (W : Int))) rfl (by rfl) (fun w' hw' => ?_) ?_
      · skip
        go_simp
        all_goals (rw [IntKind.wrap_i64]; omega)
      go_simp
      refine calm_do (.int .i64 (r2 : Int)) rfl (by rfl) (fun w' hw' => ?_) ?_
      · skip
        go_simp
        all_goals (first | (rw [f1]; exact f4) | (rw [f2]; exact f4) | exact f4)
      go_simp
      refine calm_do (.pointer (some ⟨g, 3, none⟩)) rfl (by rfl) (fun w' hw' => ?_) ?_
      · skip
        go_simp
      go_simp
      refine calm_do (.int .i64 n) rfl (by rfl) (fun w' hw' => ?_) ?_
      · have gb' := gb1.below hw' (Nat.le_refl _)
        obtain ⟨_, c0, c1, c2, c3, c4⟩ := gb'
        go_simp
      go_simp
      refine calm_do (.int .i64 (8 * (n : Int))) rfl (by rfl) (fun w' hw' => ?_) ?_
      · skip
        go_simp
        all_goals (rw [IntKind.wrap_i64]; omega)
      go_simp
      refine calm_do (.pointer (some ⟨g, 4, none⟩)) rfl (by rfl) (fun w' hw' => ?_) ?_
      · skip
        go_simp
      go_simp
      refine calm_do (.int .i64 f) rfl (by rfl) (fun w' hw' => ?_) ?_
      · have gb' := gb1.below hw' (Nat.le_refl _)
        obtain ⟨_, c0, c1, c2, c3, c4⟩ := gb'
        go_simp
      go_simp
      refine calm_do (.int .i64 (13 * (f : Int))) rfl (by rfl) (fun w' hw' => ?_) ?_
      · skip
        go_simp
        all_goals (rw [IntKind.wrap_i64]; omega)
      go_simp
      refine calm_do (.int .i64 (8 * (n : Int) + 13 * (f : Int))) rfl (by rfl) (fun w' hw' => ?_) ?_
      · skip
        go_simp
        all_goals (rw [IntKind.wrap_i64]; omega)
      go_simp
      refine calm_do (.bool false) rfl (by rfl) (fun w' hw' => ?_) ?_
      · go_simp
      go_simp
      refine calm_nil (hK.out _ ?_)
      clear hK K
      refine wpAnyH_done (by kernel_rfl) ?_ _
      replace qb := qb.drew
      replace own := own.drew
      replace ownC := ownC.drew
      replace ownF := ownF.drew
      generalize wb.drew = wd at *
      clear gb1
      go_wp2_with fail
      go_roundw
      case rel => exact ⟨i + 1, by omega, by go_num, HIN2.out, HND2.out, own, by rw [HCM.out]; exact ownC, ownF, qb⟩
      case measure => simp [intOf]; omega

end Go.Proofs.Ytaabgfameegomaa
