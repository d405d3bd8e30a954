/-
  The document's answer of layer 6 (casemateref06): Marked, Near. (Written by tools/gen/ecc_ref3.py.)
-/
import Derived.Test.YtaabgfameegomaaEccRef
import Derived.Test.YtaabgfameegomaaEccCode6
namespace Go.Proofs.Ytaabgfameegomaa
open Go.RowKit
set_option linter.unusedVariables false
set_option maxRecDepth 8192

/-- How many of the first k bits are 0. -/
def nouTo (z : List Int) : Nat → Int
  | 0 => 0
  | k + 1 => nouTo z k + 1 - bitI z k
theorem nouTo_eq (z : List Int) (k : Nat) : nouTo z k = (k : Int) - onesTo z k := by
  induction k with
  | zero => rfl
  | succ k ih => simp only [nouTo]; rw [ih, onesTo_succ]; omega
theorem nouTo_bd (z : List Int) (k : Nat) : 0 ≤ nouTo z k ∧ nouTo z k ≤ k := by
  have := onesTo_bd z k
  rw [nouTo_eq]
  omega

set_option maxHeartbeats 3200000 in
set_option maxRecDepth 100000 in
theorem refMarked_any {b p : Int} {s n f R m W L : Nat} (G : GOk b p s n f R m W L) (a : Option Addr) (cap : Nat) (z : List Int) (w : World) (rz : Row .u8 w a L cap z) (bz : IsB z) (er : Int) (HER : Hid (er = if z[L - 1]?.getD 0 = 0 then 0 else if z[L - 1]?.getD 0 = 255 ∧ blankTo f z W s = true then 61 else 60)) :
    Calls Try.prog 21 #[.agg #[.int .i64 b, .int .i64 p, .int .i64 ((s : Nat)), .int .i64 ((n : Nat)), .int .i64 ((f : Nat))], .slice a L cap] w fun e w' => e = .returned (.int .i64 er) ∧ Below w.heap.size w w' := by
  have hs2 := G.hs
  have hn2 := G.hn
  have hf2 := G.hf
  have hW2 := G.W2
  have hL2 := G.L2
  have hrc := rz.hcap
  have hrm := rz.hmax
  have HZL : Hid (z.length = L) := rz.hlen
  have hxs : ∃ rb off, a = some ⟨rb, off, none⟩ := by
    obtain ⟨rb, off, h, _⟩ := rz.hcell (by omega)
    exact ⟨rb, off, h⟩
  obtain ⟨rb, off, rfl⟩ := hxs
  have hsec : ∀ i, i < s → ∀ w : World, _ := fun i hi => refSector_any G hi rb off L cap hrc hrm
  have HAT : Hid (∀ i, i < s → i * W + W + 1 ≤ L) := fun i hi => G.at_ hi
  clear G
  have u1 : IntKind.i64.wrap ((L : Int) - 1) = ((L - 1 : Nat) : Int) := by rw [IntKind.wrap_i64]; omega
  have u2 : (L : Int) - 1 = ((L - 1 : Nat) : Int) := by omega
  have hz1 := bz _ (mem_getD z (L - 1) (by rw [HZL.out]; omega))
  have hrz := rz
  obtain ⟨b', off', he, hbs, hcell⟩ := hrz.hcell (by omega)
  simp only [Option.some.injEq, Addr.mk.injEq, and_true] at he
  obtain ⟨rfl, rfl⟩ := he
  have hc := hcell (L - 1) (by omega)
  clear hcell hrz
  have hc0 := (below_one w (.cells #[.int .i64 b, .int .i64 p, .int .i64 s, .int .i64 n, .int .i64 f] 23)).cell (p := ⟨rb, off + (L - 1), none⟩) hbs
  rw [hc] at hc0
  clear hc
  generalize hzl : z[L - 1]?.getD 0 = zl at *
  clear hzl
  generalize hLL : L - 1 = L1 at *
  clear hLL
  by_cases h0 : zl = 0
  case pos =>
    have HE : Hid (er = 0) := by show _ = _; rw [HER.out, if_pos h0]
    subst h0
    go_enter Try.func21, Try.ntmps21
    go_wp2_with fail
    go_ret
    exact ⟨by rw [HE.out]; rfl, below_one _ _⟩
  have b0 : (zl == 0) = false := by simpa using h0
  by_cases h255 : zl = 255
  case neg =>
    have HE : Hid (er = 60) := by show _ = _; rw [HER.out, if_neg h0, if_neg (fun h => h255 h.1)]
    have b1 : (zl != 255) = true := by simpa using h255
    go_enter Try.func21, Try.ntmps21
    go_wp2_with fail
    go_ret
    exact ⟨by rw [HE.out]; rfl, below_one _ _⟩
  subst h255
  have HE1 : Hid (er = if blankTo f z W s = true then 61 else 60) := by show _ = _; rw [HER.out]; simp
  clear HER h0 b0
  go_enter Try.func21, Try.ntmps21
  go_wp2_with fail
  have gb := gbox_new w 23 b p s n f
  have q0 := below_one w (.cells #[.int .i64 b, .int .i64 p, .int .i64 s, .int .i64 n, .int .i64 f] 23)
  generalize w.alloc (.cells #[.int .i64 b, .int .i64 p, .int .i64 s, .int .i64 n, .int .i64 f] 23) = w0 at *
  generalize hgg : w.heap.size = g at gb
  replace rz := rz.below q0 (Nat.le_refl _)
  clear hc0 hbs u1 u2 hz1
  go_loopw [6] (fun y wr => ∃ i : Nat, i ≤ s ∧ y = .int .i64 i ∧ blankTo f z W i = true ∧ Below w0.heap.size w0 wr) (fun y _ => s - (intOf y).toNat)
  case atStart => exact ⟨0, Nat.zero_le _, rfl, rfl, Below.refl _ _⟩
  case round =>
    obtain ⟨i, hi, rfl, hbl, q⟩ := hrel
    have HBL : Hid (blankTo f z W i = true) := hbl
    clear hbl
    have gb1 := gb.below q (Nat.le_refl _)
    have gb2 := gb1
    obtain ⟨_, c0, c1, c2, c3, c4⟩ := gb2
    by_cases hlt : i < s
    case neg =>
      have e : i = s := by omega
      subst e
      have HE2 : Hid (er = 61) := by show _ = _; rw [HE1.out, HBL.out]; rfl
      go_wp2_with fail
      go_ret
      exact ⟨by rw [HE2.out]; rfl, btrans q0 q⟩
    have u5 : (i : Int) < (s : Int) := by omega
    have hat := HAT.out i hlt
    go_wp2_with fail
    refine (hsec i hlt _).mono ?_
    rintro e w1 ⟨rfl, qq⟩
    replace q := btrans q qq
    clear qq c0 c1 c2 c3 c4 gb1
    have rs := row_part (rz.below q (Nat.le_refl _)) (i * W) W (cap - i * W) (by omega) (by omega) (by omega)
    have bs := isB_part bz (i * W) W
    have hall := all_any _ _ _ _ w1 rs bs (by omega)
    have HNN : Hid (nouN z W i = nouTo (part z (i * W) W) (8 * W)) := by show _ = _; rw [nouTo_eq]; unfold nouN; omega
    clear rs bs
    generalize part z (i * W) W = zi at *
    generalize cap - i * W = cp at *
    generalize off + i * W = ofs at *
    go_wp2_with fail
    refine hall.mono ?_
    rintro e w2 ⟨v, rfl, ownb, qq⟩
    clear hall
    have qw := btrans q qq
    clear qq q
    obtain ⟨ab, cb, rfl, rb1⟩ := row_of_owns ownb
    clear ownb
    go_wp2_with fail
    go_loop [8, 9] (fun x y => ∃ k : Nat, k ≤ 8 * W ∧ y = .int .i64 k ∧ x = .int .i64 (nouTo zi k)) (fun _ y => 8 * W - (intOf y).toNat)
    case atStart => exact ⟨0, Nat.zero_le _, rfl, rfl⟩
    case round =>
      obtain ⟨k, hk, rfl, rfl⟩ := hrel
      by_cases hk2 : k < 8 * W
      · obtain ⟨b2, o2, rfl, hb2, hcb⟩ := rb1.hcell (by omega)
        have hcc := hcb k hk2
        rw [bitsTo_at zi (8 * W) k hk2] at hcc
        clear hcb
        have hbit := bitI_01 zi k
        have hbd := nouTo_bd zi k
        have HS : Hid (nouTo zi (k + 1) = nouTo zi k + 1 - bitI zi k) := rfl
        generalize nouTo zi k = nk at *
        generalize bitI zi k = bk at *
        have u6 : (k : Int) < 8 * (W : Int) := by omega
        go_wp2
        go_round
        case rel => exact ⟨k + 1, by omega, by go_num, by rw [HS.out]⟩
        case measure => simp [intOf]; omega
      · have e : k = 8 * W := by omega
        subst e
        obtain ⟨_, c0, c1, c2, c3, c4⟩ := gb.below qw (Nat.le_refl _)
        rw [← HNN.out]
        have hbd := nou_bd z W i
        have u6 : ¬ ((8 * W : Nat) : Int) < 8 * (W : Int) := by omega
        by_cases hbig : nouN z W i ≤ (f : Int)
        · have HNX : Hid (blankTo f z W (i + 1) = true) := by show _ = _; unfold blankTo; rw [HBL.out]; simp [hbig]
          generalize nouN z W i = nz at *
          have v2 : ¬ (f : Int) < nz := by omega
          go_wp2_with fail
          go_roundw
          case rel => exact ⟨i + 1, by omega, by go_num, HNX.out, qw⟩
          case measure => simp [intOf]; omega
        · have HE2 : Hid (er = 60) := by show _ = _; rw [HE1.out, blankTo_no hlt hbig]; rfl
          generalize nouN z W i = nz at *
          have v2 : (f : Int) < nz := by omega
          go_wp2_with fail
          go_ret
          exact ⟨by rw [HE2.out]; rfl, by first | exact btrans q0 qw | (rw [← hgg]; exact btrans q0 qw)⟩
/-- A sector's answer lies in the block g. -/
structure SBox (w : World) (g : Nat) (a : Option Addr) (l c : Nat) (n e : Int) : Prop where
  lt : g < w.heap.size
  c0 : w.cell? ⟨g, 0, none⟩ = some (.slice a l c)
  c1 : w.cell? ⟨g, 1, none⟩ = some (.int .i64 n)
  c2 : w.cell? ⟨g, 2, none⟩ = some (.int .i64 e)
theorem SBox.below {w w' : World} {g B : Nat} {a : Option Addr} {l c : Nat} {n e : Int} (h : SBox w g a l c n e) (hb : Below B w w') (hB : w.heap.size ≤ B) : SBox w' g a l c n e := by
  have hlt := h.lt
  refine ⟨by have := hb.size; omega, ?_, ?_, ?_⟩
  · rw [hb.cell (by show g < B; omega)]; exact h.c0
  · rw [hb.cell (by show g < B; omega)]; exact h.c1
  · rw [hb.cell (by show g < B; omega)]; exact h.c2
theorem sbox_new (w : World) (T : TypeId) (a : Option Addr) (l c : Nat) (n e : Int) : SBox (w.alloc (.cells #[.slice a l c, .int .i64 n, .int .i64 e] T)) w.heap.size a l c n e := by
  refine ⟨by simp, ?_, ?_, ?_⟩ <;> (rw [World.cell?_alloc_at _ _ _ _ rfl]; rfl)

set_option maxHeartbeats 6400000 in
set_option maxRecDepth 100000 in
theorem refNear_any {b p : Int} {s n f R m W L : Nat} (G : GOk b p s n f R m W L) {i : Nat} (hi : i < s) (a : Option Addr) (cap : Nat) (z : List Int) (w : World) (rz : Row .u8 w a L cap z) (bz : IsB z) (c : Sec) (ac : Option Addr) (cc : Nat) (rc : Row .u8 w ac c.d.length cc c.d) (hc : IsSec f (part z (i * W) n) (part z (i * W + n) m) c) :
    Calls Try.prog 22 #[.agg #[.int .i64 b, .int .i64 p, .int .i64 ((s : Nat)), .int .i64 ((n : Nat)), .int .i64 ((f : Nat))], .slice a L cap, .int .i64 i, .agg #[.slice ac c.d.length cc, .int .i64 (c.n : Int), .int .i64 c.e]] w fun e w' => e = .returned (.bool true) ∧ Below w.heap.size w w' := by
  have hs2 := G.hs
  have hn2 := G.hn
  have hf2 := G.hf
  have hm2 := G.m2
  have hW2 := G.W2
  have hL2 := G.L2
  have hrc := rz.hcap
  have hrm := rz.hmax
  have HZL : Hid (z.length = L) := rz.hlen
  have HW : Hid (n + m = W) := G.hW
  have HMM : Hid ((13 * f + 7) / 8 = m) := G.hm
  have hnW : n < W := by have := HW.out; omega
  have hxs : ∃ rb off, a = some ⟨rb, off, none⟩ := by
    obtain ⟨rb, off, h, _⟩ := rz.hcell (by omega)
    exact ⟨rb, off, h⟩
  obtain ⟨rb, off, rfl⟩ := hxs
  have hsec := refSector_any G hi rb off L cap hrc hrm
  have hat := G.at_ hi
  clear G
  obtain ⟨F, hF⟩ : ∃ F, i * W = F := ⟨_, rfl⟩
  rw [hF] at hat hc
  have hsec2 : ∀ w : World, _ := fun w => hsec w
  simp only [hF] at hsec2
  clear hsec hF
  obtain ⟨cd, cn, ce⟩ := c
  simp only at rc ⊢
  have hccm := rc.hcap
  rcases hc with ⟨h0, k, hk⟩ | ⟨h0, h1, h2, _⟩
  case inr =>
    simp only at h0 h1 h2
    subst h0 h1 h2
    rw [show ([] : List Int).length = 0 from rfl] at rc ⊢
    go_enter Try.func22, Try.ntmps22
    go_wp2_with fail
    have gb := (gbox_new w 23 b p s n f).below (below_one _ (.cells #[.slice ac 0 cc, .int .i64 (0 : Int), .int .i64 (50 : Int)] 44)) (Nat.le_refl _)
    have sb := sbox_new (w.alloc (.cells #[.int .i64 b, .int .i64 p, .int .i64 s, .int .i64 n, .int .i64 f] 23)) 44 ac 0 cc (0 : Int) (50 : Int)
    rw [World.size_alloc] at sb
    have q1 := below_two w (.cells #[.int .i64 b, .int .i64 p, .int .i64 s, .int .i64 n, .int .i64 f] 23) (.cells #[.slice ac 0 cc, .int .i64 (0 : Int), .int .i64 (50 : Int)] 44)
    generalize (w.alloc (.cells #[.int .i64 b, .int .i64 p, .int .i64 s, .int .i64 n, .int .i64 f] 23)).alloc (.cells #[.slice ac 0 cc, .int .i64 (0 : Int), .int .i64 (50 : Int)] 44) = w0 at *
    generalize hg2 : w.heap.size + 1 = g2 at sb
    generalize hgg : w.heap.size = g at gb
    replace rz := rz.below q1 (Nat.le_refl _)
    replace rc := rc.below q1 (Nat.le_refl _)
    refine (hsec2 _).mono ?_
    rintro e w1 ⟨rfl, qq⟩
    replace gb := gb.below qq (Nat.le_refl _)
    replace sb := sb.below qq (Nat.le_refl _)
    replace rz := rz.below qq (Nat.le_refl _)
    replace rc := rc.below qq (Nat.le_refl _)
    replace q1 := btrans q1 qq
    clear qq hsec2
    have sb_ := sb
    obtain ⟨_, s0, s1, s2⟩ := sb_
    go_wp2_with fail
    go_ret
    exact ⟨rfl, q1⟩
  simp only at h0 hk
  subst h0
  have bd := hk.bd
  have hnt := hk.near
  have HLD : Hid (cd.length = n) := by show _ = _; rw [hk.ld]; exact length_part (by rw [HZL.out]; omega)
  have HEN : Hid (IsEnc f cd k) := dec_enc hk
  have HFAR : Hid (distTo (wordL f (part z F n) (part z (F + n) m)) (wordL f cd k) (13 * f + 8 * n) = cn) := by
    show _ = _
    have := hk.far
    rwa [length_part (by rw [HZL.out]; omega)] at this
  clear hk
  rw [HLD.out] at rc ⊢
  have hl13 : 13 * f ≤ 8 * m := by have := HMM.out; omega
  go_enter Try.func22, Try.ntmps22
  go_wp2_with fail
  have gb := (gbox_new w 23 b p s n f).below (below_one _ (.cells #[.slice ac n cc, .int .i64 (cn : Int), .int .i64 (0 : Int)] 44)) (Nat.le_refl _)
  have sb := sbox_new (w.alloc (.cells #[.int .i64 b, .int .i64 p, .int .i64 s, .int .i64 n, .int .i64 f] 23)) 44 ac n cc (cn : Int) (0 : Int)
  rw [World.size_alloc] at sb
  have q1 := below_two w (.cells #[.int .i64 b, .int .i64 p, .int .i64 s, .int .i64 n, .int .i64 f] 23) (.cells #[.slice ac n cc, .int .i64 (cn : Int), .int .i64 (0 : Int)] 44)
  generalize (w.alloc (.cells #[.int .i64 b, .int .i64 p, .int .i64 s, .int .i64 n, .int .i64 f] 23)).alloc (.cells #[.slice ac n cc, .int .i64 (cn : Int), .int .i64 (0 : Int)] 44) = w0 at *
  generalize hg2 : w.heap.size + 1 = g2 at sb
  generalize hgg : w.heap.size = g at gb
  replace rz := rz.below q1 (Nat.le_refl _)
  replace rc := rc.below q1 (Nat.le_refl _)
  refine (hsec2 _).mono ?_
  rintro e w1 ⟨rfl, qq⟩
  replace gb := gb.below qq (Nat.le_refl _)
  replace sb := sb.below qq (Nat.le_refl _)
  replace rz := rz.below qq (Nat.le_refl _)
  replace rc := rc.below qq (Nat.le_refl _)
  replace q1 := btrans q1 qq
  clear qq hsec2
  have u3 : ¬ (f : Int) < (cn : Int) := by omega
  have u4 : ¬ (cn : Int) < 0 := by omega
  have hnc : n ≤ cap - F := by omega
  have hWn : W - n = m := by have := HW.out; omega
  have r1 := row_part rz F n (cap - F) (by omega) (by omega) (by omega)
  have r2 : Row .u8 w1 (some ⟨rb, off + F + n, none⟩) (W - n) (cap - F - n) (part z (F + n) m) := by
    rw [hWn, Nat.add_assoc]
    exact row_part rz (F + n) m (cap - F - n) (by have := HW.out; omega) (by have := HW.out; omega) (by omega)
  have b1 := isB_part bz F n
  have b2 := isB_part bz (F + n) m
  generalize part z F n = xs at *
  generalize part z (F + n) m = ms at *
  have HWN : Hid (W - n = m) := hWn
  clear hWn rz
  have sb_ := sb
  obtain ⟨_, s0, s1, s2⟩ := sb_
  have gb_ := gb
  obtain ⟨_, c0, c1, c2, c3, c4⟩ := gb_
  go_wp2_with fail
  clear s0 s1 s2 c0 c1 c2 c3 c4
  refine held_begin (by kernel_rfl) ?_
  refine held_reads (rs := [0, 1, 2, 3, 4, 5, 6, 7, 8, 9]) (fuel := 2) (by kernel_rfl) (fun c d v a w h => by cases d <;> exact h) (by kernel_rfl) (Since.drew _) (fun K hK => ?_)
  refine calm_do (.pointer (some ⟨g, 4, none⟩)) rfl (by rfl) (fun w' hw' => ?_) ?_
  · skip
    go_simp
  go_simp
  refine calm_do (.int .i64 f) rfl (by rfl) (fun w' hw' => ?_) ?_
  · have gb' := gb.below hw' (Nat.le_refl _)
    obtain ⟨_, c0, c1, c2, c3, c4⟩ := gb'
    go_simp
  go_simp
  refine calm_move _ rfl (by rfl) rfl ?_
  go_simp
  refine calm_do (.pointer (some ⟨g, 3, none⟩)) rfl (by rfl) (fun w' hw' => ?_) ?_
  · skip
    go_simp
  go_simp
  refine calm_do (.int .i64 n) rfl (by rfl) (fun w' hw' => ?_) ?_
  · have gb' := gb.below hw' (Nat.le_refl _)
    obtain ⟨_, c0, c1, c2, c3, c4⟩ := gb'
    go_simp
  go_simp
  refine calm_do (.slice (some ⟨rb, off + F, none⟩) n (cap - F)) rfl (by rfl) (fun w' hw' => ?_) ?_
  · have e1 : (n : Int) ≤ ((cap - F : Nat) : Int) := by omega
    go_simp
  go_simp
  refine calm_move _ rfl (by rfl) rfl ?_
  go_simp
  refine calm_do (.pointer (some ⟨g, 3, none⟩)) rfl (by rfl) (fun w' hw' => ?_) ?_
  · skip
    go_simp
  go_simp
  refine calm_do (.int .i64 n) rfl (by rfl) (fun w' hw' => ?_) ?_
  · have gb' := gb.below hw' (Nat.le_refl _)
    obtain ⟨_, c0, c1, c2, c3, c4⟩ := gb'
    go_simp
  go_simp
  refine calm_do (.slice (some ⟨rb, off + F + n, none⟩) (W - n) (cap - F - n)) rfl (by rfl) (fun w' hw' => ?_) ?_
  · have e1 : (n : Int) ≤ (W : Int) := by omega
    have e3 : ¬ cap - F = n := by have := HWN.out; omega
    go_simp
  go_simp
  refine calm_nil (hK.out _ ?_)
  clear hK K
  refine held_call (i := 10) (fuel := 1) (by kernel_rfl) rfl (by rfl) (fun K hK => ?_)
  go_simp
  have qd := Since.drew w1
  replace gb := gb.below qd (Nat.le_refl _)
  replace sb := sb.below qd (Nat.le_refl _)
  replace rc := rc.below qd (Nat.le_refl _)
  replace r1 := r1.below qd (Nat.le_refl _)
  replace r2 := r2.below qd (Nat.le_refl _)
  replace q1 := btrans q1 qd
  clear qd
  refine (refWord_any f _ _ _ _ _ _ xs ms _ hf2.2 r1 b1 r2 b2 (by rw [HWN.out]; exact hl13) (by omega) (by rw [HWN.out]; omega)).mono ?_
  rintro e w2 ⟨a7, cp7, rfl, r7, qq0⟩
  refine hK _ _ (Since.trans (Since.drew _) qq0) ?_
  have qq : Since _ _ := qq0
  clear hK K qq0
  replace gb := gb.below qq (Nat.le_refl _)
  replace sb := sb.below qq (Nat.le_refl _)
  replace rc := rc.below qq (Nat.le_refl _)
  replace r1 := r1.below qq (Nat.le_refl _)
  replace r2 := r2.below qq (Nat.le_refl _)
  replace q1 := btrans q1 qq
  clear qq
  clear r1 r2
  refine held_reads (rs := [11]) (fuel := 0) (by kernel_rfl) (fun c d v a w h => by cases d <;> exact h) (by kernel_rfl) (Since.refl _) (fun K hK => ?_)
  go_simp
  refine calm_assign _ rfl (by rfl) rfl ?_
  go_simp
  refine calm_nil (hK.out _ ?_)
  clear hK K
  refine wpAnyH_done (by kernel_rfl) ?_ _
  go_wp2_with fail
  refine held_begin (by kernel_rfl) ?_
  refine held_reads (rs := [0, 1, 2, 3, 4, 5, 6, 7, 8, 12, 13]) (fuel := 5) (by kernel_rfl) (fun c d v a w h => by cases d <;> exact h) (by kernel_rfl) (Since.drew _) (fun K hK => ?_)
  refine calm_move _ rfl (by rfl) rfl ?_
  go_simp
  refine calm_do (.pointer (some ⟨g, 4, none⟩)) rfl (by rfl) (fun w' hw' => ?_) ?_
  · skip
    go_simp
  go_simp
  refine calm_do (.int .i64 f) rfl (by rfl) (fun w' hw' => ?_) ?_
  · have gb' := gb.below hw' (Nat.le_refl _)
    obtain ⟨_, c0, c1, c2, c3, c4⟩ := gb'
    go_simp
  go_simp
  refine calm_do (.pointer (some ⟨g2, 0, none⟩)) rfl (by rfl) (fun w' hw' => ?_) ?_
  · skip
    go_simp
  go_simp
  refine calm_do (.slice ac n cc) rfl (by rfl) (fun w' hw' => ?_) ?_
  · have sb' := sb.below hw' (Nat.le_refl _)
    obtain ⟨_, s0, s1, s2⟩ := sb'
    go_simp
  go_simp
  refine calm_do (.pointer (some ⟨g, 4, none⟩)) rfl (by rfl) (fun w' hw' => ?_) ?_
  · skip
    go_simp
  go_simp
  refine calm_do (.int .i64 f) rfl (by rfl) (fun w' hw' => ?_) ?_
  · have gb' := gb.below hw' (Nat.le_refl _)
    obtain ⟨_, c0, c1, c2, c3, c4⟩ := gb'
    go_simp
  go_simp
  refine calm_do (.pointer (some ⟨g2, 0, none⟩)) rfl (by rfl) (fun w' hw' => ?_) ?_
  · skip
    go_simp
  go_simp
  refine calm_do (.slice ac n cc) rfl (by rfl) (fun w' hw' => ?_) ?_
  · have sb' := sb.below hw' (Nat.le_refl _)
    obtain ⟨_, s0, s1, s2⟩ := sb'
    go_simp
  go_simp
  refine calm_do (.pointer (some ⟨g2, 1, none⟩)) rfl (by rfl) (fun w' hw' => ?_) ?_
  · skip
    go_simp
  go_simp
  refine calm_do (.int .i64 (cn : Int)) rfl (by rfl) (fun w' hw' => ?_) ?_
  · have sb' := sb.below hw' (Nat.le_refl _)
    obtain ⟨_, s0, s1, s2⟩ := sb'
    go_simp
  go_simp
  refine calm_nil (hK.out _ ?_)
  clear hK K
  refine held_call (i := 9) (fuel := 4) (by kernel_rfl) rfl (by rfl) (fun K hK => ?_)
  go_simp
  have qd := Since.drew w2
  replace gb := gb.below qd (Nat.le_refl _)
  replace sb := sb.below qd (Nat.le_refl _)
  replace rc := rc.below qd (Nat.le_refl _)
  replace r7 := r7.below qd (Nat.le_refl _)
  replace q1 := btrans q1 qd
  clear qd
  refine (refEncode_any f _ _ _ cd _ hf2.2 rc bd (by omega)).mono ?_
  rintro e w3 ⟨zE, aE, cE, hzE, rfl, rE, qq0⟩
  refine hK _ _ (Since.trans (Since.drew _) qq0) ?_
  have qq : Since _ _ := qq0
  clear hK K qq0
  replace gb := gb.below qq (Nat.le_refl _)
  replace sb := sb.below qq (Nat.le_refl _)
  replace rc := rc.below qq (Nat.le_refl _)
  replace r7 := r7.below qq (Nat.le_refl _)
  replace q1 := btrans q1 qq
  clear qq
  obtain rfl := enc_unique hf2.2 hzE HEN.out
  clear hzE
  have HEL : Hid (zE.length = m) := by show _ = _; rw [HEN.out.len, HMM.out]
  have bE := HEN.out.isB
  rw [HEL.out] at rE ⊢
  refine held_call (i := 10) (fuel := 3) (by kernel_rfl) rfl (by rfl) (fun K hK => ?_)
  go_simp
  refine (refWord_any f _ _ _ _ _ _ cd zE _ hf2.2 rc bd rE bE hl13 (by omega) (by omega)).mono ?_
  rintro e w4 ⟨a8, cp8, rfl, r8, qq0⟩
  refine hK _ _ (Since.trans (Since.refl _) qq0) ?_
  have qq : Since _ _ := qq0
  clear hK K qq0
  replace gb := gb.below qq (Nat.le_refl _)
  replace sb := sb.below qq (Nat.le_refl _)
  replace rc := rc.below qq (Nat.le_refl _)
  replace r7 := r7.below qq (Nat.le_refl _)
  replace rE := rE.below qq (Nat.le_refl _)
  replace q1 := btrans q1 qq
  clear qq
  refine held_call (i := 11) (fuel := 2) (by kernel_rfl) rfl (by rfl) (fun K hK => ?_)
  go_simp
  refine (refApartW_any _ _ _ _ _ (wordL f xs ms) (wordL f cd zE) _ r7 r8 (by omega)).mono ?_
  rintro e w5 ⟨rfl, qq0⟩
  refine hK _ _ (Since.trans (Since.refl _) qq0) ?_
  have qq : Since _ _ := qq0
  clear hK K qq0
  replace gb := gb.below qq (Nat.le_refl _)
  replace sb := sb.below qq (Nat.le_refl _)
  replace rc := rc.below qq (Nat.le_refl _)
  replace r7 := r7.below qq (Nat.le_refl _)
  replace rE := rE.below qq (Nat.le_refl _)
  replace r8 := r8.below qq (Nat.le_refl _)
  replace q1 := btrans q1 qq
  clear qq
  rw [HFAR.out]
  refine held_reads (rs := [14, 15]) (fuel := 0) (by kernel_rfl) (fun c d v a w h => by cases d <;> exact h) (by kernel_rfl) (Since.refl _) (fun K hK => ?_)
  go_simp
  refine calm_do (.bool true) rfl (by rfl) (fun w' hw' => ?_) ?_
  · go_simp
  go_simp
  refine calm_assign _ rfl (by rfl) rfl ?_
  go_simp
  refine calm_nil (hK.out _ ?_)
  clear hK K
  refine wpAnyH_done (by kernel_rfl) ?_ _
  go_wp2
  go_ret
  exact ⟨rfl, q1⟩

end Go.Proofs.Ytaabgfameegomaa
