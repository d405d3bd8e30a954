/-
  The document's answer of layer 6 (casemateref06): Marked, Near. (Written by tools/gen/ecc_ref3.py.)
-/
import Derived.Test.YtggpgdaacbmmdaaGreatEccRef
import Derived.Test.YtggpgdaacbmmdaaGreatEccCode6
namespace Go.Proofs.YtggpgdaacbmmdaaGreat
open Go.RowKit
set_option linter.unusedVariables false
set_option maxRecDepth 8192

/-- How many of the first k bits are 0. -/
def nouTo (z : List Int) : Nat → Int
  | 0 => 0
  | k + 1 => nouTo z k + 1 - bitI z k
theorem nouTo_eq (z : List Int) (k : Nat) : nouTo z k = (k : Int) - onesTo z k := by
  induction k with
  | zero => rfl
  | succ k ih => simp only [nouTo]; rw [ih, onesTo_succ]; omega
theorem nouTo_bd (z : List Int) (k : Nat) : 0 ≤ nouTo z k ∧ nouTo z k ≤ k := by
  have := onesTo_bd z k
  rw [nouTo_eq]
  omega

set_option maxHeartbeats 3200000 in
set_option maxRecDepth 100000 in
theorem refMarked_any {b p : Int} {s n f R m W L : Nat} (G : GOk b p s n f R m W L) (a : Option Addr) (cap : Nat) (z : List Int) (w : World) (rz : Row .u8 w a L cap z) (bz : IsB z) (er : Int) (HER : Hid (er = if z[L - 1]?.getD 0 = 0 then 0 else if z[L - 1]?.getD 0 = 255 ∧ blankTo f z W s = true then 61 else 60)) :
    Calls Tryz.prog 70 #[.agg #[.int .i64 b, .int .i64 p, .int .i64 ((s : Nat)), .int .i64 ((n : Nat)), .int .i64 ((f : Nat))], .slice a L cap] w fun e w' => e = .returned (.int .i64 er) ∧ Below w.heap.size w w' := by
  have hs2 := G.hs
  have hn2 := G.hn
  have hf2 := G.hf
  have hW2 := G.W2
  have hL2 := G.L2
  have hrc := rz.hcap
  have hrm := rz.hmax
  have HZL : Hid (z.length = L) := rz.hlen
  have hxs : ∃ rb off, a = some ⟨rb, off, none⟩ := by
    obtain ⟨rb, off, h, _⟩ := rz.hcell (by omega)
    exact ⟨rb, off, h⟩
  obtain ⟨rb, off, rfl⟩ := hxs
  have hsec : ∀ i, i < s → ∀ w : World, _ := fun i hi => refSector_any G hi rb off L cap hrc hrm
  have HAT : Hid (∀ i, i < s → i * W + W + 1 ≤ L) := fun i hi => G.at_ hi
  clear G
  have u1 : IntKind.i64.wrap ((L : Int) - 1) = ((L - 1 : Nat) : Int) := by rw [IntKind.wrap_i64]; omega
  have u2 : (L : Int) - 1 = ((L - 1 : Nat) : Int) := by omega
  have hz1 := bz _ (mem_getD z (L - 1) (by rw [HZL.out]; omega))
  have hrz := rz
  obtain ⟨b', off', he, hbs, hcell⟩ := hrz.hcell (by omega)
  simp only [Option.some.injEq, Addr.mk.injEq, and_true] at he
  obtain ⟨rfl, rfl⟩ := he
  have hc := hcell (L - 1) (by omega)
  clear hcell hrz
  have hc0 := (below_one w (.cells #[.int .i64 b, .int .i64 p, .int .i64 s, .int .i64 n, .int .i64 f] 23)).cell (p := ⟨rb, off + (L - 1), none⟩) hbs
  rw [hc] at hc0
  clear hc
  generalize hzl : z[L - 1]?.getD 0 = zl at *
  clear hzl
  generalize hLL : L - 1 = L1 at *
  clear hLL
  by_cases h0 : zl = 0
  case pos =>
    have HE : Hid (er = 0) := by show _ = _; rw [HER.out, if_pos h0]
    subst h0
    go_enter Tryz.func70, Tryz.ntmps70
    go_wp2_with fail
    go_ret
    exact ⟨by rw [HE.out]; rfl, below_one _ _⟩
  have b0 : (zl == 0) = false := by simpa using h0
  by_cases h255 : zl = 255
  case neg =>
    have HE : Hid (er = 60) := by show _ = _; rw [HER.out, if_neg h0, if_neg (fun h => h255 h.1)]
    have b1 : (zl != 255) = true := by simpa using h255
    go_enter Tryz.func70, Tryz.ntmps70
    go_wp2_with fail
    go_ret
    exact ⟨by rw [HE.out]; rfl, below_one _ _⟩
  subst h255
  have HE1 : Hid (er = if blankTo f z W s = true then 61 else 60) := by show _ = _; rw [HER.out]; simp
  clear HER h0 b0
  go_enter Tryz.func70, Tryz.ntmps70
  go_wp2_with fail
  have gb := gbox_new w 23 b p s n f
  have q0 := below_one w (.cells #[.int .i64 b, .int .i64 p, .int .i64 s, .int .i64 n, .int .i64 f] 23)
  generalize w.alloc (.cells #[.int .i64 b, .int .i64 p, .int .i64 s, .int .i64 n, .int .i64 f] 23) = w0 at *
  generalize hgg : w.heap.size = g at gb
  replace rz := rz.below q0 (Nat.le_refl _)
  clear hc0 hbs u1 u2 hz1
  go_loopw [6] (fun y wr => ∃ i : Nat, i ≤ s ∧ y = .int .i64 i ∧ blankTo f z W i = true ∧ Below w0.heap.size w0 wr) (fun y _ => s - (intOf y).toNat)
  case atStart => exact ⟨0, Nat.zero_le _, rfl, rfl, Below.refl _ _⟩
  case round =>
    obtain ⟨i, hi, rfl, hbl, q⟩ := hrel
    have HBL : Hid (blankTo f z W i = true) := hbl
    clear hbl
    have gb1 := gb.below q (Nat.le_refl _)
    have gb2 := gb1
    obtain ⟨_, c0, c1, c2, c3, c4⟩ := gb2
    by_cases hlt : i < s
    case neg =>
      have e : i = s := by omega
      subst e
      have HE2 : Hid (er = 61) := by show _ = _; rw [HE1.out, HBL.out]; rfl
      go_wp2_with fail
      go_ret
      exact ⟨by rw [HE2.out]; rfl, btrans q0 q⟩
    have u5 : (i : Int) < (s : Int) := by omega
    have hat := HAT.out i hlt
    go_wp2_with fail
    refine (hsec i hlt _).mono ?_
    rintro e w1 ⟨rfl, qq⟩
    replace q := btrans q qq
    clear qq c0 c1 c2 c3 c4 gb1
    have rs := row_part (rz.below q (Nat.le_refl _)) (i * W) W (cap - i * W) (by omega) (by omega) (by omega)
    have bs := isB_part bz (i * W) W
    have hall := all_any _ _ _ _ w1 rs bs (by omega)
    have HNN : Hid (nouN z W i = nouTo (part z (i * W) W) (8 * W)) := by show _ = _; rw [nouTo_eq]; unfold nouN; omega
    clear rs bs
    generalize part z (i * W) W = zi at *
    generalize cap - i * W = cp at *
    generalize off + i * W = ofs at *
    go_wp2_with fail
    refine hall.mono ?_
    rintro e w2 ⟨v, rfl, ownb, qq⟩
    clear hall
    have qw := btrans q qq
    clear qq q
    obtain ⟨ab, cb, rfl, rb1⟩ := row_of_owns ownb
    clear ownb
    go_wp2_with fail
    go_loop [8, 9] (fun x y => ∃ k : Nat, k ≤ 8 * W ∧ y = .int .i64 k ∧ x = .int .i64 (nouTo zi k)) (fun _ y => 8 * W - (intOf y).toNat)
    case atStart => exact ⟨0, Nat.zero_le _, rfl, rfl⟩
    case round =>
      obtain ⟨k, hk, rfl, rfl⟩ := hrel
      by_cases hk2 : k < 8 * W
      · obtain ⟨b2, o2, rfl, hb2, hcb⟩ := rb1.hcell (by omega)
        have hcc := hcb k hk2
        rw [bitsTo_at zi (8 * W) k hk2] at hcc
        clear hcb
        have hbit := bitI_01 zi k
        have hbd := nouTo_bd zi k
        have HS : Hid (nouTo zi (k + 1) = nouTo zi k + 1 - bitI zi k) := rfl
        generalize nouTo zi k = nk at *
        generalize bitI zi k = bk at *
        have u6 : (k : Int) < 8 * (W : Int) := by omega
        go_wp2
        go_round
        case rel => exact ⟨k + 1, by omega, by go_num, by rw [HS.out]⟩
        case measure => simp [intOf]; omega
      · have e : k = 8 * W := by omega
        subst e
        obtain ⟨_, c0, c1, c2, c3, c4⟩ := gb.below qw (Nat.le_refl _)
        rw [← HNN.out]
        have hbd := nou_bd z W i
        have u6 : ¬ ((8 * W : Nat) : Int) < 8 * (W : Int) := by omega
        by_cases hbig : nouN z W i ≤ (f : Int)
        · have HNX : Hid (blankTo f z W (i + 1) = true) := by show _ = _; unfold blankTo; rw [HBL.out]; simp [hbig]
          generalize nouN z W i = nz at *
          have v2 : ¬ (f : Int) < nz := by omega
          go_wp2_with fail
          go_roundw
          case rel => exact ⟨i + 1, by omega, by go_num, HNX.out, qw⟩
          case measure => simp [intOf]; omega
        · have HE2 : Hid (er = 60) := by show _ = _; rw [HE1.out, blankTo_no hlt hbig]; rfl
          generalize nouN z W i = nz at *
          have v2 : (f : Int) < nz := by omega
          go_wp2_with fail
          go_ret
          exact ⟨by rw [HE2.out]; rfl, by first | exact btrans q0 qw | (rw [← hgg]; exact btrans q0 qw)⟩
/-- A sector's answer lies in the block g. -/
structure SBox (w : World) (g : Nat) (a : Option Addr) (l c : Nat) (n e : Int) : Prop where
  lt : g < w.heap.size
  c0 : w.cell? ⟨g, 0, none⟩ = some (.slice a l c)
  c1 : w.cell? ⟨g, 1, none⟩ = some (.int .i64 n)
  c2 : w.cell? ⟨g, 2, none⟩ = some (.int .i64 e)
theorem SBox.below {w w' : World} {g B : Nat} {a : Option Addr} {l c : Nat} {n e : Int} (h : SBox w g a l c n e) (hb : Below B w w') (hB : w.heap.size ≤ B) : SBox w' g a l c n e := by
  have hlt := h.lt
  refine ⟨by have := hb.size; omega, ?_, ?_, ?_⟩
  · rw [hb.cell (by show g < B; omega)]; exact h.c0
  · rw [hb.cell (by show g < B; omega)]; exact h.c1
  · rw [hb.cell (by show g < B; omega)]; exact h.c2
theorem sbox_new (w : World) (T : TypeId) (a : Option Addr) (l c : Nat) (n e : Int) : SBox (w.alloc (.cells #[.slice a l c, .int .i64 n, .int .i64 e] T)) w.heap.size a l c n e := by
  refine ⟨by simp, ?_, ?_, ?_⟩ <;> (rw [World.cell?_alloc_at _ _ _ _ rfl]; rfl)

end Go.Proofs.YtggpgdaacbmmdaaGreat
