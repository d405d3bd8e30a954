/-
  The code of layer 6 (ecc), as it landed: Unpack. (Written by tools/gen/ecc_unpack.py.)
-/
import Derived.Test.YtaabgfameegomaaEccCode4
namespace Go.Proofs.Ytaabgfameegomaa
open Go.RowKit
set_option linter.unusedVariables false
set_option maxRecDepth 8192

/-- The sector c lies in the block g, as its j-th. -/
def SecAt (w : World) (g j : Nat) (c : Sec) : Prop := g < w.heap.size ∧ ∃ a cap, w.cell? ⟨g, j * 3, none⟩ = some (.slice a c.d.length cap) ∧ w.cell? ⟨g, j * 3 + 1, none⟩ = some (.int .i64 (c.n : Int)) ∧ w.cell? ⟨g, j * 3 + 2, none⟩ = some (.int .i64 c.e) ∧ Row .u8 w a c.d.length cap c.d
theorem SecAt.below {w w' : World} {g j B : Nat} {c : Sec} (h : SecAt w g j c) (hb : Below B w w') (hB : w.heap.size ≤ B) : SecAt w' g j c := by
  obtain ⟨hg, a, cap, h0, h1, h2, hr⟩ := h
  refine ⟨by have := hb.size; omega, a, cap, ?_, ?_, ?_, hr.below hb hB⟩
  · rw [hb.cell (by show g < B; omega)]; exact h0
  · rw [hb.cell (by show g < B; omega)]; exact h1
  · rw [hb.cell (by show g < B; omega)]; exact h2
/-- A block of sectors that is being filled: no bytes in it. -/
structure SecBlk (w : World) (g s : Nat) (T : TypeId) (i : Nat) (S : Nat → Sec) : Prop where
  blk : ∃ cs : Array Value, w.heap[g]? = some (.cells cs T (0, 0)) ∧ cs.size = 3 * s ∧ ∀ (q : Nat) (x : Int), cs[q]? ≠ some (Value.int .u8 x)
  sec : ∀ j, j < i → SecAt w g j (S j)
theorem SecBlk.below {w w' : World} {g s B i : Nat} {T : TypeId} {S : Nat → Sec} (h : SecBlk w g s T i S) (hb : Below B w w') (hB : w.heap.size ≤ B) : SecBlk w' g s T i S := by
  obtain ⟨⟨cs, h1, h2, h3⟩, h4⟩ := h
  have := lt_of_block h1
  exact ⟨⟨cs, block_below h1 hb (by omega), h2, h3⟩, fun j hj => (h4 j hj).below hb hB⟩
theorem set_noU8 {cs : Array Value} (h : ∀ (q : Nat) (x : Int), cs[q]? ≠ some (Value.int .u8 x)) (i : Nat) (v : Value) (hv : ∀ x, v ≠ Value.int .u8 x) : ∀ (q : Nat) (x : Int), (cs.setIfInBounds i v)[q]? ≠ some (Value.int .u8 x) := by
  intro q x
  rw [Array.getElem?_setIfInBounds]
  split
  · split
    · intro e; exact hv x (Option.some.inj e)
    · simp
  · exact h q x
theorem cell_far {w : World} {g i k : Nat} {v : Value} (h : i ≠ k) : (w.setCell ⟨g, i, none⟩ v).cell? ⟨g, k, none⟩ = w.cell? ⟨g, k, none⟩ := World.cell?_setCell_other _ _ _ _ (by intro e; exact h (Addr.mk.inj e).2.1)
theorem SecAt.set3 {w : World} {g j i : Nat} {c : Sec} (h : SecAt w g j c) (u v x : Value) (hij : j ≠ i) {cs : Array Value} {T : TypeId} (hb : w.heap[g]? = some (.cells cs T (0, 0))) (hn : ∀ (q : Nat) (y : Int), cs[q]? ≠ some (Value.int .u8 y)) :
    SecAt (((w.setCell ⟨g, i * 3, none⟩ u).setCell ⟨g, i * 3 + 1, none⟩ v).setCell ⟨g, i * 3 + 2, none⟩ x) g j c := by
  obtain ⟨hg, a, cap, h0, h1, h2, hr⟩ := h
  refine ⟨by simpa using hg, a, cap, ?_, ?_, ?_, hr.set3 g _ _ _ u v x (fun h0 => hr.apart hb hn h0)⟩
  · rw [cell_far (by omega), cell_far (by omega), cell_far (by omega)]; exact h0
  · rw [cell_far (by omega), cell_far (by omega), cell_far (by omega)]; exact h1
  · rw [cell_far (by omega), cell_far (by omega), cell_far (by omega)]; exact h2
/-- A sector is laid down. -/
theorem SecBlk.next {w : World} {g s i : Nat} {T : TypeId} {S : Nat → Sec} (h : SecBlk w g s T i S) (hi : i < s) (c : Sec) (a : Option Addr) (cap : Nat) (hr : Row .u8 w a c.d.length cap c.d) :
    SecBlk (((w.setCell ⟨g, i * 3, none⟩ (.slice a c.d.length cap)).setCell ⟨g, i * 3 + 1, none⟩ (.int .i64 (c.n : Int))).setCell ⟨g, i * 3 + 2, none⟩ (.int .i64 c.e)) g s T (i + 1) (fun j => if j = i then c else S j) := by
  obtain ⟨⟨cs, h1, h2, h3⟩, h4⟩ := h
  have hb := block_set (i := i * 3 + 2) (block_set (i := i * 3 + 1) (block_set (i := i * 3) h1 (.slice a c.d.length cap)) (.int .i64 (c.n : Int))) (.int .i64 c.e)
  refine ⟨⟨_, hb, by simpa using h2, set_noU8 (set_noU8 (set_noU8 h3 _ _ (by simp)) _ _ (by simp)) _ _ (by simp)⟩, fun j hj => ?_⟩
  by_cases e : j = i
  · subst e
    rw [if_pos rfl]
    refine ⟨by simpa using lt_of_block h1, a, cap, ?_, ?_, ?_, hr.set3 g _ _ _ _ _ _ (fun h0 => hr.apart h1 h3 h0)⟩
    · rw [cell_of_blk hb]; simp [Array.getElem?_setIfInBounds, h2]; omega
    · rw [cell_of_blk hb]; simp [Array.getElem?_setIfInBounds, h2]; omega
    · rw [cell_of_blk hb]; simp [Array.getElem?_setIfInBounds, h2]; omega
  · rw [if_neg e]
    exact (h4 j (by omega)).set3 _ _ _ e h1 h3
theorem SecBlk.cells {w : World} {g s i : Nat} {T : TypeId} {S : Nat → Sec} (h : SecBlk w g s T i S) (hi : i < s) : (∃ v0 v1 v2, w.cell? ⟨g, i * 3, none⟩ = some v0 ∧ w.cell? ⟨g, i * 3 + 1, none⟩ = some v1 ∧ w.cell? ⟨g, i * 3 + 2, none⟩ = some v2) ∧ (∀ q, w.frozen? ⟨g, q, none⟩ = false) ∧ g < w.heap.size := by
  obtain ⟨⟨cs, h1, h2, h3⟩, h4⟩ := h
  refine ⟨⟨cs[i * 3]'(by omega), cs[i * 3 + 1]'(by omega), cs[i * 3 + 2]'(by omega), ?_, ?_, ?_⟩, fun q => unfrozen_of_blk h1 q, lt_of_block h1⟩
  · rw [cell_of_blk h1, Array.getElem?_eq_getElem]
  · rw [cell_of_blk h1, Array.getElem?_eq_getElem]
  · rw [cell_of_blk h1, Array.getElem?_eq_getElem]
theorem made_secs (n : Nat) : ∀ (q : Nat) (x : Int), (madeCells (Value.agg #[.slice none 0 0, .int .i64 0, .int .i64 0]).cells (n * 3))[q]? ≠ some (Value.int .u8 x) := by
  intro q x
  unfold madeCells
  simp only [Value.cells, Array.getElem?_map, Array.getElem?_range]
  split
  · have : q % 3 = 0 ∨ q % 3 = 1 ∨ q % 3 = 2 := by omega
    rcases this with h | h | h <;> simp [h]
  · simp
theorem secblk_new {w : World} {base g s : Nat} {T : TypeId} (h : w.ownsRow base T 3 (.slice (some ⟨g, 0, none⟩) s s) s (madeCells (Value.agg #[.slice none 0 0, .int .i64 0, .int .i64 0]).cells (s * 3)).toList) (S : Nat → Sec) : SecBlk w g s T 0 S := by
  rcases h.2 with ⟨h', _⟩ | ⟨g', cap', cur, h', _, hg, _, _, hcs, htake⟩
  · simp at h'
  · simp only [Value.slice.injEq, Option.some.injEq, Addr.mk.injEq, and_true, true_and] at h'
    obtain ⟨rfl, rfl⟩ := h'
    rw [List.take_of_length_le (by simp; omega)] at htake
    have e : cur = madeCells (Value.agg #[.slice none 0 0, .int .i64 0, .int .i64 0]).cells (s * 3) := by apply Array.ext'; exact htake
    subst e
    exact ⟨⟨_, hg, by rw [size_madeCells]; omega, made_secs s⟩, fun j hj => absurd hj (by omega)⟩

theorem Try.info44 : (Try.prog.info? 44).map (fun i => (i.zero, i.size, i.bytes)) = some (some (.agg #[.slice none 0 0, .int .i64 0, .int .i64 0]), 3, 40) := by kernel_rfl
theorem eccUnpack_no (b p s n f : Int) (a : Option Addr) (len cap : Nat) (w : World) (hm : mayG b p s n f = false) : Calls Try.prog 19 #[.agg #[.int .i64 b, .int .i64 p, .int .i64 s, .int .i64 n, .int .i64 f], .slice a len cap] w fun e w' => e = .returned (.tuple #[.slice none 0 0, .int .i64 1]) ∧ Below w.heap.size w w' := by
  go_enter Try.func19, Try.ntmps19
  go_wp2_with fail
  refine (eccMayBe_any b p s n f _).mono ?_
  rintro e w1 ⟨rfl, q1⟩
  rw [hm]
  go_wp2_with fail
  go_ret2
  exact ⟨rfl, btrans (below_one _ _) q1⟩
theorem eccUnpack_len (hB : HBitsC) {b p : Int} {s n f R m W L : Nat} (G : GOk b p s n f R m W L) (a : Option Addr) (len cap : Nat) (w : World) (hne : len ≠ L) : Calls Try.prog 19 #[.agg #[.int .i64 b, .int .i64 p, .int .i64 ((s : Nat)), .int .i64 ((n : Nat)), .int .i64 ((f : Nat))], .slice a len cap] w fun e w' => e = .returned (.tuple #[.slice none 0 0, .int .i64 1]) ∧ Below w.heap.size w w' := by
  have HM : Hid (mayG b p s n f = true) := G.may
  have hraw := rawBytes_any hB G
  have hq : (((len : Nat) : Int) != (L : Int)) = true := by simp; omega
  go_enter Try.func19, Try.ntmps19
  go_wp2_with fail
  refine (eccMayBe_any b p s n f _).mono ?_
  rintro e w1 ⟨rfl, q1⟩
  rw [HM.out]
  obtain ⟨_, c0, c1, c2, c3, c4⟩ := (gbox_new w 23 b p s n f).below q1 (Nat.le_refl _)
  go_wp2_with fail
  refine (hraw _).mono ?_
  rintro e w2 ⟨rfl, q2⟩
  go_wp2_with fail
  go_ret2
  exact ⟨rfl, btrans (btrans (below_one _ _) q1) q2⟩
set_option maxHeartbeats 1600000 in
theorem eccUnpack_mark (hB : HBitsC) {b p : Int} {s n f R m W L : Nat} (G : GOk b p s n f R m W L) (a : Option Addr) (cap : Nat) (z : List Int) (w : World) (rz : Row .u8 w a L cap z) (bz : IsB z) (hmk : z[L - 1]?.getD 0 ≠ 0) (er : Int) (HER : Hid (er = if z[L - 1]?.getD 0 = 255 ∧ blankTo f z W s = true then 61 else 60)) :
    Calls Try.prog 19 #[.agg #[.int .i64 b, .int .i64 p, .int .i64 ((s : Nat)), .int .i64 ((n : Nat)), .int .i64 ((f : Nat))], .slice a L cap] w fun e w' => e = .returned (.tuple #[.slice none 0 0, .int .i64 er]) ∧ Below w.heap.size w w' := by
  have HM : Hid (mayG b p s n f = true) := G.may
  have hraw := rawBytes_any hB G
  have hs2 := G.hs
  have hn2 := G.hn
  have hf2 := G.hf
  have hm2 := G.m2
  have hL2 := G.L2
  have HW : Hid (n + m = W) := G.hW
  have HMM : Hid ((13 * f + 7) / 8 = m) := G.hm
  have HZL : Hid (z.length = L) := rz.hlen
  have hrc := rz.hcap
  have hrm := rz.hmax
  have hxs : ∃ rb off, a = some ⟨rb, off, none⟩ := by
    obtain ⟨rb, off, h, _⟩ := rz.hcell (by omega)
    exact ⟨rb, off, h⟩
  obtain ⟨rb, off, rfl⟩ := hxs
  have hbl := fun (rb off : Nat) (w : World) (rz : Row .u8 w (some ⟨rb, off, none⟩) L cap z) (h : z[L - 1]?.getD 0 = 255) => blank_any hB G rb off cap z w rz bz h
  have hbn := fun (rb off : Nat) (w : World) (rz : Row .u8 w (some ⟨rb, off, none⟩) L cap z) (h : z[L - 1]?.getD 0 ≠ 255) => blank_not G rb off cap z w rz bz h
  clear G
  go_enter Try.func19, Try.ntmps19
  go_wp2_with fail
  have gb := gbox_new w 23 b p s n f
  have q0 := below_one w (.cells #[.int .i64 b, .int .i64 p, .int .i64 s, .int .i64 n, .int .i64 f] 23)
  generalize w.alloc (.cells #[.int .i64 b, .int .i64 p, .int .i64 s, .int .i64 n, .int .i64 f] 23) = w0 at *
  generalize hgg : w.heap.size = g at gb
  refine (eccMayBe_any b p s n f _).mono ?_
  rintro e w1 ⟨rfl, q1⟩
  rw [HM.out]
  replace gb := gb.below q1 (Nat.le_refl _)
  replace q0 := btrans q0 q1
  clear q1 HM
  have gb1 := gb
  obtain ⟨_, c0, c1, c2, c3, c4⟩ := gb1
  go_wp2_with fail
  refine (hraw _).mono ?_
  rintro e w2 ⟨rfl, q1⟩
  replace gb := gb.below q1 (Nat.le_refl _)
  replace q0 := btrans q0 q1
  clear q1 c0 c1 c2 c3 c4 hraw
  replace rz := rz.below q0 (Nat.le_refl _)
  obtain ⟨b', off', he, hbs, hcell⟩ := rz.hcell (by omega)
  simp only [Option.some.injEq, Addr.mk.injEq, and_true] at he
  obtain ⟨rfl, rfl⟩ := he
  have hcl := hcell (L - 1) (by omega)
  clear hcell
  have hz1 := bz _ (mem_getD z (L - 1) (by rw [HZL.out]; omega))
  have u1 : IntKind.i64.wrap ((L : Int) - 1) = ((L - 1 : Nat) : Int) := by rw [IntKind.wrap_i64]; omega
  have u2 : (L : Int) - 1 = ((L - 1 : Nat) : Int) := by omega
  have gb1 := gb
  obtain ⟨_, c0, c1, c2, c3, c4⟩ := gb1
  have hbl1 := hbl rb off w2 rz
  have hbn1 := hbn rb off w2 rz
  clear hbl hbn
  have HZ : Hid (z[L - 1]?.getD 0 = z[L - 1]?.getD 0) := rfl
  generalize z[L - 1]?.getD 0 = zl at *
  clear HZ
  have hne : (zl != 0) = true := by simpa using hmk
  have hne2 : ¬ zl = 0 := hmk
  generalize L - 1 = L1 at *
  by_cases h255 : zl = 255
  · have hcc := hbl1 h255
    cases hbl : blankTo f z W s
    · have HE : Hid (er = 60) := by show _ = _; rw [HER.out, hbl]; simp
      rw [hbl] at hcc
      clear hbl1 hbn1 h255 HER
      go_wp2_with fail
      refine hcc.mono ?_
      rintro e w3 ⟨rfl, q3⟩
      go_wp2_with fail
      go_ret2
      exact ⟨by rw [HE.out]; rfl, btrans q0 q3⟩
    · have HE : Hid (er = 61) := by show _ = _; rw [HER.out, hbl]; simp [h255]
      rw [hbl] at hcc
      clear hbl1 hbn1 h255 HER
      go_wp2_with fail
      refine hcc.mono ?_
      rintro e w3 ⟨rfl, q3⟩
      go_wp2_with fail
      go_ret2
      exact ⟨by rw [HE.out]; rfl, btrans q0 q3⟩
  · have hcc := hbn1 h255
    have HE : Hid (er = 60) := by show _ = _; rw [HER.out]; simp [h255]
    clear hbl1 hbn1 HER
    go_wp2_with fail
    refine hcc.mono ?_
    rintro e w3 ⟨rfl, q3⟩
    go_wp2_with fail
    go_ret2
    exact ⟨by rw [HE.out]; rfl, btrans q0 q3⟩

set_option maxHeartbeats 3200000 in
set_option maxRecDepth 100000 in
theorem eccUnpack_yes (hB : HBitsC) {b p : Int} {s n f R m W L : Nat} (G : GOk b p s n f R m W L) (a : Option Addr) (cap : Nat) (z : List Int) (w : World) (rz : Row .u8 w a L cap z) (bz : IsB z) (hD : HDecC) (hmk : z[L - 1]?.getD 0 = 0) :
    Calls Try.prog 19 #[.agg #[.int .i64 b, .int .i64 p, .int .i64 ((s : Nat)), .int .i64 ((n : Nat)), .int .i64 ((f : Nat))], .slice a L cap] w fun e w' => ∃ (S : Nat → Sec) (gs : Nat), (∀ j, j < s → IsSec f (part z (j * W) n) (part z (j * W + n) m) (S j)) ∧ w.heap.size ≤ gs ∧ e = .returned (.tuple #[.slice (some ⟨gs, 0, none⟩) s s, .int .i64 0]) ∧ (∀ j, j < s → SecAt w' gs j (S j)) ∧ Below w.heap.size w w' := by
  have HM : Hid (mayG b p s n f = true) := G.may
  have hraw := rawBytes_any hB G
  have hs2 := G.hs
  have hn2 := G.hn
  have hf2 := G.hf
  have hm2 := G.m2
  have hL2 := G.L2
  have HW : Hid (n + m = W) := G.hW
  have HMM : Hid ((13 * f + 7) / 8 = m) := G.hm
  have HZL : Hid (z.length = L) := rz.hlen
  have hrc := rz.hcap
  have hrm := rz.hmax
  have hxs : ∃ rb off, a = some ⟨rb, off, none⟩ := by
    obtain ⟨rb, off, h, _⟩ := rz.hcell (by omega)
    exact ⟨rb, off, h⟩
  obtain ⟨rb, off, rfl⟩ := hxs
  have hct : ∀ i, i < s → ∀ (rb off : Nat) (w : World), _ := fun i hi rb off => cut_any hB G hi rb off L cap hrc hrm
  have HAT : Hid (∀ i, i < s → i * W + n + m + 1 ≤ L) := fun i hi => by have := G.at_ hi; have := HW.out; omega
  clear G
  obtain ⟨i0, hi0, hz0, hz1, hz2⟩ := info_parts Try.info44
  go_enter Try.func19, Try.ntmps19
  go_wp2_with fail
  have gb := gbox_new w 23 b p s n f
  have q0 := below_one w (.cells #[.int .i64 b, .int .i64 p, .int .i64 s, .int .i64 n, .int .i64 f] 23)
  generalize w.alloc (.cells #[.int .i64 b, .int .i64 p, .int .i64 s, .int .i64 n, .int .i64 f] 23) = w0 at *
  generalize hgg : w.heap.size = g at gb
  refine (eccMayBe_any b p s n f _).mono ?_
  rintro e w1 ⟨rfl, q1⟩
  rw [HM.out]
  replace gb := gb.below q1 (Nat.le_refl _)
  replace q0 := btrans q0 q1
  clear q1 HM
  have gb1 := gb
  obtain ⟨_, c0, c1, c2, c3, c4⟩ := gb1
  go_wp2_with fail
  refine (hraw _).mono ?_
  rintro e w2 ⟨rfl, q1⟩
  replace gb := gb.below q1 (Nat.le_refl _)
  replace q0 := btrans q0 q1
  clear q1 c0 c1 c2 c3 c4 hraw
  replace rz := rz.below q0 (Nat.le_refl _)
  obtain ⟨b', off', he, hbs, hcell⟩ := rz.hcell (by omega)
  simp only [Option.some.injEq, Addr.mk.injEq, and_true] at he
  obtain ⟨rfl, rfl⟩ := he
  have hcl := hcell (L - 1) (by omega)
  clear hcell
  rw [hmk] at hcl
  have u1 : IntKind.i64.wrap ((L : Int) - 1) = ((L - 1 : Nat) : Int) := by rw [IntKind.wrap_i64]; omega
  have u2 : (L : Int) - 1 = ((L - 1 : Nat) : Int) := by omega
  have gb1 := gb
  obtain ⟨_, c0, c1, c2, c3, c4⟩ := gb1
  clear hmk
  generalize L - 1 = L1 at *
  have hq0 := q0.size
  have hsm : s ≤ maxLen := by unfold maxLen; omega
  have hmk : ∀ w1 : World, w1.ownsRow w.heap.size 44 3 (.slice (some ⟨w2.heap.size, 0, none⟩) s s) s (madeCells (Value.agg #[.slice none 0 0, .int .i64 0, .int .i64 0]).cells (s * 3)).toList → w2.grownBy w1 none → SecBlk w1 w2.heap.size s 44 0 (fun _ => ⟨[], 0, 0⟩) ∧ Below w2.heap.size w2 w1 := fun w1 h1 h2 => ⟨secblk_new h1 _, (Below.refl _ _).grown h2 (Nat.le_refl _) (by simp)⟩
  go_wp2_with (at_make; refine wpList_make_full _ rfl _ _ 36 rfl w.heap.size 44 i0 (.agg #[.slice none 0 0, .int .i64 0, .int .i64 0]) 3 Try.underlying36 hi0 hz0 hz1 _ _ _ _ s rfl rfl rfl rfl (by rw [hz2]; omega) hsm hq0 ?_; intro w3 hown3 hgrow3)
  obtain ⟨hsb, qb⟩ := hmk w3 hown3 hgrow3
  clear hmk hown3 hgrow3 c0 c1 c2 c3 c4 u1 u2 hcl hbs
  generalize hgx : w2.heap.size = gs at *
  go_loopw [35] (fun y wr => ∃ (i : Nat) (S : Nat → Sec), i ≤ s ∧ y = .int .i64 i ∧ (∀ j, j < i → IsSec f (part z (j * W) n) (part z (j * W + n) m) (S j)) ∧ SecBlk wr gs s 44 i S ∧ Below gs w2 wr) (fun y _ => s - (intOf y).toNat)
  case atStart => exact ⟨0, _, Nat.zero_le _, rfl, fun j hj => absurd hj (by omega), hsb, qb⟩
  case round =>
    clear hsb qb
    obtain ⟨i, S, hi, rfl, hS, hsb, qb⟩ := hrel
    have HS : Hid (∀ j, j < i → IsSec f (part z (j * W) n) (part z (j * W + n) m) (S j)) := hS
    clear hS
    by_cases hlt : i < s
    case neg =>
      have e : i = s := by omega
      subst e
      have HSB : Hid (SecBlk wr gs i 44 i S) := hsb
      clear hsb
      go_wp2_with fail
      go_ret2
      exact ⟨S, gs, HS.out, hq0, rfl, HSB.out.sec, Below.trans q0 (qb.mono hq0)⟩
    have gb1 := gb.below qb (by rw [hgx]; exact Nat.le_refl _)
    have rz1 := rz.below qb (by rw [hgx]; exact Nat.le_refl _)
    have hat := HAT.out i hlt
    have hc := hct i hlt rb off
    clear hct HAT
    have u5 : (i : Int) < (s : Int) := by omega
    have HSB : Hid (SecBlk wr gs s 44 i S) := hsb
    clear hsb
    have gb2 := gb1
    obtain ⟨_, c0, c1, c2, c3, c4⟩ := gb2
    go_wp2_with fail
    refine (hc _).mono ?_
    rintro e w4 ⟨rfl, q4⟩
    clear hc c0 c1 c2 c3 c4
    have hwr := qb.size
    rw [hgx] at hwr
    replace gb1 := gb1.below q4 (Nat.le_refl _)
    replace rz1 := rz1.below q4 (Nat.le_refl _)
    replace qb := qb.trans (q4.mono hwr)
    have HSB1 : Hid (SecBlk w4 gs s 44 i S) := HSB.out.below q4 (Nat.le_refl _)
    clear q4 HSB
    have ra := row_part rz1 (i * W) n n (by omega) (Nat.le_refl _) (by unfold maxLen; omega)
    have rb1 := row_part rz1 (i * W + n) m m (by omega) (Nat.le_refl _) (by unfold maxLen; omega)
    rw [← Nat.add_assoc] at rb1
    have hsec := sector_any hD f _ _ _ _ _ _ _ _ _ ra (isB_part bz _ _) rb1 (isB_part bz _ _) (by omega) (by omega) (by unfold mayB; rw [decide_eq_true_iff]; have := HMM.out; omega)
    clear ra rb1
    have gb2 := gb1
    obtain ⟨_, c0, c1, c2, c3, c4⟩ := gb2
    go_wp2_with fail
    refine hsec.mono ?_
    rintro e w5 ⟨c, av, cv, hc, rfl, rc, q5⟩
    clear hsec c0 c1 c2 c3 c4
    have hw4 := qb.size
    rw [hgx] at hw4
    replace qb := qb.trans (q5.mono hw4)
    have HSB2 : Hid (SecBlk w5 gs s 44 i S) := HSB1.out.below q5 (Nat.le_refl _)
    clear q5 HSB1
    obtain ⟨⟨v0, v1, v2, k0, k1, k2⟩, kf, kg⟩ := HSB2.out.cells hlt
    have f0 := kf (i * 3)
    have f1 := kf (i * 3 + 1)
    have f2 := kf (i * 3 + 2)
    clear kf
    have HNX : Hid _ := HSB2.out.next hlt c av cv rc
    have HS2 : Hid (∀ j, j < i + 1 → IsSec f (part z (j * W) n) (part z (j * W + n) m) (if j = i then c else S j)) := fun j hj => by
      by_cases e : j = i
      · subst e; rw [if_pos rfl]; exact hc
      · rw [if_neg e]; exact HS.out j (by omega)
    have HQ : Hid _ := ((qb.setCell (show gs ≤ (⟨gs, i * 3, none⟩ : Addr).block from Nat.le_refl _) (.slice av c.d.length cv)).setCell (show gs ≤ (⟨gs, i * 3 + 1, none⟩ : Addr).block from Nat.le_refl _) (.int .i64 (c.n : Int))).setCell (show gs ≤ (⟨gs, i * 3 + 2, none⟩ : Addr).block from Nat.le_refl _) (.int .i64 c.e)
    clear rc hc HSB2 HS qb
    go_wp2_with fail
    go_roundw
    case rel => exact ⟨i + 1, _, by omega, by go_num, HS2.out, HNX.out, HQ.out⟩
    case measure => simp [intOf]; omega

end Go.Proofs.Ytaabgfameegomaa
