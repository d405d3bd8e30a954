/-
  The code of layer 7 (chip), as it landed: blank, page, lay, wipe.
-/
import Derived.Test.YtgamakejaknagaaGreatPackL
namespace Go.Proofs.YtgamakejaknagaaGreat
open Go.RowKit Go.Maps
set_option linter.unusedVariables false
set_option maxRecDepth 8192

/-- A spot in a box. -/
structure SpotBox (w : World) (g : Nat) (x y : Int) : Prop where
  lt : g < w.heap.size
  c0 : w.cell? ⟨g, 0, none⟩ = some (.int .i64 x)
  c1 : w.cell? ⟨g, 1, none⟩ = some (.int .i64 y)
theorem SpotBox.same {w w' : World} {g : Nat} {x y : Int} (h : SpotBox w g x y) (hs : w.heap.size ≤ w'.heap.size) (hb : w'.heap[g]? = w.heap[g]?) : SpotBox w' g x y :=
  ⟨by have := h.lt; omega, (World.cell?_of_block (w := w) hb).trans h.c0, (World.cell?_of_block (w := w) hb).trans h.c1⟩
theorem SpotBox.below {w w' : World} {g : Nat} {x y : Int} (h : SpotBox w g x y) (hb : Below w.heap.size w w') : SpotBox w' g x y := h.same hb.size (hb.block g h.lt)
theorem spotBox_new (w : World) (x y : Int) : SpotBox (w.alloc (.cells #[.int .i64 x, .int .i64 y] 122)) w.heap.size x y := by
  refine ⟨by simp, ?_, ?_⟩ <;> (rw [World.cell?_alloc_at _ _ _ _ rfl]; rfl)

section
variable {G : Geo} {B : CB} {F : Nat → Prop} {N : Nat} {S : CS}

theorem row_ff {w : World} {q L : Nat} (h : w.heap[q]? = some (.cells ((List.replicate L (255 : Int)).map (Value.int .u8)).toArray 5 (0, 0))) (hm : L ≤ maxLen) : Row .u8 w (some ⟨q, 0, none⟩) L L (List.replicate L 255) :=
  isB_rowA (owns_of_heap (base := 0) h (by simp) (Nat.zero_le _) hm)

theorem chipBlank_any (w : World) (h : CellOk G B S w) (hBc : B.c < w.heap.size) :
    Calls Tryz.prog 129 #[.pointer (some ⟨B.c, 0, none⟩)] w fun e w' => ∃ q, w.heap.size ≤ q ∧ e = .returned (.slice (some ⟨q, 0, none⟩) G.L G.L) ∧ w'.heap[q]? = some (.cells ((List.replicate G.L (255 : Int)).map (Value.int .u8)).toArray 5 (0, 0)) ∧ Below w.heap.size w w' := by
  have hL := G.ok.L2
  have hr0 := row_new .u8 w 5 w.heap.size rfl [255] 1 rfl (by unfold maxLen; omega) #[.int .u8 255] rfl
  have q0 := below_one w (.cells #[.int .u8 255] 5)
  have h0 : CellOk G B S (w.alloc (.cells #[.int .u8 255] 5)) := (q0.block _ hBc).trans h
  have HB : Hid (Below w.heap.size w (w.alloc (.cells #[.int .u8 255] 5))) := q0
  clear q0 h
  go_enter Tryz.func129, Tryz.ntmps129
  go_wp2_with fail
  generalize w.alloc (.cells #[.int .u8 255] 5) = w0 at *
  refine (chipSize_any _ h0).mono ?_
  rintro e w1 ⟨rfl, q1⟩
  have hr1 := hr0.below q1 (Nat.le_refl _)
  go_wp2_with fail
  refine (repeat_any _ G.L _ hr1 (by omega) (by omega)).mono ?_
  rintro e w2 ⟨q, hq, rfl, hg, q2⟩
  go_wp2_with fail
  go_ret
  have h1 := HB.out.size
  have h2 := q1.size
  exact ⟨q, by omega, rfl, hg, btrans (btrans HB.out q1) q2⟩

theorem chipPage_any (x y : Int) (hx : I64 x) (hy : I64 y) (w : World) (h : ChipAt G B F N S w) :
    Calls Tryz.prog 110 #[.pointer (some ⟨B.c, 0, none⟩), spotV x y] w fun e w' => ∃ q, e = .returned (.slice (some ⟨q, 0, none⟩) G.L G.L) ∧ Row .u8 w' (some ⟨q, 0, none⟩) G.L G.L (S.pg x y) ∧ Below w.heap.size w w' := by
  obtain ⟨kl, hk⟩ := spot_key hx hy
  have hL := G.ok.L2
  have q0 := below_one w (.cells #[.int .i64 x, .int .i64 y] 122)
  have bx := spotBox_new w x y
  have h0 := h.below q0
  obtain ⟨m, hm, hp⟩ := h0.pages
  have hlk := MapIs.look_ok (w := (w.alloc (.cells #[.int .i64 x, .int .i64 y] 122)).drew) (hm.same rfl) spotKeyed Tryz.underlying66 (Tryz.zeroValue33 _) hk
  have HB : Hid (Below w.heap.size w (w.alloc (.cells #[.int .i64 x, .int .i64 y] 122))) := q0
  obtain ⟨_, hlen, hpg⟩ := hp x y
  have c5 := h0.cell.cells.c5
  have hc := h0.cell
  have hlt := h0.lt
  have HC : Hid (CellOk G B S (w.alloc (.cells #[.int .i64 x, .int .i64 y] 122)).drew) := hc
  clear q0 h hm hp h0 hc
  generalize m (spotV x y) = mv at *
  have b0 := bx.c0
  have b1 := bx.c1
  clear bx
  go_enter Tryz.func110, Tryz.ntmps110
  go_wp2_with fail
  generalize hg0 : w.heap.size = g at b0 b1 ⊢
  have HG0 : Hid (w.heap.size = g) := hg0
  clear hg0
  generalize w.alloc (.cells #[.int .i64 x, .int .i64 y] 122) = w0 at *
  rcases hpg with ⟨rfl, hz⟩ | ⟨q, rfl, _, _, hr⟩
  · have HZ : Hid (S.pg x y = List.replicate G.L 255) := hz
    clear hz hlen
    simp only [Option.getD_none, Option.isSome_none] at hlk
    go_region
    go_wp2_with fail
    refine (chipBlank_any _ HC.out hlt).mono ?_
    rintro e w1 ⟨q, hq, rfl, hg, q1⟩
    go_wp2_with fail
    go_ret
    refine ⟨q, rfl, ?_, ?_⟩
    · rw [HZ.out]; exact row_ff hg (by unfold maxLen; omega)
    · exact btrans HB.out.drew q1
  · have HR : Hid (Row .u8 w0 (some ⟨q, 0, none⟩) G.L G.L (S.pg x y)) := hr
    clear hr hlen
    simp only [Option.getD_some, Option.isSome_some] at hlk
    go_region
    go_wp2_with fail
    go_ret
    exact ⟨q, rfl, HR.out.drewN 1, HB.out.drew⟩
/-- A page is laid. -/
def CS.lay (S : CS) (x y : Int) (z : List Int) : CS :=
  { S with pg := fun b p => if b = x ∧ p = y then z else S.pg b p, nx := fun b => if b = x then max (S.nx x) (y + 1) else S.nx b }
/-- ff behind it. -/
def padF (L : Nat) (z : List Int) : List Int := z ++ List.replicate (L - z.length) 255
theorem padF_len {L : Nat} {z : List Int} (h : z.length ≤ L) : (padF L z).length = L := by unfold padF; simp; omega
theorem isB_padF {L : Nat} {z : List Int} (h : IsB z) : IsB (padF L z) := fun v hv => by
  unfold padF at hv
  rcases List.mem_append.1 hv with hv | hv
  · exact h v hv
  · rw [List.mem_replicate] at hv; rw [hv.2]; decide
theorem padF_copy {L : Nat} {z : List Int} (h : z.length ≤ L) : (List.replicate L (255 : Int)).take 0 ++ z.take (min z.length L) ++ (List.replicate L (255 : Int)).drop (0 + min z.length L) = padF L z := by
  rw [Nat.min_eq_left h, List.take_of_length_le (Nat.le_refl _)]
  unfold padF
  simp

set_option maxHeartbeats 1600000 in
theorem chipLay_any (x y : Int) (hx : I64 x) (hy : 0 ≤ y ∧ y < 64) (a : Option Addr) (len cap : Nat) (z : List Int) (w : World) (h : ChipAt G B F N S w) (hr : Row .u8 w a len cap z) (hz : IsB z) (hlen : len ≤ G.L) (hN : N < 100000000) :
    Calls Tryz.prog 143 #[.pointer (some ⟨B.c, 0, none⟩), spotV x y, .slice a len cap] w fun e w' => (∃ r, e = .returned r) ∧ Does G B F (N + 2) w (S.lay x y (padF G.L z)) w' := by
  obtain ⟨kl, hk⟩ := spot_key (p := y) hx (by unfold I64; omega)
  have hL := G.ok.L2
  have hLm : G.L ≤ maxLen := by unfold maxLen; omega
  have q0 := below_one w (.cells #[.int .i64 x, .int .i64 y] 122)
  have bx := spotBox_new w x y
  have h0 := h.below q0
  have hr0 := hr.below q0 (Nat.le_refl _)
  have HS : Hid (w.heap.size ≤ w.heap.size) := Nat.le_refl _
  have HF : Hid (∀ k, F k → k < w.heap.size) := h.fresh
  clear h hr
  go_enter Tryz.func143, Tryz.ntmps143
  go_wp2_with fail
  have hg0 : Hid (w.heap.size = w.heap.size) := rfl
  generalize hgg : w.heap.size = g at bx hg0 ⊢
  have HG : Hid (w.heap.size = g) := hgg
  clear hgg hg0
  have HQ : Hid (Below w.heap.size w (w.alloc (.cells #[.int .i64 x, .int .i64 y] 122))) := q0
  clear q0
  generalize w.alloc (.cells #[.int .i64 x, .int .i64 y] 122) = w0 at *
  refine (chipBlank_any _ h0.cell h0.lt).mono ?_
  rintro e w1 ⟨q, hq, rfl, hgq, q1⟩
  have h1 := h0.below q1
  have hr1 := hr0.below q1 (Nat.le_refl _)
  have bx1 := bx.below q1
  obtain ⟨w2, hcopy, hg2, hgr2⟩ := copy_gen (P := Tryz.prog) (w := w1) (dT := 33) (elem := 5) (ty := 3) (o := 0) (d := G.L) (dc := G.L) Tryz.underlying33 (by kernel_rfl) hgq (by simp) hr1
  have hzl := hr0.hlen
  have hmin : min len G.L = min z.length G.L := by rw [hzl]
  rw [hmin, padF_copy (by omega)] at hg2
  -- the new row's block is none of the chip's
  have hqF : ¬ F q := fun hf => by have := h0.fresh q hf; omega
  have hqg : g ≠ q := fun e => by have := bx.lt; omega
  have h2 : ChipAt G B F N S w2 := h1.kept hgr2.size fun k hk => hgr2.block k (h1.fresh k hk) (fun e => hqF (by cases e; exact hk))
  have bx2 := bx1.same hgr2.size (hgr2.block g bx1.lt (fun e => hqg (by cases e; rfl)))
  have hlt2 : q < w2.heap.size := (Array.getElem?_eq_some_iff.1 hg2).1
  have hrow : Row .u8 w2 (some ⟨q, 0, none⟩) G.L G.L (padF G.L z) := isB_rowA (owns_of_heap (base := 0) hg2 (by rw [List.length_map, padF_len (by omega)]) (Nat.zero_le _) hLm)
  have HT2 : Hid (Turned F w w2) := ((Turned.of_below F HQ.out).trans (Turned.of_below F q1)).grown hgr2 (fun k e => by cases e; exact .inr (by have := HQ.out.size; omega))
  obtain ⟨m, hm, hp⟩ := h2.pages
  obtain ⟨w3, hst, hm3, hgr3⟩ := MapIs.store (w := w2.drew) (hm.same rfl) spotKeyed Tryz.underlying66 (by unfold maxLen; omega) hk (.slice (some ⟨q, 0, none⟩) G.L G.L)
  have h3 := h2.drew.put_page (w' := w3) (fun b p => (hp b p).same (Nat.le_refl _) (fun _ _ _ => rfl)) x y q (padF G.L z) hqF (isB_padF hz) (hrow.drewN 1) hlt2 hm3 hgr3
  have bx3 : SpotBox w3 g x y := bx2.same hgr3.size (hgr3.block g bx2.lt (fun e => by
    have e' : g = B.mp := by cases e; rfl
    have : F g := e' ▸ h2.inF _ (by simp [CB.all])
    have := HF.out g this
    have := HG.out
    omega))
  have HT3 : Hid (Turned F w w3) := HT2.out.drew.grown hgr3 (fun k e => by cases e; exact .inl (h2.inF _ (by simp [CB.all])))
  obtain ⟨mn, hn, hnx⟩ := h3.next
  have hlk := MapIs.look (w := w3.drew) (hn.same rfl) intKeyed Tryz.underlying67 (Tryz.zeroValue3 _) (int_key hx)
  rw [(hnx x).1] at hlk
  have hnxx := (hnx x).2
  have c5 := h2.cell.cells.c5
  have c6 := h3.cell.cells.c6
  obtain ⟨b0, b1⟩ := (show w2.cell? ⟨g, 0, none⟩ = some (.int .i64 x) ∧ w2.cell? ⟨g, 1, none⟩ = some (.int .i64 y) from ⟨bx2.c0, bx2.c1⟩)
  have d0 := bx3.c0
  have d1 := bx3.c1
  have fin : Hid (∀ (v : Int) (w4 : World), v = max (S.nx x) (y + 1) → MapIs Tryz.prog 3 w4 B.mn (N + 1 + 1) (mput mn (.int .i64 x) (.int .i64 v)) → w3.drew.grownBy w4 (some B.mn) → Does G B F (N + 2) w (S.lay x y (padF G.L z)) w4) := fun v w4 hv hm4 hgr4 => by
    subst hv
    have h4 := h3.drew.put_next (w' := w4) hnx x (max (S.nx x) (y + 1)) (by have := hnxx; simp only at this; omega) hm4 hgr4
    refine ⟨_, h4, HT3.out.drew.grown hgr4 (fun k e => by cases e; exact .inl (h2.inF _ (by simp [CB.all]))), fun k hk => hk.imp id (fun e => ?_)⟩
    rw [e]
    have := HQ.out.size
    omega
  have hst4 : ∀ v : Int, ∃ w4, Sem.run Tryz.prog (Instr.mapUpdate 67 (.map (some B.mn)) (.int .i64 x) (.int .i64 v)) w3.drew = .ok () w4 ∧ MapIs Tryz.prog 3 w4 B.mn (N + 1 + 1) (mput mn (.int .i64 x) (.int .i64 v)) ∧ w3.drew.grownBy w4 (some B.mn) := fun v =>
    MapIs.store (w := w3.drew) (hn.same rfl) intKeyed Tryz.underlying67 (by unfold maxLen; omega) (int_key hx) (.int .i64 v)
  have hnxx' : 0 ≤ S.nx x ∧ S.nx x ≤ 64 := hnxx
  have hlk' : Sem.run Tryz.prog (Instr.lookup 67 (.map (some B.mn)) (.int .i64 x) false) w3.drew = .ok (.int .i64 (S.nx x)) w3.drew := hlk
  clear hlk hnxx hnx hn h3 hm3 hgr3 hp hm hrow hg2 hgr2 h2 bx2 bx3 bx1 bx h1 h0 hr1 hr0 hgq q1 hmin hzl hqg hqF hlt2
  generalize S.nx x = nx at *
  go_wp2_with fail
  clear hcopy
  go_region
  clear hst c5 b0 b1
  by_cases hmx : nx < y + 1
  · obtain ⟨w4, hst, hm4, hgr4⟩ := hst4 (y + 1)
    have HD : Hid (Does G B F (N + 2) w (S.lay x y (padF G.L z)) w4) := fin.out (y + 1) w4 (by omega) hm4 hgr4
    clear fin hst4 hm4 hgr4
    go_wp2_with fail
    go_region
    go_wp2_with fail
    go_end0
    exact ⟨⟨_, rfl⟩, HD.out⟩
  · have hmx' : y + 1 ≤ nx := by omega
    obtain ⟨w4, hst, hm4, hgr4⟩ := hst4 nx
    have HD : Hid (Does G B F (N + 2) w (S.lay x y (padF G.L z)) w4) := fin.out nx w4 (by omega) hm4 hgr4
    clear fin hst4 hm4 hgr4
    go_wp2_with fail
    go_region
    go_wp2_with fail
    go_end0
    exact ⟨⟨_, rfl⟩, HD.out⟩
end
end Go.Proofs.YtgamakejaknagaaGreat

/-
  The code of layer 7 (chip), as it landed: wipe; On, Off, Up, Arm, Fuse, Bad, Geometry, Weak, Mark, Burn.
-/
namespace Go.Proofs.YtgamakejaknagaaGreat
open Go.RowKit Go.Maps
set_option linter.unusedVariables false
set_option maxRecDepth 8192

/-- The first pages of a block are ff, and read rightly. -/
def CS.wipe (S : CS) (L : Nat) (x : Int) (k : Nat) : CS :=
  { S with pg := fun b p => if b = x ∧ 0 ≤ p ∧ p < (k : Int) then List.replicate L 255 else S.pg b p, wr := fun b p => if b = x ∧ 0 ≤ p ∧ p < (k : Int) then fun _ => false else S.wr b p }
theorem CS.wipe_zero (S : CS) (L : Nat) (x : Int) : S.wipe L x 0 = S := by
  unfold CS.wipe
  have h : ∀ b p : Int, ¬ (b = x ∧ 0 ≤ p ∧ p < ((0 : Nat) : Int)) := fun b p => by omega
  cases S
  simp only [h, if_false]
theorem CS.wipe_step (S : CS) (L : Nat) (x : Int) (k : Nat) :
    ({ ({ S.wipe L x k with pg := fun b p => if b = x ∧ p = (k : Int) then List.replicate L 255 else (S.wipe L x k).pg b p } : CS) with wr := fun b p => if b = x ∧ p = (k : Int) then fun _ => false else (S.wipe L x k).wr b p } : CS) = S.wipe L x (k + 1) := by
  unfold CS.wipe
  simp only [CS.mk.injEq, and_true, true_and]
  refine ⟨?_, ?_⟩
  all_goals
    funext b p
    by_cases h1 : b = x ∧ p = (k : Int)
    · rw [if_pos h1, if_pos (by omega)]
    · rw [if_neg h1]
      by_cases h2 : b = x ∧ 0 ≤ p ∧ p < (k : Int)
      · rw [if_pos h2, if_pos (by omega)]
      · rw [if_neg h2, if_neg (by omega)]

section
variable {G : Geo} {B : CB} {F : Nat → Prop} {N : Nat} {S : CS}

set_option maxHeartbeats 800000 in
theorem chipWipe_any (x : Int) (k : Nat) (hx : I64 x) (hk : k ≤ 1000) (w : World) (h : ChipAt G B F N S w) :
    Calls Tryz.prog 97 #[.pointer (some ⟨B.c, 0, none⟩), .int .i64 x, .int .i64 (k : Int)] w fun e w' => (∃ r, e = .returned r) ∧ ChipAt G B F N (S.wipe G.L x k) w' ∧ Turned F w w' := by
  have H0 : Hid (ChipAt G B F N (S.wipe G.L x 0) w) := by show ChipAt _ _ _ _ _ _; rw [CS.wipe_zero]; exact h
  clear h
  go_enter Tryz.func97, Tryz.ntmps97
  go_wp2_with fail
  go_loopw [8] (fun i wr => ∃ n : Nat, n ≤ k ∧ i = .int .i64 (n : Int) ∧ Hid (ChipAt G B F N (S.wipe G.L x n) wr) ∧ Hid (Turned F w wr)) (fun i _ => k - (RowKit.intOf i).toNat)
  case atStart => exact ⟨0, Nat.zero_le _, rfl, H0, Turned.refl _ _⟩
  case round =>
    obtain ⟨n, hn, rfl, hc, ht⟩ := hrel
    by_cases hlt : n < k
    · have hlt' : (n : Int) < (k : Int) := by omega
      obtain ⟨kl, hkey⟩ := spot_key (b := x) (p := (n : Int)) hx (by unfold I64; omega)
      have h0 := hc.out
      obtain ⟨m, hm, hp⟩ := h0.pages
      obtain ⟨w1, hd1, hm1, hg1⟩ := hm.drop spotKeyed Tryz.underlying66 hkey 0
      have h1 := h0.del_page hp x (n : Int) hm1 hg1
      obtain ⟨m2, hm2, hp2⟩ := h1.wrong
      obtain ⟨w2, hd2, hm3, hg2⟩ := hm2.drop spotKeyed Tryz.underlying70 hkey 0
      have h2 := h1.del_wrong hp2 x (n : Int) hm3 hg2
      have HC2 : Hid (ChipAt G B F N (S.wipe G.L x (n + 1)) w2) := by show ChipAt _ _ _ _ _ _; rw [← CS.wipe_step]; exact h2
      have HT2 : Hid (Turned F w w2) := (ht.out.grown hg1 (fun j e => by cases e; exact .inl (h0.inF _ (by simp [CB.all])))).grown hg2 (fun j e => by cases e; exact .inl (h0.inF _ (by simp [CB.all])))
      have c5 := h0.cell.cells.c5
      have c9 := h1.cell.cells.c9
      clear h2 hm3 hg2 hp2 hm2 h1 hm1 hg1 hp hm h0 hc ht
      go_wp2_with fail
      go_roundw
      case rel => exact ⟨n + 1, by omega, by go_num, HC2, HT2⟩
      case measure => simp [RowKit.intOf]; omega
    · have e : n = k := by omega
      subst e
      go_wp2_with fail
      go_end0
      exact ⟨⟨_, rfl⟩, hc.out, ht.out⟩

theorem chipOn_any (w : World) (h : ChipAt G B F N S w) :
    Calls Tryz.prog 19 #[.pointer (some ⟨B.c, 0, none⟩)] w fun e w' => (∃ r, e = .returned r) ∧ ChipAt G B F N { S with up := true } w' ∧ Turned F w w' := by
  have c11 := h.cell.cells.c11
  have f11 := h.cell.cells.fr 11
  have HS : Hid (ChipAt G B F N { S with up := true } (w.setCell ⟨B.c, 11, none⟩ (.bool true))) := h.set_up true
  have HT : Hid (Turned F w (w.setCell ⟨B.c, 11, none⟩ (.bool true))) := (Turned.refl F w).setCell (p := ⟨B.c, 11, none⟩) (.inl (h.inF _ (by simp [CB.all]))) _
  clear h
  go_enter Tryz.func19, Tryz.ntmps19
  go_wp2
  go_end0
  exact ⟨⟨_, rfl⟩, HS.out, HT.out⟩
theorem chipUp_any (w : World) (h : CellOk G B S w) : Calls Tryz.prog 118 #[.pointer (some ⟨B.c, 0, none⟩)] w fun e w' => e = .returned (.bool S.up) ∧ w = w' := by
  have c11 := h.cells.c11
  clear h
  go_enter Tryz.func118, Tryz.ntmps118
  go_wp2
  go_ret
  exact ⟨rfl, rfl⟩
theorem chipArm_any (x y : Int) (hx : I64 x) (hy : I64 y) (w : World) (h : ChipAt G B F N S w) :
    Calls Tryz.prog 18 #[.pointer (some ⟨B.c, 0, none⟩), .int .i64 x, .int .i64 y] w fun e w' => (∃ r, e = .returned r) ∧ ChipAt G B F N { S with ah := max x 0, ke := y } w' ∧ Turned F w w' := by
  have c12 := h.cell.cells.c12
  have f12 := h.cell.cells.fr 12
  have c13 := h.cell.cells.c13
  have f13 := h.cell.cells.fr 13
  obtain ⟨hx1, hx2⟩ := hx
  have HS : Hid (∀ v, v = max x 0 → ChipAt G B F N { S with ah := max x 0, ke := y } ((w.setCell ⟨B.c, 12, none⟩ (.int .i64 v)).setCell ⟨B.c, 13, none⟩ (.int .i64 y))) := fun v hv => by
    subst hv
    exact (h.set_ah (max x 0) (by omega)).set_ke y hy
  have hF := h.inF B.c (by simp [CB.all])
  have HT : Hid (∀ v, Turned F w ((w.setCell ⟨B.c, 12, none⟩ (.int .i64 v)).setCell ⟨B.c, 13, none⟩ (.int .i64 y))) := fun v => ((Turned.refl F w).setCell (p := ⟨B.c, 12, none⟩) (.inl hF) _).setCell (p := ⟨B.c, 13, none⟩) (.inl hF) _
  clear h hF
  by_cases h0 : 0 ≤ x
  · go_enter Tryz.func18, Tryz.ntmps18
    go_wp2
    all_goals (go_end0; first | exact ⟨⟨_, rfl⟩, HS.out _ (by omega), HT.out _⟩ | (exfalso; omega))
  · go_enter Tryz.func18, Tryz.ntmps18
    go_wp2
    all_goals (go_end0; first | exact ⟨⟨_, rfl⟩, HS.out _ (by omega), HT.out _⟩ | (exfalso; omega))
theorem chipBad_any (x : Int) (hx : I64 x) (w : World) (h : ChipAt G B F N S w) : Calls Tryz.prog 88 #[.pointer (some ⟨B.c, 0, none⟩), .int .i64 x] w fun e w' => e = .returned (.bool (S.up && S.bd x)) ∧ Below w.heap.size w w' := by
  have c7 := h.cell.cells.c7
  cases hu : S.up
  · go_enter Tryz.func88, Tryz.ntmps88
    go_wp2_with fail
    refine (chipUp_any _ h.cell).mono ?_
    rw [hu]
    rintro e w1 ⟨rfl, rfl⟩
    clear h hu
    go_wp2_with fail
    go_ret
    exact ⟨rfl, Below.refl _ _⟩
  · go_enter Tryz.func88, Tryz.ntmps88
    go_wp2_with fail
    refine (chipUp_any _ h.cell).mono ?_
    rw [hu]
    rintro e w1 ⟨rfl, rfl⟩
    go_wp2_with fail
    refine (chipHas_any _ _ _ x _ h.marked hx).mono ?_
    rintro e w2 ⟨rfl, q2⟩
    clear h hu
    go_wp2_with fail
    go_ret
    exact ⟨rfl, q2⟩
end
end Go.Proofs.YtgamakejaknagaaGreat

/-
  The code of layer 7 (chip), as it landed: deeds: Mark, Burn, Erase, Program; Weak, Geometry, Force.
-/
namespace Go.Proofs.YtgamakejaknagaaGreat
open Go.RowKit Go.Maps
set_option linter.unusedVariables false
set_option maxRecDepth 8192

/-- A deed is counted: is it cut? -/
def CS.cutIs (S : CS) (c : Bool) (S1 : CS) : Prop :=
  (S.ah = 0 ∧ c = false ∧ S1 = S) ∨ (1 < S.ah ∧ c = false ∧ S1 = { S with ah := S.ah - 1 }) ∨ (S.ah = 1 ∧ c = true ∧ S1 = { S with ah := 0, up := false })
/-- The state behind a deed's counting. -/
def CS.counted (S : CS) : CS := if S.ah = 0 then S else if S.ah = 1 then { S with ah := 0, up := false } else { S with ah := S.ah - 1 }
theorem CS.counted_is (S : CS) (h : 0 ≤ S.ah) : S.cutIs (decide (S.ah = 1)) S.counted := by
  unfold CS.cutIs CS.counted
  by_cases h0 : S.ah = 0
  · exact .inl ⟨h0, by rw [decide_eq_false_iff_not]; omega, by rw [if_pos h0]⟩
  · by_cases h1 : S.ah = 1
    · exact .inr (.inr ⟨h1, by rw [decide_eq_true_iff]; exact h1, by rw [if_neg h0, if_pos h1]⟩)
    · exact .inr (.inl ⟨by omega, by rw [decide_eq_false_iff_not]; exact h1, by rw [if_neg h0, if_neg h1]⟩)

def CS.mark (S : CS) (x : Int) : CS := { S with bd := fun b => if b = x then true else S.bd b }
def CS.next0 (S : CS) (x : Int) : CS := { S with nx := fun b => if b = x then 0 else S.nx b }
def CS.right (S : CS) (x y : Int) : CS := { S with wr := fun b p => if b = x ∧ p = y then fun _ => false else S.wr b p }

section
variable {G : Geo} {B : CB} {F : Nat → Prop} {N : Nat} {S : CS}

theorem Does.of (w : World) {w' : World} {S' : CS} {N' : Nat} (h : ChipAt G B F N' S' w') (ht : Turned F w w') (hN : N' ≤ N) : Does G B F N w S' w' := ⟨F, h.mono hN, ht, fun _ hx => .inl hx⟩
theorem Does.after {w w1 w' : World} {S' : CS} {F1 : Nat → Prop} (ht : Turned F w w1) (hf : ∀ x, F1 x → F x ∨ w.heap.size ≤ x) (h : Does G B F1 N w1 S' w') : Does G B F N w S' w' := by
  obtain ⟨F', h1, h2, h3⟩ := h
  exact ⟨F', h1, ht.andThen h2 hf, fun x hx => (h3 x hx).elim (hf x) (fun h => .inr (Nat.le_trans ht.size h))⟩

theorem chipCut_any (w : World) (h : ChipAt G B F N S w) {c : Bool} {S1 : CS} (hc : S.cutIs c S1) :
    Calls Tryz.prog 96 #[.pointer (some ⟨B.c, 0, none⟩)] w fun e w' => e = .returned (.bool c) ∧ ChipAt G B F N S1 w' ∧ Turned F w w' := by
  rcases hc with ⟨h0, rfl, rfl⟩ | ⟨h0, rfl, rfl⟩ | ⟨h0, rfl, rfl⟩
  · exact (chipCut_no w h h0).mono fun e w' ⟨e1, e2⟩ => ⟨e1, e2 ▸ h, e2 ▸ Turned.refl _ _⟩
  · exact chipCut_on w h h0
  · exact chipCut_yes w h h0
theorem CS.cutIs.same {c : Bool} {S1 : CS} (h : S.cutIs c S1) : S1.pg = S.pg ∧ S1.nx = S.nx ∧ S1.bd = S.bd ∧ S1.wk = S.wk ∧ S1.wr = S.wr ∧ S1.fu = S.fu ∧ S1.ke = S.ke := by
  rcases h with ⟨_, _, rfl⟩ | ⟨_, _, rfl⟩ | ⟨_, _, rfl⟩ <;> exact ⟨rfl, rfl, rfl, rfl, rfl, rfl, rfl⟩

/-- 'c.marked.add(x)'. -/
theorem chipAddMark (x : Int) (hx : I64 x) (w : World) (h : ChipAt G B F N S w) (hN : N < 100000000) :
    Calls Tryz.prog 66 #[.map (some B.mm), .int .i64 x] w fun e w' => (∃ r, e = .returned r) ∧ ChipAt G B F (N + 1) (S.mark x) w' ∧ Turned F w w' := by
  obtain ⟨m, hm, hs⟩ := h.marked
  refine (chipAdd_any _ _ m x w hm hN hx).mono ?_
  rintro e w' ⟨hr, h1, h2⟩
  exact ⟨hr, h.mark hs x h1 h2, (Turned.refl F w).grown h2 (fun k e => by cases e; exact .inl (h.inF _ (by simp [CB.all])))⟩
/-! ### Mark -/
/-- What Mark answers and leaves. -/
def CS.doMark (G : Geo) (S : CS) (x : Int) : Int × CS :=
  if S.up = false then (70, S) else if inB0 x G.b = false then (1, S) else if S.ah = 1 then (70, if 0 < S.ke then S.counted.mark x else S.counted) else (0, S.counted.mark x)
theorem chipMark_any (x : Int) (hx : I64 x) (w : World) (h : ChipAt G B F N S w) (hN : N < 100000000) :
    Calls Tryz.prog 94 #[.pointer (some ⟨B.c, 0, none⟩), .int .i64 x] w fun e w' => e = .returned (.int .i64 (S.doMark G x).1) ∧ Does G B F (N + 2) w (S.doMark G x).2 w' := by
  cases hu : S.up
  · have HR : Hid (S.doMark G x = (70, S)) := by show _ = _; unfold CS.doMark; rw [if_pos hu]
    rw [HR.out]
    clear HR
    go_enter Tryz.func94, Tryz.ntmps94
    go_wp2_with fail
    refine (chipReadyFor_down _ _ h.cell hu).mono ?_
    rintro e w1 ⟨rfl, rfl⟩
    go_wp2_with fail
    go_ret
    exact ⟨rfl, Does.of w h (Turned.refl _ _) (by omega)⟩
  cases hb : inB0 x G.b
  · have HR : Hid (S.doMark G x = (1, S)) := by show _ = _; unfold CS.doMark; rw [if_neg (by rw [hu]; simp), if_pos hb]
    rw [HR.out]
    clear HR
    go_enter Tryz.func94, Tryz.ntmps94
    go_wp2_with fail
    refine (chipReadyFor_no _ _ h.cell hu hb).mono ?_
    rintro e w1 ⟨rfl, rfl⟩
    go_wp2_with fail
    go_ret
    exact ⟨rfl, Does.of w h (Turned.refl _ _) (by omega)⟩
  have hci := S.counted_is h.ah.1
  have hke := hci.same.2.2.2.2.2.2
  by_cases hc : S.ah = 1
  · rw [decide_eq_true hc] at hci
    by_cases hk : 0 < S.ke
    · have HR : Hid (S.doMark G x = (70, S.counted.mark x)) := by show _ = _; unfold CS.doMark; rw [if_neg (by rw [hu]; simp), if_neg (by rw [hb]; simp), if_pos hc, if_pos hk]
      rw [HR.out]
      clear HR
      generalize S.counted = S1 at *
      go_enter Tryz.func94, Tryz.ntmps94
      go_wp2_with fail
      refine (chipReadyFor_yes _ _ h.cell hu hb).mono ?_
      rintro e w1 ⟨rfl, rfl⟩
      go_wp2_with fail
      refine (chipCut_any _ h hci).mono ?_
      rintro e w2 ⟨rfl, h2, t2⟩
      have c13 := h2.cell.cells.c13
      have c7 := h2.cell.cells.c7
      rw [hke] at c13
      generalize S.ke = ke at *
      go_wp2_with fail
      refine (chipAddMark x hx _ h2 hN).mono ?_
      rintro e w3 ⟨⟨r, rfl⟩, h3, t3⟩
      clear c13 c7
      go_wp2_with fail
      go_ret
      exact ⟨rfl, Does.of w h3 (t2.trans t3) (by omega)⟩
    · have HR : Hid (S.doMark G x = (70, S.counted)) := by show _ = _; unfold CS.doMark; rw [if_neg (by rw [hu]; simp), if_neg (by rw [hb]; simp), if_pos hc, if_neg hk]
      rw [HR.out]
      clear HR
      generalize S.counted = S1 at *
      go_enter Tryz.func94, Tryz.ntmps94
      go_wp2_with fail
      refine (chipReadyFor_yes _ _ h.cell hu hb).mono ?_
      rintro e w1 ⟨rfl, rfl⟩
      go_wp2_with fail
      refine (chipCut_any _ h hci).mono ?_
      rintro e w2 ⟨rfl, h2, t2⟩
      have c13 := h2.cell.cells.c13
      rw [hke] at c13
      generalize S.ke = ke at *
      have hk' : ke ≤ 0 := by omega
      go_wp2_with fail
      go_ret
      exact ⟨rfl, Does.of w h2 t2 (by omega)⟩
  · rw [decide_eq_false hc] at hci
    have HR : Hid (S.doMark G x = (0, S.counted.mark x)) := by show _ = _; unfold CS.doMark; rw [if_neg (by rw [hu]; simp), if_neg (by rw [hb]; simp), if_neg hc]
    rw [HR.out]
    clear HR
    generalize S.counted = S1 at *
    go_enter Tryz.func94, Tryz.ntmps94
    go_wp2_with fail
    refine (chipReadyFor_yes _ _ h.cell hu hb).mono ?_
    rintro e w1 ⟨rfl, rfl⟩
    go_wp2_with fail
    refine (chipCut_any _ h hci).mono ?_
    rintro e w2 ⟨rfl, h2, t2⟩
    have c7 := h2.cell.cells.c7
    go_wp2_with fail
    refine (chipAddMark x hx _ h2 hN).mono ?_
    rintro e w3 ⟨⟨r, rfl⟩, h3, t3⟩
    clear c7
    go_wp2_with fail
    go_ret
    exact ⟨rfl, Does.of w h3 (t2.trans t3) (by omega)⟩

/-! ### Burn -/
end
end Go.Proofs.YtgamakejaknagaaGreat

/-
  The code of layer 7 (chip), as it landed: Erase, Program, Force, Weak, Geometry. (Written by tools/gen/chip_code6.py.)
-/
namespace Go.Proofs.YtgamakejaknagaaGreat
open Go.RowKit Go.Maps
set_option linter.unusedVariables false
set_option maxRecDepth 8192

section
variable {G : Geo} {B : CB} {F : Nat → Prop} {N : Nat} {S : CS}

theorem Geo.pn (G : Geo) : G.p = ((G.p.toNat : Nat) : Int) := by have := G.ok.hp; omega
theorem Geo.pb (G : Geo) : 2 ≤ G.p.toNat ∧ G.p.toNat ≤ 64 := by have := G.ok.hp; omega

/-! ### Erase -/
def CS.doErase (G : Geo) (S : CS) (x : Int) : Int × CS :=
  if S.up = false then (70, S) else if inB0 x G.b = false then (1, S) else if S.ah = 1 then (70, S.counted.wipe G.L x (keptN S.ke G.p.toNat)) else if S.wk x = true then (72, S.counted) else (0, (S.counted.wipe G.L x G.p.toNat).next0 x)
theorem chipErase_any (x : Int) (hx : I64 x) (w : World) (h : ChipAt G B F N S w) :
    Calls Tryz.prog 63 #[.pointer (some ⟨B.c, 0, none⟩), .int .i64 x] w fun e w' => e = .returned (.int .i64 (S.doErase G x).1) ∧ Does G B F (N) w (S.doErase G x).2 w' := by
  cases hu : S.up
  · have HR : Hid (S.doErase G x = (70, S)) := by show _ = _; unfold CS.doErase; rw [if_pos hu]
    rw [HR.out]
    clear HR
    go_enter Tryz.func63, Tryz.ntmps63
    go_wp2_with fail
    refine (chipReadyFor_down _ _ h.cell hu).mono ?_
    rintro e w1 ⟨rfl, rfl⟩
    go_wp2_with fail
    go_ret
    exact ⟨rfl, Does.of w h (Turned.refl _ _) (Nat.le_refl _)⟩
  cases hb : inB0 x G.b
  · have HR : Hid (S.doErase G x = (1, S)) := by show _ = _; unfold CS.doErase; rw [if_neg (by rw [hu]; simp), if_pos hb]
    rw [HR.out]
    clear HR
    go_enter Tryz.func63, Tryz.ntmps63
    go_wp2_with fail
    refine (chipReadyFor_no _ _ h.cell hu hb).mono ?_
    rintro e w1 ⟨rfl, rfl⟩
    go_wp2_with fail
    go_ret
    exact ⟨rfl, Does.of w h (Turned.refl _ _) (Nat.le_refl _)⟩
  have hci := S.counted_is h.ah.1
  have hke := hci.same.2.2.2.2.2.2
  have hwk := hci.same.2.2.2.1
  have hP := G.pn
  have hPb := G.pb
  by_cases hc : S.ah = 1
  · rw [decide_eq_true hc] at hci
    have HR : Hid (S.doErase G x = (70, S.counted.wipe G.L x (keptN S.ke G.p.toNat))) := by show _ = _; unfold CS.doErase; rw [if_neg (by rw [hu]; simp), if_neg (by rw [hb]; simp), if_pos hc]
    rw [HR.out]
    clear HR
    generalize S.counted = S1 at *
    generalize G.p.toNat = P at *
    have hkl : keptN S.ke P ≤ 1000 := by unfold keptN; omega
    obtain ⟨kk, hkd⟩ : ∃ kk, keptN S.ke P = kk := ⟨_, rfl⟩
    rw [hkd] at hkl ⊢
    go_enter Tryz.func63, Tryz.ntmps63
    go_wp2_with fail
    refine (chipReadyFor_yes _ _ h.cell hu hb).mono ?_
    rintro e w1 ⟨rfl, rfl⟩
    go_wp2_with fail
    refine (chipCut_any _ h hci).mono ?_
    rintro e w2 ⟨rfl, h2, t2⟩
    have c1 := h2.cell.cells.c1
    rw [hP] at c1
    have hkk := chipKept_any P w2 h2.cell (by omega)
    rw [hke, hkd] at hkk
    have hw := chipWipe_any x kk hx hkl w2 h2
    clear hP hkd
    go_wp2_with fail
    refine hkk.mono ?_
    rintro e w3 ⟨rfl, rfl⟩
    go_wp2_with fail
    refine hw.mono ?_
    rintro e w4 ⟨⟨r, rfl⟩, h4, t4⟩
    clear c1
    go_wp2_with fail
    go_ret
    exact ⟨rfl, Does.of w h4 (t2.trans t4) (Nat.le_refl _)⟩
  rw [decide_eq_false hc] at hci
  cases hw : S.wk x
  · have HR : Hid (S.doErase G x = (0, (S.counted.wipe G.L x G.p.toNat).next0 x)) := by show _ = _; unfold CS.doErase; rw [if_neg (by rw [hu]; simp), if_neg (by rw [hb]; simp), if_neg hc, if_neg (by rw [hw]; simp)]
    rw [HR.out]
    clear HR
    generalize S.counted = S1 at *
    generalize G.p.toNat = P at *
    go_enter Tryz.func63, Tryz.ntmps63
    go_wp2_with fail
    refine (chipReadyFor_yes _ _ h.cell hu hb).mono ?_
    rintro e w1 ⟨rfl, rfl⟩
    go_wp2_with fail
    refine (chipCut_any _ h hci).mono ?_
    rintro e w2 ⟨rfl, h2, t2⟩
    have c8 := h2.cell.cells.c8
    go_wp2_with fail
    refine (chipHas_any _ _ _ x _ h2.weak hx).mono ?_
    rw [hwk, hw]
    rintro e w3 ⟨rfl, q3⟩
    have h3 := h2.below q3
    have t3 := t2.trans (Turned.of_below F q3)
    clear c8 h2 t2 q3
    have c1 := h3.cell.cells.c1
    rw [hP] at c1
    have hww := chipWipe_any x P hx (by omega) w3 h3
    clear hP
    go_wp2_with fail
    refine hww.mono ?_
    rintro e w4 ⟨⟨r, rfl⟩, h4, t4⟩
    obtain ⟨m, hm, hn⟩ := h4.next
    obtain ⟨w5, hd, hm5, hg5⟩ := hm.drop intKeyed Tryz.underlying67 (int_key hx) 0
    have h5 := h4.del_next hn x hm5 hg5
    have T5 : Hid (Turned F w w5) := (t3.trans t4).grown hg5 (fun k e => by cases e; exact .inl (h4.inF _ (by simp [CB.all])))
    have H5 : Hid (ChipAt G B F N ((S1.wipe G.L x P).next0 x) w5) := h5
    have c6 := h4.cell.cells.c6
    clear c1 h5 hg5 hm5 hn hm h4 t4 h3 t3 h hww
    go_wp2_with fail
    go_ret
    exact ⟨rfl, Does.of w H5.out T5.out (Nat.le_refl _)⟩
  · have HR : Hid (S.doErase G x = (72, S.counted)) := by show _ = _; unfold CS.doErase; rw [if_neg (by rw [hu]; simp), if_neg (by rw [hb]; simp), if_neg hc, if_pos hw]
    rw [HR.out]
    clear HR
    generalize S.counted = S1 at *
    go_enter Tryz.func63, Tryz.ntmps63
    go_wp2_with fail
    refine (chipReadyFor_yes _ _ h.cell hu hb).mono ?_
    rintro e w1 ⟨rfl, rfl⟩
    go_wp2_with fail
    refine (chipCut_any _ h hci).mono ?_
    rintro e w2 ⟨rfl, h2, t2⟩
    have c8 := h2.cell.cells.c8
    go_wp2_with fail
    refine (chipHas_any _ _ _ x _ h2.weak hx).mono ?_
    rw [hwk, hw]
    rintro e w3 ⟨rfl, q3⟩
    clear c8
    go_wp2_with fail
    go_ret
    exact ⟨rfl, Does.of w (h2.below q3) (t2.trans (Turned.of_below F q3)) (Nat.le_refl _)⟩

/-! ### Program -/
def CS.doProgram (G : Geo) (S : CS) (x y : Int) (z : List Int) : Int × CS :=
  if S.up = false then (70, S) else if fitsP G x y z.length = false then (1, S) else if y ≠ S.nx x then (71, S) else if S.ah = 1 then (70, S.counted.lay x y (padF G.L (z.take (keptN S.ke z.length))))
  else if S.wk x = true then (72, S.counted) else (0, S.counted.lay x y (padF G.L z))
theorem fitsP_yes {G : Geo} {x y : Int} {len : Nat} (h : fitsP G x y len = true) : ((0 ≤ x ∧ x < G.b) ∧ 0 ≤ y ∧ y < G.p) ∧ len = G.L := by
  unfold fitsP at h
  rw [Bool.and_eq_true] at h
  exact ⟨hasP_yes h.1, of_decide_eq_true h.2⟩
set_option maxHeartbeats 800000 in
theorem chipProgram_any (x y : Int) (hx : I64 x) (hy : I64 y) (a : Option Addr) (len cap : Nat) (z : List Int) (w : World) (h : ChipAt G B F N S w) (hr : Row .u8 w a len cap z) (hdis : 0 < len → ∀ x, a = some x → ¬ F x.block) (hz : IsB z) (hN : N < 100000000) :
    Calls Tryz.prog 126 #[.pointer (some ⟨B.c, 0, none⟩), .int .i64 x, .int .i64 y, .slice a len cap] w fun e w' => e = .returned (.int .i64 (S.doProgram G x y z).1) ∧ Does G B F (N + 2) w (S.doProgram G x y z).2 w' := by
  have hzl := hr.hlen
  have hlm : len ≤ maxLen := Nat.le_trans hr.hcap hr.hmax
  subst hzl
  cases hu : S.up
  · have HR : Hid (S.doProgram G x y z = (70, S)) := by show _ = _; unfold CS.doProgram; rw [if_pos hu]
    rw [HR.out]
    clear HR
    go_enter Tryz.func126, Tryz.ntmps126
    go_wp2_with fail
    refine (chipReady_any _ h.cell).mono ?_
    rw [hu]
    rintro e w1 ⟨rfl, rfl⟩
    go_wp2_with fail
    go_ret
    exact ⟨rfl, Does.of w h (Turned.refl _ _) (by omega)⟩
  cases hf : fitsP G x y z.length
  · have HR : Hid (S.doProgram G x y z = (1, S)) := by show _ = _; unfold CS.doProgram; rw [if_neg (by rw [hu]; simp), if_pos hf]
    rw [HR.out]
    clear HR
    go_enter Tryz.func126, Tryz.ntmps126
    go_wp2_with fail
    refine (chipReady_any _ h.cell).mono ?_
    rw [hu]
    rintro e w1 ⟨rfl, rfl⟩
    go_wp2_with fail
    refine (chipFits_any x y _ _ _ _ h.cell hlm h.lt).mono ?_
    rw [hf]
    rintro e w2 ⟨rfl, q2⟩
    replace hr := hr.below q2 (Nat.le_refl _)
    have t2 : Turned F w w2 := Turned.of_below F q2
    replace h := h.below q2
    go_wp2_with fail
    go_ret
    exact ⟨rfl, Does.of w h t2 (by omega)⟩
  obtain ⟨⟨_, hy0, hy1⟩, hzL⟩ := fitsP_yes hf
  have hy64 : 0 ≤ y ∧ y < 64 := ⟨hy0, by have := G.ok.hp; omega⟩
  have hLL := G.ok.L2
  have hzl2 : z.length ≤ 1000 := by omega
  have hz1 : 1 ≤ z.length := by omega
  have HZL : Hid (z.length = G.L) := hzL
  clear hzL
  by_cases ho : y = S.nx x
  case neg =>
    have HR : Hid (S.doProgram G x y z = (71, S)) := by show _ = _; unfold CS.doProgram; rw [if_neg (by rw [hu]; simp), if_neg (by rw [hf]; simp), if_pos ho]
    rw [HR.out]
    clear HR
    go_enter Tryz.func126, Tryz.ntmps126
    go_wp2_with fail
    refine (chipReady_any _ h.cell).mono ?_
    rw [hu]
    rintro e w1 ⟨rfl, rfl⟩
    go_wp2_with fail
    refine (chipFits_any x y _ _ _ _ h.cell hlm h.lt).mono ?_
    rw [hf]
    rintro e w2 ⟨rfl, q2⟩
    replace hr := hr.below q2 (Nat.le_refl _)
    have t2 : Turned F w w2 := Turned.of_below F q2
    replace h := h.below q2
    obtain ⟨mn, hmn, hnx⟩ := h.next
    have hlk := hmn.look intKeyed Tryz.underlying67 (Tryz.zeroValue3 _) (int_key hx)
    rw [(hnx x).1] at hlk
    clear hnx hmn mn
    have c6 := h.cell.cells.c6
    have H : Hid (ChipAt G B F N S w2) := h
    clear h
    have hbb : (y != S.nx x) = true := by simp [ho]
    generalize S.nx x = nx at *
    go_wp2_with fail
    go_ret
    exact ⟨rfl, Does.of w H.out t2 (by omega)⟩
  have HO : Hid (y = S.nx x) := ho
  clear ho
  have hci := S.counted_is h.ah.1
  have hke := hci.same.2.2.2.2.2.2
  have hwk := hci.same.2.2.2.1
  by_cases hc : S.ah = 1
  · rw [decide_eq_true hc] at hci
    have HR : Hid (S.doProgram G x y z = (70, S.counted.lay x y (padF G.L (z.take (keptN S.ke z.length))))) := by show _ = _; unfold CS.doProgram; rw [if_neg (by rw [hu]; simp), if_neg (by rw [hf]; simp), if_neg (fun hh => hh HO.out), if_pos hc]
    rw [HR.out]
    clear HR
    generalize S.counted = S1 at *
    have hkl : keptN S.ke z.length ≤ z.length := by unfold keptN; omega
    obtain ⟨kk, hkd⟩ : ∃ kk, keptN S.ke z.length = kk := ⟨_, rfl⟩
    rw [hkd] at hkl ⊢
    have HKD : Hid (keptN S.ke z.length = kk) := hkd
    clear hkd
    go_enter Tryz.func126, Tryz.ntmps126
    go_wp2_with fail
    refine (chipReady_any _ h.cell).mono ?_
    rw [hu]
    rintro e w1 ⟨rfl, rfl⟩
    go_wp2_with fail
    refine (chipFits_any x y _ _ _ _ h.cell hlm h.lt).mono ?_
    rw [hf]
    rintro e w2 ⟨rfl, q2⟩
    replace hr := hr.below q2 (Nat.le_refl _)
    have t2 : Turned F w w2 := Turned.of_below F q2
    replace h := h.below q2
    obtain ⟨mn, hmn, hnx⟩ := h.next
    have hlk := hmn.look intKeyed Tryz.underlying67 (Tryz.zeroValue3 _) (int_key hx)
    rw [(hnx x).1] at hlk
    clear hnx hmn mn
    have c6 := h.cell.cells.c6
    have hbb : (y != S.nx x) = false := by rw [← HO.out]; simp
    clear HO
    generalize S.nx x = nx at *
    go_wp2_with fail
    clear hlk c6 hbb
    refine (chipCut_any _ h hci).mono ?_
    rintro e w3 ⟨rfl, h3, t3⟩
    have hr3 := hr.turned t3 hdis
    replace t3 := t2.trans t3
    have hkk := chipKept_any z.length w3 h3.cell (by omega)
    rw [hke, HKD.out] at hkk
    clear h t2
    have hlay : ∀ c, Row .u8 w3 c kk cap (z.take kk) → Calls Tryz.prog 143 #[.pointer (some ⟨B.c, 0, none⟩), spotV x y, .slice c kk cap] w3 fun e w' => (∃ r, e = .returned r) ∧ Does G B F (N + 2) w3 (S1.lay x y (padF G.L (z.take kk))) w' :=
      fun c hc => chipLay_any x y hx hy64 c kk cap (z.take kk) w3 h3 hc (fun v hv => hz v (List.mem_of_mem_take hv)) (by have := HZL.out; omega) hN
    have hcap := hr3.hcap
    have hmaxc := hr3.hmax
    have hkI : (kk : Int) ≤ (cap : Int) := by omega
    obtain ⟨bb, off, rfl⟩ : ∃ bb off, a = some ⟨bb, off, none⟩ := by obtain ⟨bb, off, e, _⟩ := hr3.hcell (by omega); exact ⟨bb, off, e⟩
    replace hlay := hlay _ (row_front hr3 hkl)
    clear hr3 hr hdis
    generalize z.length = len at *
    unfold maxLen at hmaxc hlm
    go_wp2_with fail
    refine hkk.mono ?_
    rintro e w4 ⟨rfl, rfl⟩
    go_wp2_with fail
    refine hlay.mono ?_
    rintro e w5 ⟨⟨r, rfl⟩, d5⟩
    go_wp2_with fail
    go_ret
    exact ⟨rfl, Does.after t3 (fun _ h => .inl h) d5⟩
  rw [decide_eq_false hc] at hci
  cases hw : S.wk x
  · have HR : Hid (S.doProgram G x y z = (0, S.counted.lay x y (padF G.L z))) := by show _ = _; unfold CS.doProgram; rw [if_neg (by rw [hu]; simp), if_neg (by rw [hf]; simp), if_neg (fun hh => hh HO.out), if_neg hc, if_neg (by rw [hw]; simp)]
    rw [HR.out]
    clear HR
    generalize S.counted = S1 at *
    go_enter Tryz.func126, Tryz.ntmps126
    go_wp2_with fail
    refine (chipReady_any _ h.cell).mono ?_
    rw [hu]
    rintro e w1 ⟨rfl, rfl⟩
    go_wp2_with fail
    refine (chipFits_any x y _ _ _ _ h.cell hlm h.lt).mono ?_
    rw [hf]
    rintro e w2 ⟨rfl, q2⟩
    replace hr := hr.below q2 (Nat.le_refl _)
    have t2 : Turned F w w2 := Turned.of_below F q2
    replace h := h.below q2
    obtain ⟨mn, hmn, hnx⟩ := h.next
    have hlk := hmn.look intKeyed Tryz.underlying67 (Tryz.zeroValue3 _) (int_key hx)
    rw [(hnx x).1] at hlk
    clear hnx hmn mn
    have c6 := h.cell.cells.c6
    have hbb : (y != S.nx x) = false := by rw [← HO.out]; simp
    clear HO
    generalize S.nx x = nx at *
    go_wp2_with fail
    clear hlk c6 hbb
    refine (chipCut_any _ h hci).mono ?_
    rintro e w3 ⟨rfl, h3, t3⟩
    have hr3 := hr.turned t3 hdis
    replace t3 := t2.trans t3
    have c8 := h3.cell.cells.c8
    go_wp2_with fail
    refine (chipHas_any _ _ _ x _ h3.weak hx).mono ?_
    rw [hwk, hw]
    rintro e w4 ⟨rfl, q4⟩
    have h4 := h3.below q4
    have t4 := t3.trans (Turned.of_below F q4)
    have hr4 := hr3.below q4 (Nat.le_refl _)
    clear c8 h3 t3 q4 hr3
    have hlay := chipLay_any x y hx hy64 a z.length cap z w4 h4 hr4 hz (by have := HZL.out; omega) hN
    clear hr4 hr h h4
    go_wp2_with fail
    refine hlay.mono ?_
    rintro e w5 ⟨⟨r, rfl⟩, d5⟩
    go_wp2_with fail
    go_ret
    exact ⟨rfl, Does.after t4 (fun _ h => .inl h) d5⟩
  · have HR : Hid (S.doProgram G x y z = (72, S.counted)) := by show _ = _; unfold CS.doProgram; rw [if_neg (by rw [hu]; simp), if_neg (by rw [hf]; simp), if_neg (fun hh => hh HO.out), if_neg hc, if_pos hw]
    rw [HR.out]
    clear HR
    generalize S.counted = S1 at *
    go_enter Tryz.func126, Tryz.ntmps126
    go_wp2_with fail
    refine (chipReady_any _ h.cell).mono ?_
    rw [hu]
    rintro e w1 ⟨rfl, rfl⟩
    go_wp2_with fail
    refine (chipFits_any x y _ _ _ _ h.cell hlm h.lt).mono ?_
    rw [hf]
    rintro e w2 ⟨rfl, q2⟩
    replace hr := hr.below q2 (Nat.le_refl _)
    have t2 : Turned F w w2 := Turned.of_below F q2
    replace h := h.below q2
    obtain ⟨mn, hmn, hnx⟩ := h.next
    have hlk := hmn.look intKeyed Tryz.underlying67 (Tryz.zeroValue3 _) (int_key hx)
    rw [(hnx x).1] at hlk
    clear hnx hmn mn
    have c6 := h.cell.cells.c6
    have hbb : (y != S.nx x) = false := by rw [← HO.out]; simp
    clear HO
    generalize S.nx x = nx at *
    go_wp2_with fail
    clear hlk c6 hbb
    refine (chipCut_any _ h hci).mono ?_
    rintro e w3 ⟨rfl, h3, t3⟩
    have hr3 := hr.turned t3 hdis
    replace t3 := t2.trans t3
    have c8 := h3.cell.cells.c8
    go_wp2_with fail
    refine (chipHas_any _ _ _ x _ h3.weak hx).mono ?_
    rw [hwk, hw]
    rintro e w4 ⟨rfl, q4⟩
    have h4 := h3.below q4
    have t4 := t3.trans (Turned.of_below F q4)
    have hr4 := hr3.below q4 (Nat.le_refl _)
    clear c8 h3 t3 q4 hr3
    go_wp2_with fail
    go_ret
    exact ⟨rfl, Does.of w h4 t4 (by omega)⟩

/-! ### Force -/
end
end Go.Proofs.YtgamakejaknagaaGreat
