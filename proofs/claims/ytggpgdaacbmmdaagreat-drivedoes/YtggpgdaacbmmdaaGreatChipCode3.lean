/-
  The code of layer 7 (chip), as it landed: blank, page, lay, wipe.
-/
import Derived.Test.YtggpgdaacbmmdaaGreatChipCode2
namespace Go.Proofs.YtggpgdaacbmmdaaGreat
open Go.RowKit Go.Maps
set_option linter.unusedVariables false
set_option maxRecDepth 8192

/-- A spot in a box. -/
structure SpotBox (w : World) (g : Nat) (x y : Int) : Prop where
  lt : g < w.heap.size
  c0 : w.cell? ⟨g, 0, none⟩ = some (.int .i64 x)
  c1 : w.cell? ⟨g, 1, none⟩ = some (.int .i64 y)
theorem SpotBox.same {w w' : World} {g : Nat} {x y : Int} (h : SpotBox w g x y) (hs : w.heap.size ≤ w'.heap.size) (hb : w'.heap[g]? = w.heap[g]?) : SpotBox w' g x y :=
  ⟨by have := h.lt; omega, (World.cell?_of_block (w := w) hb).trans h.c0, (World.cell?_of_block (w := w) hb).trans h.c1⟩
theorem SpotBox.below {w w' : World} {g : Nat} {x y : Int} (h : SpotBox w g x y) (hb : Below w.heap.size w w') : SpotBox w' g x y := h.same hb.size (hb.block g h.lt)
theorem spotBox_new (w : World) (x y : Int) : SpotBox (w.alloc (.cells #[.int .i64 x, .int .i64 y] 100)) w.heap.size x y := by
  refine ⟨by simp, ?_, ?_⟩ <;> (rw [World.cell?_alloc_at _ _ _ _ rfl]; rfl)

section
variable {G : Geo} {B : CB} {F : Nat → Prop} {N : Nat} {S : CS}

theorem row_ff {w : World} {q L : Nat} (h : w.heap[q]? = some (.cells ((List.replicate L (255 : Int)).map (Value.int .u8)).toArray 5 (0, 0))) (hm : L ≤ maxLen) : Row .u8 w (some ⟨q, 0, none⟩) L L (List.replicate L 255) :=
  isB_rowA (owns_of_heap (base := 0) h (by simp) (Nat.zero_le _) hm)

theorem chipBlank_any (w : World) (h : CellOk G B S w) (hBc : B.c < w.heap.size) :
    Calls Tryz.prog 103 #[.pointer (some ⟨B.c, 0, none⟩)] w fun e w' => ∃ q, w.heap.size ≤ q ∧ e = .returned (.slice (some ⟨q, 0, none⟩) G.L G.L) ∧ w'.heap[q]? = some (.cells ((List.replicate G.L (255 : Int)).map (Value.int .u8)).toArray 5 (0, 0)) ∧ Below w.heap.size w w' := by
  have hL := G.ok.L2
  have hr0 := row_new .u8 w 5 w.heap.size rfl [255] 1 rfl (by unfold maxLen; omega) #[.int .u8 255] rfl
  have q0 := below_one w (.cells #[.int .u8 255] 5)
  have h0 : CellOk G B S (w.alloc (.cells #[.int .u8 255] 5)) := (q0.block _ hBc).trans h
  have HB : Hid (Below w.heap.size w (w.alloc (.cells #[.int .u8 255] 5))) := q0
  clear q0 h
  go_enter Tryz.func103, Tryz.ntmps103
  go_wp2_with fail
  generalize w.alloc (.cells #[.int .u8 255] 5) = w0 at *
  refine (chipSize_any _ h0).mono ?_
  rintro e w1 ⟨rfl, q1⟩
  have hr1 := hr0.below q1 (Nat.le_refl _)
  go_wp2_with fail
  refine (repeat_any _ G.L _ hr1 (by omega) (by omega)).mono ?_
  rintro e w2 ⟨q, hq, rfl, hg, q2⟩
  go_wp2_with fail
  go_ret
  have h1 := HB.out.size
  have h2 := q1.size
  exact ⟨q, by omega, rfl, hg, btrans (btrans HB.out q1) q2⟩

theorem chipPage_any (x y : Int) (hx : I64 x) (hy : I64 y) (w : World) (h : ChipAt G B F N S w) :
    Calls Tryz.prog 85 #[.pointer (some ⟨B.c, 0, none⟩), spotV x y] w fun e w' => ∃ q, e = .returned (.slice (some ⟨q, 0, none⟩) G.L G.L) ∧ Row .u8 w' (some ⟨q, 0, none⟩) G.L G.L (S.pg x y) ∧ Below w.heap.size w w' := by
  obtain ⟨kl, hk⟩ := spot_key hx hy
  have hL := G.ok.L2
  have q0 := below_one w (.cells #[.int .i64 x, .int .i64 y] 100)
  have bx := spotBox_new w x y
  have h0 := h.below q0
  obtain ⟨m, hm, hp⟩ := h0.pages
  have hlk := MapIs.look_ok (w := (w.alloc (.cells #[.int .i64 x, .int .i64 y] 100)).drew) (hm.same rfl) spotKeyed Tryz.underlying64 (Tryz.zeroValue38 _) hk
  have HB : Hid (Below w.heap.size w (w.alloc (.cells #[.int .i64 x, .int .i64 y] 100))) := q0
  obtain ⟨_, hlen, hpg⟩ := hp x y
  have c5 := h0.cell.cells.c5
  have hc := h0.cell
  have hlt := h0.lt
  have HC : Hid (CellOk G B S (w.alloc (.cells #[.int .i64 x, .int .i64 y] 100)).drew) := hc
  clear q0 h hm hp h0 hc
  generalize m (spotV x y) = mv at *
  have b0 := bx.c0
  have b1 := bx.c1
  clear bx
  go_enter Tryz.func85, Tryz.ntmps85
  go_wp2_with fail
  generalize hg0 : w.heap.size = g at b0 b1 ⊢
  have HG0 : Hid (w.heap.size = g) := hg0
  clear hg0
  generalize w.alloc (.cells #[.int .i64 x, .int .i64 y] 100) = w0 at *
  rcases hpg with ⟨rfl, hz⟩ | ⟨q, rfl, _, _, hr⟩
  · have HZ : Hid (S.pg x y = List.replicate G.L 255) := hz
    clear hz hlen
    simp only [Option.getD_none, Option.isSome_none] at hlk
    go_region
    go_wp2_with fail
    refine (chipBlank_any _ HC.out hlt).mono ?_
    rintro e w1 ⟨q, hq, rfl, hg, q1⟩
    go_wp2_with fail
    go_ret
    refine ⟨q, rfl, ?_, ?_⟩
    · rw [HZ.out]; exact row_ff hg (by unfold maxLen; omega)
    · exact btrans HB.out.drew q1
  · have HR : Hid (Row .u8 w0 (some ⟨q, 0, none⟩) G.L G.L (S.pg x y)) := hr
    clear hr hlen
    simp only [Option.getD_some, Option.isSome_some] at hlk
    go_region
    go_wp2_with fail
    go_ret
    exact ⟨q, rfl, HR.out.drewN 1, HB.out.drew⟩
/-- A page is laid. -/
def CS.lay (S : CS) (x y : Int) (z : List Int) : CS :=
  { S with pg := fun b p => if b = x ∧ p = y then z else S.pg b p, nx := fun b => if b = x then max (S.nx x) (y + 1) else S.nx b }
/-- ff behind it. -/
def padF (L : Nat) (z : List Int) : List Int := z ++ List.replicate (L - z.length) 255
theorem padF_len {L : Nat} {z : List Int} (h : z.length ≤ L) : (padF L z).length = L := by unfold padF; simp; omega
theorem isB_padF {L : Nat} {z : List Int} (h : IsB z) : IsB (padF L z) := fun v hv => by
  unfold padF at hv
  rcases List.mem_append.1 hv with hv | hv
  · exact h v hv
  · rw [List.mem_replicate] at hv; rw [hv.2]; decide
theorem padF_copy {L : Nat} {z : List Int} (h : z.length ≤ L) : (List.replicate L (255 : Int)).take 0 ++ z.take (min z.length L) ++ (List.replicate L (255 : Int)).drop (0 + min z.length L) = padF L z := by
  rw [Nat.min_eq_left h, List.take_of_length_le (Nat.le_refl _)]
  unfold padF
  simp

set_option maxHeartbeats 1600000 in
theorem chipLay_any (x y : Int) (hx : I64 x) (hy : 0 ≤ y ∧ y < 64) (a : Option Addr) (len cap : Nat) (z : List Int) (w : World) (h : ChipAt G B F N S w) (hr : Row .u8 w a len cap z) (hz : IsB z) (hlen : len ≤ G.L) (hN : N < 1000000) :
    Calls Tryz.prog 72 #[.pointer (some ⟨B.c, 0, none⟩), spotV x y, .slice a len cap] w fun e w' => (∃ r, e = .returned r) ∧ Does G B F (N + 2) w (S.lay x y (padF G.L z)) w' := by
  obtain ⟨kl, hk⟩ := spot_key (p := y) hx (by unfold I64; omega)
  have hL := G.ok.L2
  have hLm : G.L ≤ maxLen := by unfold maxLen; omega
  have q0 := below_one w (.cells #[.int .i64 x, .int .i64 y] 100)
  have bx := spotBox_new w x y
  have h0 := h.below q0
  have hr0 := hr.below q0 (Nat.le_refl _)
  have HS : Hid (w.heap.size ≤ w.heap.size) := Nat.le_refl _
  have HF : Hid (∀ k, F k → k < w.heap.size) := h.fresh
  clear h hr
  go_enter Tryz.func72, Tryz.ntmps72
  go_wp2_with fail
  have hg0 : Hid (w.heap.size = w.heap.size) := rfl
  generalize hgg : w.heap.size = g at bx hg0 ⊢
  have HG : Hid (w.heap.size = g) := hgg
  clear hgg hg0
  have HQ : Hid (Below w.heap.size w (w.alloc (.cells #[.int .i64 x, .int .i64 y] 100))) := q0
  clear q0
  generalize w.alloc (.cells #[.int .i64 x, .int .i64 y] 100) = w0 at *
  refine (chipBlank_any _ h0.cell h0.lt).mono ?_
  rintro e w1 ⟨q, hq, rfl, hgq, q1⟩
  have h1 := h0.below q1
  have hr1 := hr0.below q1 (Nat.le_refl _)
  have bx1 := bx.below q1
  obtain ⟨w2, hcopy, hg2, hgr2⟩ := copy_gen (P := Tryz.prog) (w := w1) (dT := 38) (elem := 5) (ty := 3) (o := 0) (d := G.L) (dc := G.L) Tryz.underlying38 (by kernel_rfl) hgq (by simp) hr1
  have hzl := hr0.hlen
  have hmin : min len G.L = min z.length G.L := by rw [hzl]
  rw [hmin, padF_copy (by omega)] at hg2
  -- the new row's block is none of the chip's
  have hqF : ¬ F q := fun hf => by have := h0.fresh q hf; omega
  have hqg : g ≠ q := fun e => by have := bx.lt; omega
  have h2 : ChipAt G B F N S w2 := h1.kept hgr2.size fun k hk => hgr2.block k (h1.fresh k hk) (fun e => hqF (by cases e; exact hk))
  have bx2 := bx1.same hgr2.size (hgr2.block g bx1.lt (fun e => hqg (by cases e; rfl)))
  have hlt2 : q < w2.heap.size := (Array.getElem?_eq_some_iff.1 hg2).1
  have hrow : Row .u8 w2 (some ⟨q, 0, none⟩) G.L G.L (padF G.L z) := isB_rowA (owns_of_heap (base := 0) hg2 (by rw [List.length_map, padF_len (by omega)]) (Nat.zero_le _) hLm)
  have HT2 : Hid (Turned F w w2) := ((Turned.of_below F HQ.out).trans (Turned.of_below F q1)).grown hgr2 (fun k e => by cases e; exact .inr (by have := HQ.out.size; omega))
  obtain ⟨m, hm, hp⟩ := h2.pages
  obtain ⟨w3, hst, hm3, hgr3⟩ := MapIs.store (w := w2.drew) (hm.same rfl) spotKeyed Tryz.underlying64 (by unfold maxLen; omega) hk (.slice (some ⟨q, 0, none⟩) G.L G.L)
  have h3 := h2.drew.put_page (w' := w3) (fun b p => (hp b p).same (Nat.le_refl _) (fun _ _ _ => rfl)) x y q (padF G.L z) hqF (isB_padF hz) (hrow.drewN 1) hlt2 hm3 hgr3
  have bx3 : SpotBox w3 g x y := bx2.same hgr3.size (hgr3.block g bx2.lt (fun e => by
    have e' : g = B.mp := by cases e; rfl
    have : F g := e' ▸ h2.inF _ (by simp [CB.all])
    have := HF.out g this
    have := HG.out
    omega))
  have HT3 : Hid (Turned F w w3) := HT2.out.drew.grown hgr3 (fun k e => by cases e; exact .inl (h2.inF _ (by simp [CB.all])))
  obtain ⟨mn, hn, hnx⟩ := h3.next
  have hlk := MapIs.look (w := w3.drew) (hn.same rfl) intKeyed Tryz.underlying65 (Tryz.zeroValue3 _) (int_key hx)
  rw [(hnx x).1] at hlk
  have hnxx := (hnx x).2
  have c5 := h2.cell.cells.c5
  have c6 := h3.cell.cells.c6
  obtain ⟨b0, b1⟩ := (show w2.cell? ⟨g, 0, none⟩ = some (.int .i64 x) ∧ w2.cell? ⟨g, 1, none⟩ = some (.int .i64 y) from ⟨bx2.c0, bx2.c1⟩)
  have d0 := bx3.c0
  have d1 := bx3.c1
  have fin : Hid (∀ (v : Int) (w4 : World), v = max (S.nx x) (y + 1) → MapIs Tryz.prog 3 w4 B.mn (N + 1 + 1) (mput mn (.int .i64 x) (.int .i64 v)) → w3.drew.grownBy w4 (some B.mn) → Does G B F (N + 2) w (S.lay x y (padF G.L z)) w4) := fun v w4 hv hm4 hgr4 => by
    subst hv
    have h4 := h3.drew.put_next (w' := w4) hnx x (max (S.nx x) (y + 1)) (by have := hnxx; simp only at this; omega) hm4 hgr4
    refine ⟨_, h4, HT3.out.drew.grown hgr4 (fun k e => by cases e; exact .inl (h2.inF _ (by simp [CB.all]))), fun k hk => hk.imp id (fun e => ?_)⟩
    rw [e]
    have := HQ.out.size
    omega
  have hst4 : ∀ v : Int, ∃ w4, Sem.run Tryz.prog (Instr.mapUpdate 65 (.map (some B.mn)) (.int .i64 x) (.int .i64 v)) w3.drew = .ok () w4 ∧ MapIs Tryz.prog 3 w4 B.mn (N + 1 + 1) (mput mn (.int .i64 x) (.int .i64 v)) ∧ w3.drew.grownBy w4 (some B.mn) := fun v =>
    MapIs.store (w := w3.drew) (hn.same rfl) intKeyed Tryz.underlying65 (by unfold maxLen; omega) (int_key hx) (.int .i64 v)
  have hnxx' : 0 ≤ S.nx x ∧ S.nx x ≤ 64 := hnxx
  have hlk' : Sem.run Tryz.prog (Instr.lookup 65 (.map (some B.mn)) (.int .i64 x) false) w3.drew = .ok (.int .i64 (S.nx x)) w3.drew := hlk
  clear hlk hnxx hnx hn h3 hm3 hgr3 hp hm hrow hg2 hgr2 h2 bx2 bx3 bx1 bx h1 h0 hr1 hr0 hgq q1 hmin hzl hqg hqF hlt2
  generalize S.nx x = nx at *
  go_wp2_with fail
  clear hcopy
  go_region
  clear hst c5 b0 b1
  by_cases hmx : nx < y + 1
  · obtain ⟨w4, hst, hm4, hgr4⟩ := hst4 (y + 1)
    have HD : Hid (Does G B F (N + 2) w (S.lay x y (padF G.L z)) w4) := fin.out (y + 1) w4 (by omega) hm4 hgr4
    clear fin hst4 hm4 hgr4
    go_wp2_with fail
    go_region
    go_wp2_with fail
    go_end0
    exact ⟨⟨_, rfl⟩, HD.out⟩
  · have hmx' : y + 1 ≤ nx := by omega
    obtain ⟨w4, hst, hm4, hgr4⟩ := hst4 nx
    have HD : Hid (Does G B F (N + 2) w (S.lay x y (padF G.L z)) w4) := fin.out nx w4 (by omega) hm4 hgr4
    clear fin hst4 hm4 hgr4
    go_wp2_with fail
    go_region
    go_wp2_with fail
    go_end0
    exact ⟨⟨_, rfl⟩, HD.out⟩
end
end Go.Proofs.YtggpgdaacbmmdaaGreat
