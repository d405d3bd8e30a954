/-
  The code of layer 6 (ecc), as it landed: blank, sector.
-/
import Derived.Test.YtaabgfameegomaaEccCode2
import Derived.Test.YtaabgfameegomaaEccPlain
import Derived.RangeFuncRecord
namespace Go.Proofs.Ytaabgfameegomaa
open Go.RowKit
set_option linter.unusedVariables false
set_option maxRecDepth 8192

theorem block_new (w : World) (C : Array Value) (T : TypeId) : (w.alloc (.cells C T)).heap[w.heap.size]? = some (.cells C T (0, 0)) := World.alloc_heap_new w _
theorem lt_of_block {w : World} {g : Nat} {o : Obj} (h : w.heap[g]? = some o) : g < w.heap.size := by
  rcases Nat.lt_or_ge g w.heap.size with h' | h'
  · exact h'
  · rw [Array.getElem?_eq_none h'] at h; cases h
theorem block_below {w w' : World} {g B : Nat} {o : Obj} (h : w.heap[g]? = some o) (hb : Below B w w') (hg : g < B) : w'.heap[g]? = some o := by rw [hb.block g hg]; exact h
theorem cell_of_blk {w : World} {g : Nat} {cs : Array Value} {t : TypeId} {fr : Nat × Nat} (h : w.heap[g]? = some (.cells cs t fr)) (i : Nat) : w.cell? ⟨g, i, none⟩ = cs[i]? := by simp [World.cell?, h]
theorem unfrozen_of_blk {w : World} {g : Nat} {cs : Array Value} {t : TypeId} (h : w.heap[g]? = some (.cells cs t (0, 0))) (i : Nat) : w.frozen? ⟨g, i, none⟩ = false := by simp [World.frozen?, h]

theorem block_set {w : World} {g i : Nat} {cs : Array Value} {t : TypeId} {fr : Nat × Nat} (h : w.heap[g]? = some (.cells cs t fr)) (v : Value) : (w.setCell ⟨g, i, none⟩ v).heap[g]? = some (.cells (cs.setIfInBounds i v) t fr) := by
  rw [setCell_eq_setRow w g i cs t fr v h]
  exact setRow_heap w g _ _ t _ h
/-- A row of one kind does not lie in a block that has no such cells. -/
theorem Row.apart {k : IntKind} {w : World} {a : Option Addr} {len cap : Nat} {z : List Int} (h : Row k w a len cap z) {g : Nat} {cs : Array Value} {t : TypeId} {fr : Nat × Nat} (hg : w.heap[g]? = some (.cells cs t fr)) (hk : ∀ (i : Nat) (x : Int), cs[i]? ≠ some (Value.int k x)) (h0 : 0 < len) :
    ∀ b off, a = some ⟨b, off, none⟩ → b ≠ g := by
  rintro b off rfl rfl
  obtain ⟨b', off', he, hbs, hcell⟩ := h.hcell h0
  simp only [Option.some.injEq, Addr.mk.injEq, and_true] at he
  obtain ⟨rfl, rfl⟩ := he
  have := hcell 0 h0
  rw [cell_of_blk hg] at this
  exact hk _ _ this
theorem Row.setOther {k : IntKind} {w : World} {a : Option Addr} {len cap : Nat} {z : List Int} (h : Row k w a len cap z) (g i : Nat) (v : Value) (hne : 0 < len → ∀ b off, a = some ⟨b, off, none⟩ → b ≠ g) : Row k (w.setCell ⟨g, i, none⟩ v) a len cap z := by
  refine ⟨h.hlen, h.hcap, h.hmax, h.hnil, fun h0 => ?_⟩
  obtain ⟨b, off, rfl, hbs, hcell⟩ := h.hcell h0
  refine ⟨b, off, rfl, by simpa using hbs, fun j hj => ?_⟩
  rw [World.cell?_setCell_far w _ _ v (fun e => hne h0 b off rfl e.symm)]
  exact hcell j hj
/-- Where a block of three cells is filled. -/
theorem Row.set3 {k : IntKind} {w : World} {a : Option Addr} {len cap : Nat} {z : List Int} (h : Row k w a len cap z) (g i j l : Nat) (u v x : Value) (hne : 0 < len → ∀ b off, a = some ⟨b, off, none⟩ → b ≠ g) : Row k (((w.setCell ⟨g, i, none⟩ u).setCell ⟨g, j, none⟩ v).setCell ⟨g, l, none⟩ x) a len cap z :=
  ((h.setOther g i u hne).setOther g j v hne).setOther g l x hne

set_option maxHeartbeats 800000 in
theorem blank_not {b p : Int} {s n f R m W L : Nat} (G : GOk b p s n f R m W L) (rb off cap : Nat) (z : List Int) (w : World) (hr : Row .u8 w (some ⟨rb, off, none⟩) L cap z) (hz : IsB z) (hlast : z[L - 1]?.getD 0 ≠ 255) :
    Calls Try.prog 32 #[.agg #[.int .i64 b, .int .i64 p, .int .i64 ((s : Nat)), .int .i64 ((n : Nat)), .int .i64 ((f : Nat))], .slice (some ⟨rb, off, none⟩) L cap] w fun e w' => e = .returned (.bool false) ∧ Below w.heap.size w w' := by
  have hcap := hr.hcap
  have hmax := hr.hmax
  have hL2 := G.L2
  obtain ⟨b', off', he, hbs, hcell⟩ := hr.hcell (by omega)
  simp only [Option.some.injEq, Addr.mk.injEq, and_true] at he
  obtain ⟨rfl, rfl⟩ := he
  have hc := hcell (L - 1) (by omega)
  clear hcell
  have hc0 := (below_one w (.cells #[.int .i64 b, .int .i64 p, .int .i64 s, .int .i64 n, .int .i64 f] 23)).cell (p := ⟨rb, off + (L - 1), none⟩) hbs
  rw [hc] at hc0
  have u1 : IntKind.i64.wrap ((L : Int) - 1) = ((L - 1 : Nat) : Int) := by rw [IntKind.wrap_i64]; unfold maxLen at hmax; omega
  have u2 : (L : Int) - 1 = ((L - 1 : Nat) : Int) := by omega
  clear G hc
  generalize z[L - 1]?.getD 0 = zl at *
  have hne : (zl != 255) = true := by simpa using hlast
  have hne2 : ¬ zl = 255 := hlast
  generalize L - 1 = L1 at *
  go_enter Try.func32, Try.ntmps32
  go_wp2_with fail
  go_ret
  exact ⟨rfl, below_one _ _⟩
set_option maxHeartbeats 1600000 in
theorem blank_any (hB : HBitsC) {b p : Int} {s n f R m W L : Nat} (G : GOk b p s n f R m W L) (rb off cap : Nat) (z : List Int) (w : World) (hr : Row .u8 w (some ⟨rb, off, none⟩) L cap z) (hz : IsB z) (hlast : z[L - 1]?.getD 0 = 255) :
    Calls Try.prog 32 #[.agg #[.int .i64 b, .int .i64 p, .int .i64 ((s : Nat)), .int .i64 ((n : Nat)), .int .i64 ((f : Nat))], .slice (some ⟨rb, off, none⟩) L cap] w fun e w' => e = .returned (.bool (blankTo f z W s)) ∧ Below w.heap.size w w' := by
  have hcap := hr.hcap
  have hmax := hr.hmax
  have HL : Hid (z.length = L) := hr.hlen
  have hL2 := G.L2
  have hs2 := G.hs
  have hn2 := G.hn
  have hf2 := G.hf
  have hm2 := G.m2
  have HW : Hid (n + m = W) := G.hW
  obtain ⟨b', off', he, hbs, hcell⟩ := hr.hcell (by omega)
  simp only [Option.some.injEq, Addr.mk.injEq, and_true] at he
  obtain ⟨rfl, rfl⟩ := he
  have hc := hcell (L - 1) (by omega)
  rw [hlast] at hc
  clear hcell hlast
  have hc0 := (below_one w (.cells #[.int .i64 b, .int .i64 p, .int .i64 s, .int .i64 n, .int .i64 f] 23)).cell (p := ⟨rb, off + (L - 1), none⟩) hbs
  rw [hc] at hc0
  have u1 : IntKind.i64.wrap ((L : Int) - 1) = ((L - 1 : Nat) : Int) := by rw [IntKind.wrap_i64]; unfold maxLen at hmax; omega
  have u2 : (L : Int) - 1 = ((L - 1 : Nat) : Int) := by omega
  have hcut : ∀ i, i < s → ∀ w, _ := fun i hi => cut_any hB G hi rb off L cap hcap hmax
  have HAT : Hid (∀ i, i < s → i * W + n + m + 1 ≤ L) := fun i hi => by have := G.at_ hi; have := HW.out; omega
  have HNOU : Hid (∀ i, _ = _) := fun i => nou_halves z n m W i HW.out
  generalize hLL : L - 1 = L1 at *
  clear G hc
  go_enter Try.func32, Try.ntmps32
  go_wp2_with fail
  have gb := gbox_new w 23 b p s n f
  have q0 := below_one w (.cells #[.int .i64 b, .int .i64 p, .int .i64 s, .int .i64 n, .int .i64 f] 23)
  generalize w.alloc (.cells #[.int .i64 b, .int .i64 p, .int .i64 s, .int .i64 n, .int .i64 f] 23) = w0 at *
  generalize hgg : w.heap.size = g at gb
  replace hr := hr.below q0 (Nat.le_refl _)
  clear hc0 hbs u1 u2
  go_loopw [18] (fun y wr => ∃ i : Nat, i ≤ s ∧ y = .int .i64 i ∧ blankTo f z W i = true ∧ Below w0.heap.size w0 wr) (fun y _ => s - (intOf y).toNat)
  case atStart => exact ⟨0, Nat.zero_le _, rfl, rfl, Below.refl _ _⟩
  case round =>
    obtain ⟨i, hi, rfl, hbl, q⟩ := hrel
    have HBL : Hid (blankTo f z W i = true) := hbl
    clear hbl
    by_cases hlt : i < s
    · have gb1 := gb.below q (Nat.le_refl _)
      obtain ⟨_, c0, c1, c2, c3, c4⟩ := gb1
      have u5 : (i : Int) < (s : Int) := by omega
      have hct := hcut i hlt
      have hat := HAT.out i hlt
      have HN := HNOU.out i
      go_wp2_with fail
      refine (hct _).mono ?_
      rintro e w1 ⟨rfl, q1⟩
      replace q := btrans q q1
      clear q1 c0 c1 c2 c3 c4 hct
      have hr1 := hr.below q (Nat.le_refl _)
      have ra := row_part hr1 (i * W) n n (by omega) (Nat.le_refl _) (by unfold maxLen; omega)
      have rb' := row_part hr1 (i * W + n) m m (by omega) (Nat.le_refl _) (by unfold maxLen; omega)
      have ba := isB_part hz (i * W) n
      have bb := isB_part hz (i * W + n) m
      have o1 := onesTo_bd (part z (i * W) n) (8 * n)
      have o2 := onesTo_bd (part z (i * W + n) m) (8 * m)
      have oa := ones_any _ _ _ _ _ ra ba (by omega)
      have ob := ones_any _ _ _ _ _ rb' bb (by omega)
      rw [← Nat.add_assoc] at ob
      have HN2 : Hid _ := HN
      clear HN
      clear ra rb' ba bb
      generalize onesTo (part z (i * W) n) (8 * n) = oA at *
      generalize onesTo (part z (i * W + n) m) (8 * m) = oB at *
      have v1 : IntKind.i64.wrap (8 * ((n : Int) + (m : Int))) = 8 * ((n : Int) + (m : Int)) := by rw [IntKind.wrap_i64]; omega
      go_wp2_with fail
      refine oa.mono ?_
      rintro e w' ⟨rfl, rfl⟩
      go_wp2_with fail
      refine ob.mono ?_
      rintro e w' ⟨rfl, rfl⟩
      clear oa ob
      obtain ⟨_, c0, c1, c2, c3, c4⟩ := gb.below q (Nat.le_refl _)
      by_cases hbig : 8 * ((n : Int) + (m : Int)) - oA - oB ≤ (f : Int)
      · have HNX : Hid (blankTo f z W (i + 1) = true) := by show _ = _; unfold blankTo; rw [HBL.out, HN2.out]; simp; omega
        have v2 : ¬ (f : Int) < 8 * ((n : Int) + (m : Int)) - oA - oB := by omega
        go_wp2_with fail
        go_roundw
        case rel => exact ⟨i + 1, by omega, by go_num, HNX.out, q⟩
        case measure => simp [intOf]; omega
      · have HNX : Hid (blankTo f z W s = false) := blankTo_no hlt (by rw [HN2.out]; exact hbig)
        have v2 : (f : Int) < 8 * ((n : Int) + (m : Int)) - oA - oB := by omega
        go_wp2_with fail
        go_ret
        exact ⟨ret_bool HNX.out.symm, btrans q0 q⟩
    · have e : i = s := by omega
      subst e
      go_wp2_with fail
      go_ret
      exact ⟨ret_bool HBL.out.symm, btrans q0 q⟩

theorem noU8 : ∀ (i : Nat) (x : Int), (#[Value.slice none 0 0, .int .i64 0, .int .i64 0] : Array Value)[i]? ≠ some (Value.int .u8 x) := by
  intro i x h
  rcases (show i = 0 ∨ i = 1 ∨ i = 2 ∨ 3 ≤ i by omega) with rfl | rfl | rfl | h3
  · simp at h
  · simp at h
  · simp at h
  · rw [Array.getElem?_eq_none (by simpa using h3)] at h; cases h
set_option maxHeartbeats 800000 in
theorem sector_any (hD : HDecC) (t : Nat) (a c : Option Addr) (len cap len' cap' : Nat) (x m : List Int) (w : World) (rx : Row .u8 w a len cap x) (bx : IsB x) (rm : Row .u8 w c len' cap' m) (bm : IsB m) (hl : len ≤ 100) (hl' : len' ≤ 100) (hmy : mayB t len (len' : Nat) = true) :
    Calls Try.prog 33 #[.int .i64 t, .slice a len cap, .slice c len' cap'] w fun e w' => ∃ (s : Sec) (av : Option Addr) (cv : Nat), IsSec t x m s ∧ e = .returned (.agg #[.slice av s.d.length cv, .int .i64 s.n, .int .i64 s.e]) ∧ Row .u8 w' av s.d.length cv s.d ∧ Below w.heap.size w w' := by
  go_enter Try.func33, Try.ntmps33
  go_wp2_with fail
  have q0 := below_one w (.cells #[.slice none 0 0, .int .i64 0, .int .i64 0] 44)
  have bx0 := block_new w #[.slice none 0 0, .int .i64 0, .int .i64 0] 44
  generalize w.alloc (.cells #[.slice none 0 0, .int .i64 0, .int .i64 0] 44) = w0 at *
  generalize hgg : w.heap.size = g at bx0
  refine (hD.yes t _ _ _ _ _ _ x m _ (rx.below q0 (Nat.le_refl _)) bx (rm.below q0 (Nat.le_refl _)) bm hl hl' hmy).mono ?_
  have hg0 : g < w0.heap.size := lt_of_block bx0
  rintro e w1 (⟨d, k, nn, hdec, a1, cp1, b1, cq1, rfl, rd, rk, qq⟩ | ⟨hno, a1, cp1, b1, cq1, rfl, rd, rk, qq⟩)
  · have bx1 := block_below bx0 qq hg0
    have c0 := cell_of_blk bx1 0
    have c1 := cell_of_blk bx1 1
    have c2 := cell_of_blk bx1 2
    have f0 := unfrozen_of_blk bx1 0
    have f1 := unfrozen_of_blk bx1 1
    have f2 := unfrozen_of_blk bx1 2
    clear bx0 hD
    have HIS : Hid (IsSec t x m ⟨d, nn, 0⟩) := .inl ⟨rfl, k, hdec⟩
    have ne := rd.apart bx1 noU8
    have HRD : Hid _ := rd.set3 g 0 1 2 (.slice a1 d.length cp1) (.int .i64 (nn : Int)) (.int .i64 0) ne
    have HBB : Hid (Below w.heap.size w (((w1.setCell ⟨g, 0, none⟩ (.slice a1 d.length cp1)).setCell ⟨g, 1, none⟩ (.int .i64 (nn : Int))).setCell ⟨g, 2, none⟩ (.int .i64 0))) := (((btrans q0 qq).setCell (show w.heap.size ≤ g by omega) _).setCell (show w.heap.size ≤ g by omega) _).setCell (show w.heap.size ≤ g by omega) _
    have bx2 := block_set (i := 2) (block_set (i := 1) (block_set (i := 0) bx1 (.slice a1 d.length cp1)) (.int .i64 (nn : Int))) (.int .i64 0)
    clear rd rk qq hdec ne
    go_wp2_with fail
    clear bx1 c0 c1 c2 f0 f1 f2
    generalize ((w1.setCell ⟨g, 0, none⟩ (.slice a1 d.length cp1)).setCell ⟨g, 1, none⟩ (.int .i64 (nn : Int))).setCell ⟨g, 2, none⟩ (.int .i64 0) = w2 at *
    have c0 : w2.cell? ⟨g, 0, none⟩ = some (.slice a1 d.length cp1) := cell_of_blk bx2 0
    have c1 : w2.cell? ⟨g, 1, none⟩ = some (.int .i64 (nn : Int)) := cell_of_blk bx2 1
    have c2 : w2.cell? ⟨g, 2, none⟩ = some (.int .i64 0) := cell_of_blk bx2 2
    refine bodyPost_ret (v := .agg #[.slice a1 d.length cp1, .int .i64 (nn : Int), .int .i64 0]) (by simp [results, Try.results33, go_sem, c0, c1, c2]) rfl ?_
    exact ⟨⟨d, nn, 0⟩, a1, cp1, HIS.out, rfl, HRD.out, HBB.out⟩
  · have bx1 := block_below bx0 qq hg0
    have c0 := cell_of_blk bx1 0
    have c1 := cell_of_blk bx1 1
    have c2 := cell_of_blk bx1 2
    have f0 := unfrozen_of_blk bx1 0
    have f1 := unfrozen_of_blk bx1 1
    have f2 := unfrozen_of_blk bx1 2
    clear bx0 hD
    have HIS : Hid (IsSec t x m ⟨[], 0, 50⟩) := .inr ⟨rfl, rfl, rfl, hno⟩
    rw [show ([] : List Int).length = 0 from rfl] at rd rk ⊢
    have HRD : Hid _ := rd.set3 g 0 1 2 (.slice a1 0 cp1) (.int .i64 0) (.int .i64 50) (fun h => absurd h (by omega))
    have HBB : Hid (Below w.heap.size w (((w1.setCell ⟨g, 0, none⟩ (.slice a1 0 cp1)).setCell ⟨g, 1, none⟩ (.int .i64 0)).setCell ⟨g, 2, none⟩ (.int .i64 50))) := (((btrans q0 qq).setCell (show w.heap.size ≤ g by omega) _).setCell (show w.heap.size ≤ g by omega) _).setCell (show w.heap.size ≤ g by omega) _
    have bx2 := block_set (i := 2) (block_set (i := 1) (block_set (i := 0) bx1 (.slice a1 0 cp1)) (.int .i64 0)) (.int .i64 50)
    clear rd rk qq hno
    go_wp2_with fail
    clear bx1 c0 c1 c2 f0 f1 f2
    generalize ((w1.setCell ⟨g, 0, none⟩ (.slice a1 0 cp1)).setCell ⟨g, 1, none⟩ (.int .i64 0)).setCell ⟨g, 2, none⟩ (.int .i64 50) = w2 at *
    have c0 : w2.cell? ⟨g, 0, none⟩ = some (.slice a1 0 cp1) := cell_of_blk bx2 0
    have c1 : w2.cell? ⟨g, 1, none⟩ = some (.int .i64 0) := cell_of_blk bx2 1
    have c2 : w2.cell? ⟨g, 2, none⟩ = some (.int .i64 50) := cell_of_blk bx2 2
    refine bodyPost_ret (v := .agg #[.slice a1 0 cp1, .int .i64 0, .int .i64 50]) (by simp [results, Try.results33, go_sem, c0, c1, c2]) rfl ?_
    exact ⟨⟨[], 0, 50⟩, a1, cp1, HIS.out, rfl, HRD.out, HBB.out⟩

end Go.Proofs.Ytaabgfameegomaa
