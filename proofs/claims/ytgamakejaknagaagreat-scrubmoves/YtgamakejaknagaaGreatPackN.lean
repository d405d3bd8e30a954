/-
  The code of layer 7 (chip), as it landed: Weak, Geometry, New, Flip.
-/
import Derived.Test.YtgamakejaknagaaGreatPackM
namespace Go.Proofs.YtgamakejaknagaaGreat
open Go.RowKit Go.Maps
set_option linter.unusedVariables false
set_option maxRecDepth 8192

section
variable {G : Geo} {B : CB} {F : Nat → Prop} {N : Nat} {S : CS}

theorem chipGeometry_any (w : World) (h : CellOk G B S w) (hlt : B.c < w.heap.size) : Calls Tryz.prog 81 #[.pointer (some ⟨B.c, 0, none⟩)] w fun e w' => e = .returned (.agg #[.int .i64 G.b, .int .i64 G.p, .int .i64 G.s, .int .i64 G.n, .int .i64 G.f]) ∧ Below w.heap.size w w' := by
  have q0 := below_one w (.cells #[.int .i64 0, .int .i64 0, .int .i64 0, .int .i64 0, .int .i64 0] 23)
  have h0 : CellOk G B S (w.alloc (.cells #[.int .i64 0, .int .i64 0, .int .i64 0, .int .i64 0, .int .i64 0] 23)) := (q0.block _ hlt).trans h
  obtain ⟨c0, c1, c2, c3, c4, _⟩ := h0.cells
  clear h0 h q0
  go_enter Tryz.func81, Tryz.ntmps81
  go_wp2
  refine bodyPost_ret (v := .agg #[.int .i64 G.b, .int .i64 G.p, .int .i64 G.s, .int .i64 G.n, .int .i64 G.f]) (by simp [results, Tryz.results81, go_sem]) rfl ?_
  exact ⟨rfl, below_one _ _⟩

/-- A chip that was just made, the first k of these blocks marked. -/
def CS.fresh (L : Nat) (ps : List Int) (k : Nat) : CS where
  pg := fun _ _ => List.replicate L 255
  nx := fun _ => 0
  bd := fun b => decide (b ∈ ps.take k)
  wk := fun _ => false
  wr := fun _ _ _ => false
  fu := 0
  up := true
  ah := 0
  ke := 0
theorem CS.fresh_step (L : Nat) (ps : List Int) (k : Nat) (hk : k < ps.length) : (CS.fresh L ps k).mark (ps[k]?.getD 0) = CS.fresh L ps (k + 1) := by
  unfold CS.mark CS.fresh
  simp only [CS.mk.injEq, and_true, true_and]
  funext b
  rw [take_snocB ps k hk]
  by_cases hb : b = ps[k]?.getD 0
  · rw [if_pos hb]; symm; rw [decide_eq_true_iff]; simp [hb]
  · rw [if_neg hb, decide_eq_decide]; simp [hb]

theorem chip_new (G : Geo) (ps : List Int) (w : World) :
    ChipAt G ⟨w.heap.size + 5, w.heap.size, w.heap.size + 1, w.heap.size + 2, w.heap.size + 3, w.heap.size + 4, 0⟩ (fun x => w.heap.size ≤ x ∧ x < w.heap.size + 6) 0 (CS.fresh G.L ps 0)
      ((((((w.alloc (.map #[] 0)).alloc (.map #[] 0)).alloc (.map #[] 0)).alloc (.map #[] 0)).alloc (.map #[] 0)).alloc (.cells #[.int .i64 G.b, .int .i64 G.p, .int .i64 G.s, .int .i64 G.n, .int .i64 G.f, .map (some w.heap.size), .map (some (w.heap.size + 1)), .map (some (w.heap.size + 2)), .map (some (w.heap.size + 3)), .map (some (w.heap.size + 4)), .int .i64 0, .bool true, .int .i64 0, .int .i64 0] 72)) := by
  generalize hO : (Obj.cells #[.int .i64 G.b, .int .i64 G.p, .int .i64 G.s, .int .i64 G.n, .int .i64 G.f, .map (some w.heap.size), .map (some (w.heap.size + 1)), .map (some (w.heap.size + 2)), .map (some (w.heap.size + 3)), .map (some (w.heap.size + 4)), .int .i64 0, .bool true, .int .i64 0, .int .i64 0] 72) = O
  have s1 : (w.alloc (.map #[] 0)).heap.size = w.heap.size + 1 := by simp
  have s2 : ((w.alloc (.map #[] 0)).alloc (.map #[] 0)).heap.size = w.heap.size + 2 := by simp
  have s3 : (((w.alloc (.map #[] 0)).alloc (.map #[] 0)).alloc (.map #[] 0)).heap.size = w.heap.size + 3 := by simp
  have s4 : ((((w.alloc (.map #[] 0)).alloc (.map #[] 0)).alloc (.map #[] 0)).alloc (.map #[] 0)).heap.size = w.heap.size + 4 := by simp
  have s5 : (((((w.alloc (.map #[] 0)).alloc (.map #[] 0)).alloc (.map #[] 0)).alloc (.map #[] 0)).alloc (.map #[] 0)).heap.size = w.heap.size + 5 := by simp
  have m1 : ∀ k, MapIs Tryz.prog k (w.alloc (.map #[] 0)) w.heap.size 0 (fun _ => none) := fun k => mapIs_made _ _ _
  have m2 : ∀ k, MapIs Tryz.prog k ((w.alloc (.map #[] 0)).alloc (.map #[] 0)) (w.heap.size + 1) 0 (fun _ => none) := fun k => s1 ▸ mapIs_made _ _ _
  have m3 : ∀ k, MapIs Tryz.prog k (((w.alloc (.map #[] 0)).alloc (.map #[] 0)).alloc (.map #[] 0)) (w.heap.size + 2) 0 (fun _ => none) := fun k => s2 ▸ mapIs_made _ _ _
  have m4 : ∀ k, MapIs Tryz.prog k ((((w.alloc (.map #[] 0)).alloc (.map #[] 0)).alloc (.map #[] 0)).alloc (.map #[] 0)) (w.heap.size + 3) 0 (fun _ => none) := fun k => s3 ▸ mapIs_made _ _ _
  have m5 : ∀ k, MapIs Tryz.prog k (((((w.alloc (.map #[] 0)).alloc (.map #[] 0)).alloc (.map #[] 0)).alloc (.map #[] 0)).alloc (.map #[] 0)) (w.heap.size + 4) 0 (fun _ => none) := fun k => s4 ▸ mapIs_made _ _ _
  have up : ∀ (w0 : World) (o : Obj) (k n b : Nat) (m : Value → Option Value), MapIs Tryz.prog k w0 b n m → MapIs Tryz.prog k (w0.alloc o) b n m := fun w0 o k n b m h => h.same (Below.heap_alloc w0 o b h.lt)
  refine ⟨?_, ?_, ?_, ?_, ⟨_, up _ _ _ _ _ _ (up _ _ _ _ _ _ (up _ _ _ _ _ _ (up _ _ _ _ _ _ (up _ _ _ _ _ _ (m1 _))))), fun b p => ⟨fun v hv => ?_, by simp [CS.fresh], .inl ⟨rfl, rfl⟩⟩⟩,
    ⟨_, up _ _ _ _ _ _ (up _ _ _ _ _ _ (up _ _ _ _ _ _ (up _ _ _ _ _ _ (m2 _)))), fun b => ⟨rfl, by simp [CS.fresh]⟩⟩, ⟨_, up _ _ _ _ _ _ (up _ _ _ _ _ _ (up _ _ _ _ _ _ (m3 _))), fun b => ⟨by simp [CS.fresh], rfl⟩⟩,
    ⟨_, up _ _ _ _ _ _ (up _ _ _ _ _ _ (m4 _)), fun b => ⟨by simp [CS.fresh], rfl⟩⟩, ⟨_, up _ _ _ _ _ _ (m5 _), fun b p => ⟨fun x hx => by simp [CS.fresh] at hx, .inl ⟨rfl, fun x => rfl⟩⟩⟩, by simp [CS.fresh], by simp [CS.fresh], by simp [CS.fresh, I64]⟩
  · show (World.alloc _ O).heap[w.heap.size + 5]? = _
    rw [← s5, (MapKept.heap_alloc _ O).1, ← hO]
    rfl
  · simp [CB.all]
  · intro x hx
    simp only [CB.all, List.mem_cons, List.not_mem_nil, or_false] at hx
    omega
  · intro x hx
    simp only [World.size_alloc]
    omega
  · rw [show (CS.fresh G.L ps 0).pg b p = List.replicate G.L 255 from rfl, List.mem_replicate] at hv
    rw [hv.2]; decide

end
/-- A chip of the call's own. -/
def NewChip (G : Geo) (ps : List Int) (N : Nat) (w : World) (c : Nat) (w' : World) : Prop :=
  ∃ (B : CB) (F : Nat → Prop), (B.c = c ∧ B.lim = 0) ∧ ChipAt G B F N (CS.fresh G.L ps ps.length) w' ∧ (∀ x, F x → w.heap.size ≤ x) ∧ Below w.heap.size w w'
set_option maxHeartbeats 1600000 in
theorem chipNew_any (G : Geo) (a : Option Addr) (len cap : Nat) (ps : List Int) (w : World) (hr : Row .i64 w a len cap ps) (hw : ∀ n ∈ ps, (Lit.int .i64 n).wf = true) (hlen : len ≤ 100000) :
    Calls Tryz.prog 40 #[.agg #[.int .i64 G.b, .int .i64 G.p, .int .i64 G.s, .int .i64 G.n, .int .i64 G.f], .slice a len cap] w fun e w' =>
      ((∀ x ∈ ps, inB0 x G.b = true) ∧ ∃ c, e = .returned (.tuple #[.pointer (some ⟨c, 0, none⟩), .int .i64 0]) ∧ NewChip G ps len w c w') ∨
      ((∃ x ∈ ps, inB0 x G.b = false) ∧ e = .returned (.tuple #[.pointer none, .int .i64 1]) ∧ Below w.heap.size w w') := by
  have hmay := G.ok.may
  have gb := gbox_new w 23 G.b G.p G.s G.n G.f
  have q0 := below_one w (.cells #[.int .i64 G.b, .int .i64 G.p, .int .i64 G.s, .int .i64 G.n, .int .i64 G.f] 23)
  have hr0 := hr.below q0 (Nat.le_refl _)
  obtain ⟨_, c0, c1, c2, c3, c4⟩ := gb
  have HQ0 : Hid (Below w.heap.size w (w.alloc (.cells #[.int .i64 G.b, .int .i64 G.p, .int .i64 G.s, .int .i64 G.n, .int .i64 G.f] 23))) := q0
  have HN : Hid (∀ w1 : World, ChipAt G ⟨w1.heap.size + 5, w1.heap.size, w1.heap.size + 1, w1.heap.size + 2, w1.heap.size + 3, w1.heap.size + 4, 0⟩ (fun x => w1.heap.size ≤ x ∧ x < w1.heap.size + 6) 0 (CS.fresh G.L ps 0)
      ((((((w1.alloc (.map #[] 0)).alloc (.map #[] 0)).alloc (.map #[] 0)).alloc (.map #[] 0)).alloc (.map #[] 0)).alloc (.cells #[.int .i64 G.b, .int .i64 G.p, .int .i64 G.s, .int .i64 G.n, .int .i64 G.f, .map (some w1.heap.size), .map (some (w1.heap.size + 1)), .map (some (w1.heap.size + 2)), .map (some (w1.heap.size + 3)), .map (some (w1.heap.size + 4)), .int .i64 0, .bool true, .int .i64 0, .int .i64 0] 72))) := fun w1 => chip_new G ps w1
  have HR : Hid (Row .i64 w a len cap ps) := hr
  have HL : Hid (ps.length = len) := hr.hlen
  have hlm : len ≤ maxLen := Nat.le_trans hr.hcap hr.hmax
  clear hr q0
  go_enter Tryz.func40, Tryz.ntmps40
  go_wp2_with fail
  generalize hg0 : w.heap.size = g0 at c0 c1 c2 c3 c4 ⊢
  have HG0 : Hid (w.heap.size = g0) := hg0
  clear hg0
  generalize w.alloc (.cells #[.int .i64 G.b, .int .i64 G.p, .int .i64 G.s, .int .i64 G.n, .int .i64 G.f] 23) = w0 at *
  refine (eccCheck_yes _ _ _ _ _ _ hmay).mono ?_
  rintro e w1 ⟨rfl, q1⟩
  have hr1 := hr0.below q1 (Nat.le_refl _)
  have gb : GBox w0 g0 G.b G.p G.s G.n G.f := ⟨by have := HQ0.out.size; have := HG0.out; exact World.block_lt_of_cell? _ _ c0, c0, c1, c2, c3, c4⟩
  have gb1 := gb.below q1 (Nat.le_refl _)
  clear c0 c1 c2 c3 c4 gb hr0
  obtain ⟨_, c0, c1, c2, c3, c4⟩ := gb1
  have hq1 : Below w.heap.size w w1 := btrans HQ0.out q1
  have hnc := HN.out w1
  have hmm := @run_makeMap Tryz.prog
  go_wp2_with fail
  obtain ⟨B, F, hBc, hlim, hch, hF, hbl⟩ : ∃ (B : CB) (F : Nat → Prop), w1.heap.size + 1 + 1 + 1 + 1 + 1 = B.c ∧ B.lim = 0 ∧ ChipAt G B F 0 (CS.fresh G.L ps 0)
      ((((((w1.alloc (.map #[] 0)).alloc (.map #[] 0)).alloc (.map #[] 0)).alloc (.map #[] 0)).alloc (.map #[] 0)).alloc (.cells #[.int .i64 G.b, .int .i64 G.p, .int .i64 G.s, .int .i64 G.n, .int .i64 G.f, .map (some w1.heap.size), .map (some (w1.heap.size + 1)), .map (some (w1.heap.size + 1 + 1)), .map (some (w1.heap.size + 1 + 1 + 1)), .map (some (w1.heap.size + 1 + 1 + 1 + 1)), .int .i64 0, .bool true, .int .i64 0, .int .i64 0] 72)) ∧ (∀ x, F x → w.heap.size ≤ x) ∧
      Below w.heap.size w ((((((w1.alloc (.map #[] 0)).alloc (.map #[] 0)).alloc (.map #[] 0)).alloc (.map #[] 0)).alloc (.map #[] 0)).alloc (.cells #[.int .i64 G.b, .int .i64 G.p, .int .i64 G.s, .int .i64 G.n, .int .i64 G.f, .map (some w1.heap.size), .map (some (w1.heap.size + 1)), .map (some (w1.heap.size + 1 + 1)), .map (some (w1.heap.size + 1 + 1 + 1)), .map (some (w1.heap.size + 1 + 1 + 1 + 1)), .int .i64 0, .bool true, .int .i64 0, .int .i64 0] 72)) :=
    ⟨_, _, rfl, rfl, hnc, fun x hx => Nat.le_trans hq1.size hx.1, btrans hq1 (btrans (btrans (btrans (btrans (btrans (below_one _ _) (below_one _ _)) (below_one _ _)) (below_one _ _)) (below_one _ _)) (below_one _ _))⟩
  clear hnc hq1 hmm c0 c1 c2 c3 c4 hr1 q1
  rw [hBc]
  generalize w1.alloc (.map #[] 0) = v1 at *
  generalize v1.alloc (.map #[] 0) = v2 at *
  generalize v2.alloc (.map #[] 0) = v3 at *
  generalize v3.alloc (.map #[] 0) = v4 at *
  generalize v4.alloc (.map #[] 0) = v5 at *
  generalize v5.alloc (.cells #[.int .i64 G.b, .int .i64 G.p, .int .i64 G.s, .int .i64 G.n, .int .i64 G.f, .map (some w1.heap.size), .map (some (w1.heap.size + 1)), .map (some (w1.heap.size + 1 + 1)), .map (some (w1.heap.size + 1 + 1 + 1)), .map (some (w1.heap.size + 1 + 1 + 1 + 1)), .int .i64 0, .bool true, .int .i64 0, .int .i64 0] 72) = v6 at *
  clear hBc
  have HLIM : Hid (B.lim = 0) := hlim
  clear hlim
  have HF : Hid (∀ x, F x → w.heap.size ≤ x) := hF
  have HC0 : Hid (ChipAt G B F 0 (CS.fresh G.L ps 0) v6) := hch
  have HB0 : Hid (Below w.heap.size w v6) := hbl
  clear hF hch hbl
  go_loopw [25] (fun i wr => ∃ n : Nat, n ≤ len ∧ i = .int .i64 (n : Int) ∧ Hid (ChipAt G B F n (CS.fresh G.L ps n) wr) ∧ Hid (Below w.heap.size w wr) ∧ Hid (∀ j, j < n → inB0 (ps[j]?.getD 0) G.b = true)) (fun i _ => len - (RowKit.intOf i).toNat)
  case atStart => exact ⟨0, Nat.zero_le _, rfl, HC0, HB0, fun j hj => absurd hj (Nat.not_lt_zero j)⟩
  case round =>
    obtain ⟨n, hn, rfl, hc, hb, hin⟩ := hrel
    by_cases hlt : n < len
    · have hlt' : (n : Int) < (len : Int) := by omega
      have hrw := HR.out.below hb.out (Nat.le_refl _)
      have hmem : Hid (ps[n]?.getD 0 ∈ ps) := mem_getD ps n (by have := HL.out; omega)
      have hwx : I64 (ps[n]?.getD 0) := bounds_i64 (hw _ hmem.out)
      have HST : Hid ((CS.fresh G.L ps n).mark (ps[n]?.getD 0) = CS.fresh G.L ps (n + 1)) := CS.fresh_step G.L ps n (by have := HL.out; omega)
      have HIN : Hid (inB0 (ps[n]?.getD 0) G.b = true → ∀ j, j < n + 1 → inB0 (ps[j]?.getD 0) G.b = true) := fun hx j hj => by
        rcases Nat.lt_or_ge j n with h | h
        · exact hin.out j h
        · have : j = n := by omega
          rw [this]; exact hx
      obtain ⟨b0, off, rfl, hbs, hcell⟩ := hrw.hcell (by omega)
      have hcn := hcell n hlt
      clear hcell hrw hin
      generalize ps[n]?.getD 0 = x at *
      cases hx : inB0 x G.b
      · go_wp2_with fail
        refine (chipHasBlock_any x _ hc.out.cell).mono ?_
        rw [hx]
        rintro e w2 ⟨rfl, rfl⟩
        go_wp2_with fail
        go_ret2
        exact .inr ⟨⟨x, hmem.out, hx⟩, rfl, hb.out⟩
      · have HIN2 : Hid (∀ j, j < n + 1 → inB0 (ps[j]?.getD 0) G.b = true) := HIN.out hx
        clear HIN
        go_wp2_with fail
        refine (chipHasBlock_any x _ hc.out.cell).mono ?_
        rw [hx]
        rintro e w2 ⟨rfl, rfl⟩
        have c7 := hc.out.cell.cells.c7
        go_wp2_with fail
        refine (chipAddMark x hwx _ hc.out (by omega)).mono ?_
        rintro e w3 ⟨⟨r, rfl⟩, h3, t3⟩
        have HB3 : Hid (Below w.heap.size w w3) := hb.out.trans (t3.below hb.out.size HF.out)
        rw [HST.out] at h3
        have HC3 : Hid (ChipAt G B F (n + 1) (CS.fresh G.L ps (n + 1)) w3) := h3
        clear h3 t3 c7 hc hb hcn HST
        go_wp2_with fail
        go_roundw
        case rel => exact ⟨n + 1, by omega, by go_num, HC3, HB3, HIN2⟩
        case measure => simp [RowKit.intOf]; omega
    · have e : n = len := by omega
      subst e
      go_wp2_with fail
      go_ret2
      refine .inl ⟨fun x hx => ?_, B.c, rfl, B, F, ⟨rfl, HLIM.out⟩, ?_, HF.out, hb.out⟩
      · obtain ⟨j, hj, rfl⟩ := List.mem_iff_getElem.1 hx
        have := hin.out j (by have := HL.out; omega)
        rwa [List.getElem?_eq_getElem hj] at this
      · rw [HL.out]; exact hc.out

/-- len of a set. -/
theorem SetOk.len {x N : Nat} {bd : Int → Bool} {w : World} (h : SetOk x N bd w) (hbd : ∀ y, bd y = true → I64 y) (ty : TypeId) :
    ∃ k : Nat, k ≤ N ∧ (Builtin.len_ #[69] ty #[.map (some x)]).run Tryz.prog w = .ok (.int .i64 (k : Int)) w ∧ ((k = 0 ∧ ∀ y, bd y = false) ∨ (0 < k ∧ ∃ y, bd y = true)) := by
  obtain ⟨m, ⟨D, hD, hmD⟩, hs⟩ := h
  refine ⟨Maps.size D, hD.size_le, hD.len Tryz.underlying69 ty, ?_⟩
  have hD2 := hD
  obtain ⟨es, clock, hb, Fi, hsz, rfl⟩ := hD2
  rcases Nat.eq_zero_or_pos (Maps.size (DataW.map ((es.toList.map (WideElems.rg Tryz.prog 3 rawElem)).foldr DataW.insert []))) with h0 | h0
  · refine .inl ⟨h0, fun y => ?_⟩
    cases hy : bd y
    · rfl
    · have h1 := (hmD _ _ (int_key (hbd y hy))).1
      rw [(hs y).1, hy] at h1
      have hlen : ((es.toList.map (WideElems.rg Tryz.prog 3 rawElem)).foldr DataW.insert []).length = 0 := h0
      rw [List.eq_nil_of_length_eq_zero hlen] at h1
      cases h1
  · refine .inr ⟨h0, ?_⟩
    have hlen : 0 < ((es.toList.map (WideElems.rg Tryz.prog 3 rawElem)).foldr DataW.insert []).length := h0
    obtain ⟨q, hq⟩ : ∃ q, q ∈ (es.toList.map (WideElems.rg Tryz.prog 3 rawElem)).foldr DataW.insert [] := ⟨_, List.getElem_mem hlen⟩
    obtain ⟨v, hv⟩ := Maps.fit_keys Fi q ((WideShapes.sorted_perm _).mem_iff.1 hq)
    obtain ⟨y, ey, hy, hyw⟩ := Maps.keyOf_i64 Tryz.underlying3 hv
    refine ⟨y, ?_⟩
    have h1 := (hmD _ _ hv).1
    have h2 : Maps.has (DataW.map ((es.toList.map (WideElems.rg Tryz.prog 3 rawElem)).foldr DataW.insert [])) q.1 = true := by
      rw [Maps.has_eq, List.any_eq_true]
      exact ⟨q, hq, WideAt.sameKey_self (by rw [hy]; trivial)⟩
    rw [h2] at h1
    rw [ey] at h1
    rw [← (hs y).1]
    exact h1.symm

section
variable {G : Geo} {B : CB} {F : Nat → Prop} {N : Nat} {S : CS}
/-- Which of the first k places are bits. -/
def flipW (L : Nat) (ps : List Int) (k : Nat) (x : Int) : Bool := decide (x ∈ ps.take k ∧ 0 ≤ x ∧ x < 8 * (L : Int))
def CS.flipped (S : CS) (x y : Int) (f : Int → Bool) : CS := { S with wr := fun b p => if b = x ∧ p = y then f else S.wr b p }
def CS.doFlip (G : Geo) (S : CS) (x y : Int) (ps : List Int) : CS := if hasP G x y = true then S.flipped x y (flipW G.L ps ps.length) else S
theorem flipW_hit {L : Nat} {ps : List Int} {k : Nat} (hk : k < ps.length) (h : inB0 (ps[k]?.getD 0) (8 * (L : Int)) = true) : (fun b => if b = ps[k]?.getD 0 then true else flipW L ps k b) = flipW L ps (k + 1) := by
  funext b
  unfold flipW
  have hh := inB0_yes h
  rw [take_snocB ps k hk]
  by_cases hb : b = ps[k]?.getD 0
  · rw [if_pos hb]; symm; rw [decide_eq_true_iff, hb]; simp; omega
  · rw [if_neg hb, decide_eq_decide]; simp [hb]
theorem flipW_miss {L : Nat} {ps : List Int} {k : Nat} (hk : k < ps.length) (h : inB0 (ps[k]?.getD 0) (8 * (L : Int)) = false) : flipW L ps k = flipW L ps (k + 1) := by
  funext b
  unfold flipW
  have hh := inB0_no h
  rw [take_snocB ps k hk, decide_eq_decide]
  constructor
  · rintro ⟨h1, h2⟩; exact ⟨by simp [h1], h2⟩
  · rintro ⟨h1, h2⟩
    refine ⟨?_, h2⟩
    rcases List.mem_append.1 h1 with h1 | h1
    · exact h1
    · rw [List.mem_singleton] at h1; rw [h1] at h2; exact absurd h2 hh

set_option maxHeartbeats 1600000 in
theorem chipFlip_any (x y : Int) (hx : I64 x) (hy : I64 y) (a : Option Addr) (len cap : Nat) (ps : List Int) (w : World) (h : ChipAt G B F N S w) (hr : Row .i64 w a len cap ps) (hdis : 0 < len → ∀ x, a = some x → ¬ F x.block) (hw : ∀ n ∈ ps, (Lit.int .i64 n).wf = true) (hlen : len ≤ 100000) (hN : N < 100000000) (hlim : B.lim = 0) :
    Calls Tryz.prog 45 #[.pointer (some ⟨B.c, 0, none⟩), .int .i64 x, .int .i64 y, .slice a len cap] w fun e w' => (∃ r, e = .returned r) ∧ Does G B F (N + 2) w (S.doFlip G x y ps) w' := by
  cases hp : hasP G x y
  · have HR : Hid (S.doFlip G x y ps = S) := by show _ = _; unfold CS.doFlip; rw [if_neg (by rw [hp]; simp)]
    rw [HR.out]
    clear HR
    go_enter Tryz.func45, Tryz.ntmps45
    go_wp2_with fail
    refine (chipHasPage_any x y _ h.cell).mono ?_
    rw [hp]
    rintro e w1 ⟨rfl, rfl⟩
    go_wp2_with fail
    refine bodyPost_ret (results_none rfl _ _ _) rfl ?_
    exact ⟨⟨_, rfl⟩, Does.of w h (Turned.refl _ _) (by omega)⟩
  have HR : Hid (S.doFlip G x y ps = S.flipped x y (flipW G.L ps ps.length)) := by show _ = _; unfold CS.doFlip; rw [if_pos hp]
  rw [HR.out]
  clear HR
  have hL := G.ok.L2
  have HL : Hid (ps.length = len) := hr.hlen
  have hlm : len ≤ maxLen := Nat.le_trans hr.hcap hr.hmax
  obtain ⟨kl, hk⟩ := spot_key (p := y) hx hy
  have q0 := below_one w (.map #[] 0)
  have hs0 : SetOk w.heap.size 0 (flipW G.L ps 0) (w.alloc (.map #[] 0)) := ⟨_, mapIs_made _ _ _, fun b => ⟨by simp [flipW], rfl⟩⟩
  have H0 : Hid (ChipAt G B F N S w) := h
  have HR0 : Hid (Row .i64 w a len cap ps) := hr
  have hmm := @run_makeMap Tryz.prog
  have hc0 := h.cell
  have hlt := h.lt
  clear hr
  go_enter Tryz.func45, Tryz.ntmps45
  go_wp2_with fail
  refine (chipHasPage_any x y _ hc0).mono ?_
  rw [hp]
  rintro e w1 ⟨rfl, rfl⟩
  clear h hc0
  go_wp2_with fail
  have hc1 : CellOk G B S (w.alloc (.map #[] 0)) := (q0.block _ hlt).trans H0.out.cell
  have hgs : Hid (w.heap.size = w.heap.size) := rfl
  generalize hsz : w.heap.size = s at hs0 hgs ⊢
  have HS : Hid (w.heap.size = s) := hsz
  clear hsz hgs hmm
  generalize w.alloc (.map #[] 0) = w0 at *
  refine (chipSize_any _ hc1).mono ?_
  rintro e w1 ⟨rfl, q1⟩
  have hqq : Below w.heap.size w w1 := btrans q0 q1
  have hsl : s < w0.heap.size := by obtain ⟨m, hm, _⟩ := hs0; exact hm.lt
  have hs1 : SetOk s 0 (flipW G.L ps 0) w1 := hs0.same (q1.block s hsl)
  have HT1 : Hid (Turned (fun k => k = s) w w1) := Turned.of_below _ hqq
  have HS1 : Hid (SetOk s 0 (flipW G.L ps 0) w1) := hs1
  have HW1 : Hid (s < w1.heap.size) := by have := q1.size; exact Nat.lt_of_lt_of_le hsl this
  clear hs0 hs1 hqq q0 q1 hc1 hsl hlt
  go_wp2_with fail
  go_loopw [28] (fun i wr => ∃ n : Nat, n ≤ len ∧ i = .int .i64 (n : Int) ∧ Hid (SetOk s n (flipW G.L ps n) wr) ∧ Hid (Turned (fun k => k = s) w wr) ∧ Hid (s < wr.heap.size)) (fun i _ => len - (RowKit.intOf i).toNat)
  case atStart => exact ⟨0, Nat.zero_le _, rfl, HS1, HT1, HW1⟩
  case round =>
    obtain ⟨n, hn, rfl, hst, ht, hw1⟩ := hrel
    by_cases hlt : n < len
    · have hlt' : (n : Int) < (len : Int) := by omega
      have hrw := HR0.out.turned ht.out (fun _ q hq e => by
        have hh := HR0.out
        obtain ⟨b0, off, e0, hb0, _⟩ := hh.hcell (by omega)
        rw [hq] at e0
        have e1 : q.block = b0 := by cases e0; rfl
        have := HS.out
        omega)
      have hmem : Hid (ps[n]?.getD 0 ∈ ps) := mem_getD ps n (by have := HL.out; omega)
      have hwx : I64 (ps[n]?.getD 0) := bounds_i64 (hw _ hmem.out)
      have HHIT : Hid (inB0 (ps[n]?.getD 0) (8 * (G.L : Int)) = true → (fun b => if b = ps[n]?.getD 0 then true else flipW G.L ps n b) = flipW G.L ps (n + 1)) := flipW_hit (by have := HL.out; omega)
      have HMISS : Hid (inB0 (ps[n]?.getD 0) (8 * (G.L : Int)) = false → flipW G.L ps n = flipW G.L ps (n + 1)) := flipW_miss (by have := HL.out; omega)
      obtain ⟨b0, off, rfl, hbs, hcell⟩ := hrw.hcell (by omega)
      have hcn := hcell n hlt
      clear hcell hrw
      generalize ps[n]?.getD 0 = q at *
      cases hq : inB0 q (8 * (G.L : Int))
      · have hst2 := hst.out
        rw [HMISS.out hq] at hst2
        have HST2 : Hid (SetOk s (n + 1) (flipW G.L ps (n + 1)) wr) := hst2.mono (by omega)
        clear HHIT HMISS hst2
        go_wp2_with fail
        refine (chipBelow_any q _ _).mono ?_
        rw [hq]
        rintro e w2 ⟨rfl, rfl⟩
        go_wp2_with fail
        go_roundw
        case rel => exact ⟨n + 1, by omega, by go_num, HST2, ht, hw1⟩
        case measure => simp [RowKit.intOf]; omega
      · have hfun := HHIT.out hq
        obtain ⟨m, hm, hms⟩ := hst.out
        have hadd := chipAdd_any s n m q wr hm (by omega) hwx
        have HFN : Hid (∀ w3 : World, MapIs Tryz.prog 3 w3 s (n + 1) (mput m (.int .i64 q) (.agg #[])) → SetOk s (n + 1) (flipW G.L ps (n + 1)) w3) := fun w3 h3 => by
          rw [← hfun]; exact SetOk.add hms q h3
        clear HHIT HMISS hfun hm hms
        go_wp2_with fail
        refine (chipBelow_any q _ _).mono ?_
        rw [hq]
        rintro e w2 ⟨rfl, rfl⟩
        go_wp2_with fail
        refine hadd.mono ?_
        rintro e w3 ⟨⟨r, rfl⟩, h3, g3⟩
        have HST2 : Hid (SetOk s (n + 1) (flipW G.L ps (n + 1)) w3) := HFN.out w3 h3
        have HT2 : Hid (Turned (fun k => k = s) w w3) := ht.out.grown g3 (fun k e => by cases e; exact .inl rfl)
        have HW2 : Hid (s < w3.heap.size) := Nat.lt_of_lt_of_le hw1.out g3.size
        clear h3 g3 HFN hadd ht hw1 hst
        go_wp2_with fail
        go_roundw
        case rel => exact ⟨n + 1, by omega, by go_num, HST2, HT2, HW2⟩
        case measure => simp [RowKit.intOf]; omega
    · have e : n = len := by omega
      subst e
      have qx := below_one wr (.cells #[.int .i64 x, .int .i64 y] 122)
      have bx := spotBox_new wr x y
      have hsF : ∀ k, F k → ¬ k = s := fun k hk e => by have := H0.out.fresh k hk; have := HS.out; omega
      have hx0 := (H0.out.turned ht.out hsF).below qx
      have hsx := hst.out.same (qx.block s hw1.out)
      have hfl : ∀ y, flipW G.L ps n y = true → 0 ≤ y ∧ y < 8 * (G.L : Int) := fun y hy => by unfold flipW at hy; exact (of_decide_eq_true hy).2
      obtain ⟨k, hkn, hle, hk0⟩ := hsx.len (fun y hy => by have := hfl y hy; unfold I64; omega) 3
      have hTx : Turned (fun k => k = s) w (wr.alloc (.cells #[.int .i64 x, .int .i64 y] 122)) := ht.out.trans (Turned.of_below _ qx)
      have hsw : s < (wr.alloc (.cells #[.int .i64 x, .int .i64 y] 122)).heap.size := Nat.lt_of_lt_of_le hw1.out qx.size
      obtain ⟨m, hm, hp2⟩ := hx0.wrong
      have b0 := bx.c0
      have b1 := bx.c1
      have c9 := hx0.cell.cells.c9
      have HX : Hid (ChipAt G B F N S (wr.alloc (.cells #[.int .i64 x, .int .i64 y] 122))) := hx0
      have HSX : Hid (SetOk s n (flipW G.L ps n) (wr.alloc (.cells #[.int .i64 x, .int .i64 y] 122))) := hsx
      have HTX : Hid (Turned (fun k => k = s) w (wr.alloc (.cells #[.int .i64 x, .int .i64 y] 122))) := hTx
      have HSW : Hid (s < (wr.alloc (.cells #[.int .i64 x, .int .i64 y] 122)).heap.size) := hsw
      clear hx0 hsx hTx hsw qx bx hst ht hw1
      rcases hk0 with ⟨rfl, hno⟩ | ⟨hpos, hyes⟩
      · go_wp2_with fail
        generalize wr.heap.size = g at *
        generalize wr.alloc (.cells #[.int .i64 x, .int .i64 y] 122) = wx at *
        obtain ⟨w5, hd, hm5, hg5⟩ := MapIs.drop (w := wx.drew) (hm.same rfl) spotKeyed Tryz.underlying70 hk 0
        have h5 := HX.out.drew.del_wrong (w' := w5) (fun b p => (hp2 b p).same (fun _ _ _ => rfl)) x y hm5 hg5
        have e5 : S.flipped x y (flipW G.L ps ps.length) = { S with wr := fun b p => if b = x ∧ p = y then fun _ => false else S.wr b p } := by
          unfold CS.flipped
          rw [HL.out, show flipW G.L ps n = fun _ => false from funext hno]
        have D5 : Hid (Does G B F (N + 2) w (S.flipped x y (flipW G.L ps ps.length)) w5) := by
          show Does _ _ _ _ _ _ _
          rw [e5]
          exact ⟨F, h5.mono (by omega), (HTX.out.drew.mono (G := F) (fun k hk e => by have := HS.out; omega)).grown hg5 (fun k e => by cases e; exact .inl (HX.out.inF _ (by simp [CB.all]))), fun k hk => .inl hk⟩
        clear h5 hm5 hg5 hm hp2 hno e5
        go_region
        go_wp2_with fail
        refine bodyPost_ret (results_none rfl _ _ _) rfl ?_
        exact ⟨⟨_, rfl⟩, D5.out⟩
      · have hpos' : ((k : Int) == 0) = false := by simp; omega
        go_wp2_with fail
        generalize wr.heap.size = g at *
        generalize wr.alloc (.cells #[.int .i64 x, .int .i64 y] 122) = wx at *
        obtain ⟨w5, hd, hm5, hg5⟩ := MapIs.store (w := wx.drew) (hm.same rfl) spotKeyed Tryz.underlying70 (by unfold maxLen; omega) hk (.map (some s))
        have h5 := HX.out.drew.put_wrong (w' := w5) (fun b p => (hp2 b p).same (fun _ _ _ => rfl)) x y s (flipW G.L ps n) (fun hf => hsF s hf rfl) hfl ((HSX.out.same rfl).mono (by omega)) HSW.out hlim hm5 hg5
        have D5 : Hid (Does G B F (N + 2) w (S.flipped x y (flipW G.L ps ps.length)) w5) := by
          show Does _ _ _ _ _ _ _
          rw [HL.out]
          refine ⟨_, h5.mono (by omega), (HTX.out.drew.mono (G := F) (fun k hk e => by have := HS.out; omega)).grown hg5 (fun k e => by cases e; exact .inl (HX.out.inF _ (by simp [CB.all]))), fun k hk => hk.imp id (fun e => by rw [e]; have := HS.out; omega)⟩
        clear h5 hm5 hg5 hm hp2 hyes
        go_region
        go_wp2_with fail
        go_end0
        exact ⟨⟨_, rfl⟩, D5.out⟩
end
end Go.Proofs.YtgamakejaknagaaGreat

/-
  The code of layer 7 (chip), as it landed: Read. (Written by tools/gen/chip_read.py.)
-/
namespace Go.Proofs.YtgamakejaknagaaGreat
open Go.RowKit Go.Maps
set_option linter.unusedVariables false
set_option maxRecDepth 8192

/-- The page as it is read: the wrong bits turned. -/
def wrList (L : Nat) (wr : Int → Bool) : List Int := ((List.range (8 * L)).filter fun (i : Nat) => wr (i : Int)).map Int.ofNat
def readZ (L : Nat) (z : List Int) (wr : Int → Bool) : List Int := turnI z (wrList L wr)
theorem mem_wrList (L : Nat) (wr : Int → Bool) (x : Int) : x ∈ wrList L wr ↔ (0 ≤ x ∧ x < 8 * (L : Int)) ∧ wr x = true := by
  unfold wrList
  simp only [List.mem_map, List.mem_filter, List.mem_range]
  constructor
  · rintro ⟨i, ⟨h1, h2⟩, rfl⟩
    exact ⟨by simp only [Int.ofNat_eq_natCast]; omega, h2⟩
  · rintro ⟨⟨h1, h2⟩, h3⟩
    refine ⟨x.toNat, ⟨by omega, ?_⟩, by simp only [Int.ofNat_eq_natCast]; omega⟩
    rw [show ((x.toNat : Nat) : Int) = x by omega]; exact h3
theorem nodup_wrList (L : Nat) (wr : Int → Bool) : (wrList L wr).Nodup := by
  unfold wrList
  rw [List.Nodup, List.pairwise_map]
  refine (List.Pairwise.filter _ (List.nodup_range (n := 8 * L))).imp (fun h => ?_)
  intro e
  exact h (Int.ofNat.inj e)
/-- A place that stands there once. -/
theorem oddN_nodup : ∀ (k : Nat) (ps : List Int), k ≤ ps.length → ps.Nodup → (∀ p ∈ ps, 0 ≤ p) → ∀ i : Nat, oddN (ps.take k) i = decide ((i : Int) ∈ ps.take k)
  | 0, ps, _, _, _, i => by simp [oddN]
  | k + 1, ps, hk, hn, h0, i => by
    have ih := oddN_nodup k ps (by omega) hn h0 i
    have hp := h0 (ps[k]?.getD 0) (mem_getD ps k (by omega))
    rw [take_snoc ps k (by omega), oddN_snoc, ih]
    have hnm : ps[k]?.getD 0 ∉ ps.take k := by
      have hn2 : (ps.take k ++ [ps[k]?.getD 0]).Nodup := by rw [← take_snoc ps k (by omega)]; exact hn.sublist (List.take_sublist _ _)
      rw [List.nodup_append] at hn2
      exact fun hm => hn2.2.2 _ hm _ (List.mem_singleton.2 rfl) rfl
    by_cases e : (ps[k]?.getD 0).toNat = i
    · have e' : (i : Int) = ps[k]?.getD 0 := by omega
      rw [if_pos e, e', decide_eq_false hnm]
      simp
    · have e' : (i : Int) ≠ ps[k]?.getD 0 := by omega
      rw [if_neg e, decide_eq_decide]
      simp [e']
theorem turnI_perm {L : Nat} {z : List Int} (hz : IsB z) (hl : z.length = L) {ps qs : List Int} (hp : ps.Nodup) (hq : qs.Nodup) (h1 : inAll L ps) (h2 : inAll L qs) (h : ∀ x, x ∈ ps ↔ x ∈ qs) : turnI z ps = turnI z qs := by
  subst hl
  refine bytes_ext (isB_turnI hz _) (isB_turnI hz _) (by rw [length_turnI, length_turnI]) (fun i hi => ?_)
  rw [length_turnI] at hi
  rw [bitI_turnI hz ps h1 i hi, bitI_turnI hz qs h2 i hi]
  have e1 := oddN_nodup ps.length ps (Nat.le_refl _) hp (fun p hp => (h1 p hp).1) i
  have e2 := oddN_nodup qs.length qs (Nat.le_refl _) hq (fun p hp => (h2 p hp).1) i
  rw [List.take_length] at e1 e2
  rw [e1, e2, show decide ((i : Int) ∈ ps) = decide ((i : Int) ∈ qs) by rw [decide_eq_decide]; exact h _]
theorem inAll_wrList (L : Nat) (wr : Int → Bool) : inAll L (wrList L wr) := fun x hx => ((mem_wrList L wr x).1 hx).1
theorem readZ_of {L : Nat} {z : List Int} (hz : IsB z) (hl : z.length = L) {wr : Int → Bool} (hwr : ∀ x, wr x = true → 0 ≤ x ∧ x < 8 * (L : Int)) {ss : List Int} (hn : ss.Nodup) (h : ∀ x, x ∈ ss ↔ wr x = true) : turnI z ss = readZ L z wr :=
  turnI_perm hz hl hn (nodup_wrList L wr) (fun x hx => hwr x ((h x).1 hx)) (inAll_wrList L wr) (fun x => by rw [h x, mem_wrList]; exact ⟨fun hh => ⟨hwr x hh, hh⟩, fun hh => hh.2⟩)
theorem length_readZ (L : Nat) (z : List Int) (wr : Int → Bool) : (readZ L z wr).length = z.length := length_turnI _ _
theorem isB_readZ {L : Nat} {z : List Int} (h : IsB z) (wr : Int → Bool) : IsB (readZ L z wr) := isB_turnI h _

theorem keys_below (mb : Option Nat) (w : World) : Calls Tryz.prog 112 #[.map mb] w fun e w' =>
    ∃ Bm, (Bm < w'.heap.size ∧ w'.cell? ⟨Bm, 0, none⟩ = some (.map mb)) ∧ e = .returned (.func (.func 131) #[] #[.pointer (some ⟨Bm, 0, none⟩)]) ∧ Below w.heap.size w w' :=
  (keys_any mb w).mono fun e w' ⟨h1, h2⟩ => ⟨w.heap.size, by rw [h2]; exact ⟨by simp, by rw [World.cell?_alloc_at _ _ _ _ rfl]; rfl⟩, h1, by rw [h2]; exact below_one _ _⟩

/-- The wrong bits of a page, collected. -/
theorem chipCollect_any {F : Nat → Prop} {B : CB} {L : Nat} {w : World} {v : Option Value} {wr : Int → Bool} (hb : BitsOk F B L w v wr) (hL : L ≤ 1000) (mb : Option Nat) (hv : v.getD (.map none) = .map mb) (Bm : Nat) (hBm : Bm < w.heap.size ∧ w.cell? ⟨Bm, 0, none⟩ = some (.map mb)) :
    Calls Tryz.prog 111 #[.func (.func 131) #[] #[.pointer (some ⟨Bm, 0, none⟩)]] w fun e w' => ∃ (a : Option Addr) (cap : Nat) (ss : List Int),
      (ss.Nodup ∧ (∀ n ∈ ss, (Lit.int .i64 n).wf = true) ∧ ∀ x, x ∈ ss ↔ wr x = true) ∧ e = .returned (.slice a ss.length cap) ∧ Row .i64 w' a ss.length cap ss ∧ Below w.heap.size w w' := by
  obtain ⟨hwr, ⟨rfl, hno⟩ | ⟨s, rfl, _, _, m, hm, hs⟩⟩ := hb
  · have e0 : mb = none := by simpa using hv.symm
    subst e0
    refine (collect_none Bm w hBm.1 hBm.2).mono ?_
    rintro e w' ⟨v, ss, rfl, rfl, hrow, hb⟩
    obtain ⟨a, cap, rfl, hr⟩ := row_of_owns hrow
    exact ⟨a, cap, [], ⟨List.nodup_nil, fun n hn => absurd hn (by simp), fun x => by rw [hno x]; simp⟩, rfl, hr, hb⟩
  · have e0 : mb = some s := by simpa using hv.symm
    subst e0
    refine (collect_some Bm s 1000000 m w hBm.1 hBm.2 hm (Nat.le_refl _)).mono ?_
    rintro e w' ⟨v, ss, rfl, ⟨h1, h2, h3⟩, hrow, hb⟩
    obtain ⟨a, cap, rfl, hr⟩ := row_of_owns hrow
    refine ⟨a, cap, ss, ⟨h1, h2, fun x => ?_⟩, rfl, hr, hb⟩
    constructor
    · intro hx; rw [← (hs x).1]; exact (h3 x (h2 x hx)).1 hx
    · intro hx; have := hwr x hx; exact (h3 x (I64.wf (by unfold I64; omega))).2 (by rw [(hs x).1]; exact hx)

/-- Turn of places that are there. -/
theorem turn_in (a c : Option Addr) (len cap len' cap' : Nat) (z ps : List Int) (w : World) (hr : Row .u8 w a len cap z) (hb : IsB z) (hr' : Row .i64 w c len' cap' ps) (hw : ∀ n ∈ ps, (Lit.int .i64 n).wf = true) (hsm : len ≤ 1000) (hin : inAll len ps) :
    Calls Tryz.prog 109 #[.slice a len cap, .slice c len' cap'] w fun e w' => ∃ q, w.heap.size ≤ q ∧ e = .returned (.tuple #[.slice (some ⟨q, 0, none⟩) len len, .int .i64 0]) ∧ Row .u8 w' (some ⟨q, 0, none⟩) len len (turnI z ps) ∧ Below w.heap.size w w' := by
  refine (turn_any a c len cap len' cap' z ps w hr hb hr' hw hsm).mono ?_
  rintro e w' ⟨hbl, ⟨_, rfl, hown⟩ | ⟨hno, _⟩⟩
  · exact ⟨_, Nat.le_refl _, rfl, isB_rowA hown, hbl⟩
  · rw [(inB_iff len ps).2 hin] at hno; cases hno

section
variable {G : Geo} {B : CB} {F : Nat → Prop} {N : Nat} {S : CS}

set_option maxHeartbeats 3200000 in
theorem chipRead_yes (x y : Int) (hx : I64 x) (hy : I64 y) (w : World) (h : ChipAt G B F N S w) (hu : S.up = true) (hp : hasP G x y = true) : Calls Tryz.prog 76 #[.pointer (some ⟨B.c, 0, none⟩), .int .i64 x, .int .i64 y] w fun e w' =>
    ∃ q, w.heap.size ≤ q ∧ e = .returned (.tuple #[.slice (some ⟨q, 0, none⟩) G.L G.L, .int .i64 0]) ∧ Row .u8 w' (some ⟨q, 0, none⟩) G.L G.L (readZ G.L (S.pg x y) (S.wr x y)) ∧ Below w.heap.size w w' := by
  have hL := G.ok.L2
  obtain ⟨kl, hk⟩ := spot_key (p := y) hx hy
  obtain ⟨mp, _, hpp⟩ := h.pages
  obtain ⟨hzb, hzl, _⟩ := hpp x y
  have HZB : Hid (IsB (S.pg x y)) := hzb
  have HZL : Hid ((S.pg x y).length = G.L) := hzl
  obtain ⟨m, hm, hw⟩ := h.wrong
  have hwx := hw x y
  have hfr := h.fresh
  have HW : Hid (∀ w' : World, Below w.heap.size w w' → BitsOk F B G.L w' (m (spotV x y)) (S.wr x y)) := fun w' q => hwx.same (fun k hk _ => q.block k (hfr k hk))
  obtain ⟨mb, hmb⟩ : ∃ mb, (m (spotV x y)).getD (.map none) = .map mb := by
    rcases hwx.2 with ⟨e, _⟩ | ⟨s, e, _⟩
    · exact ⟨none, by rw [e]; rfl⟩
    · exact ⟨some s, by rw [e]; rfl⟩
  have HLK : Hid (∀ w' : World, Below w.heap.size w w' → Sem.run Tryz.prog (Instr.lookup 70 (.map (some B.mr)) (spotV x y) false) w' = .ok (.map mb) w') := fun w' q => by
    have := (hm.same (q.block _ hm.lt)).look spotKeyed Tryz.underlying70 (Tryz.zeroValue69 w') hk
    rwa [hmb] at this
  have HWR : Hid (∀ q, S.wr x y q = true → 0 ≤ q ∧ q < 8 * (G.L : Int)) := hwx.1
  have HMB : Hid ((m (spotV x y)).getD (.map none) = .map mb) := hmb
  clear hwx hw hm hmb hpp hzb hzl hfr
  generalize m (spotV x y) = mv at *
  go_enter Tryz.func76, Tryz.ntmps76
  go_wp2_with fail
  refine (chipReady_any _ h.cell).mono ?_
  rw [hu]
  rintro e w1 ⟨rfl, rfl⟩
  go_wp2_with fail
  refine (chipHasPage_any x y _ h.cell).mono ?_
  rw [hp]
  rintro e w1 ⟨rfl, rfl⟩
  have bx := spotBox_new w x y
  have q1 := below_one w (.cells #[.int .i64 x, .int .i64 y] 122)
  replace h := h.below q1
  go_wp2_with fail
  generalize w.alloc (.cells #[.int .i64 x, .int .i64 y] 122) = w0 at *
  generalize hgg : w.heap.size = g at bx ⊢
  have HGG : Hid (w.heap.size = g) := hgg
  clear hgg
  refine held_begin (by kernel_rfl) ?_
  refine held_reads (rs := [0, 1, 3, 4, 5, 6, 7, 8]) (fuel := 8) (by kernel_rfl) (fun c d v a w h => by cases d <;> exact h) (by kernel_rfl) (Since.drew _) (fun K hK => ?_)
  refine calm_move _ rfl (by rfl) rfl ?_
  go_simp
  refine calm_do (.agg #[.int .i64 x, .int .i64 y]) rfl (by rfl) (fun w' hw' => ?_) ?_
  · have bx' := bx.below hw'
    have b0 := bx'.c0
    have b1 := bx'.c1
    go_simp
  go_simp
  refine calm_move _ rfl (by rfl) rfl ?_
  go_simp
  refine calm_do (.pointer (some ⟨B.c, 0, none⟩)) rfl (by rfl) (fun w' hw' => ?_) ?_
  · skip
    go_simp
  go_simp
  refine calm_do (.pointer (some ⟨B.c, 9, none⟩)) rfl (by rfl) (fun w' hw' => ?_) ?_
  · skip
    go_simp
  go_simp
  refine calm_do (.map (some B.mr)) rfl (by rfl) (fun w' hw' => ?_) ?_
  · have h' := h.below hw'
    have c9 := h'.cell.cells.c9
    go_simp
  go_simp
  refine calm_do (.agg #[.int .i64 x, .int .i64 y]) rfl (by rfl) (fun w' hw' => ?_) ?_
  · have bx' := bx.below hw'
    have b0 := bx'.c0
    have b1 := bx'.c1
    go_simp
  go_simp
  refine calm_do (.map mb) rfl (by rfl) (fun w' hw' => ?_) ?_
  · have hlk := HLK.out w' (btrans q1 hw')
    go_simp
  go_simp
  refine calm_nil (hK.out _ ?_)
  clear hK K
  refine held_call (i := 2) (fuel := 7) (by kernel_rfl) rfl (by rfl) (fun K hK => ?_)
  go_simp
  have qd := Since.drew w0
  replace h := h.below qd
  replace bx := bx.below qd
  replace q1 := btrans q1 qd
  clear qd
  refine (chipPage_any x y hx hy _ h).mono ?_
  rintro e w1 ⟨qp, rfl, rp, qq0⟩
  refine hK _ _ (Since.trans (Since.drew _) qq0) ?_
  have qq : Since _ _ := qq0
  clear hK K qq0
  replace h := h.below qq
  replace bx := bx.below qq
  replace q1 := btrans q1 qq
  clear qq
  refine held_call (i := 9) (fuel := 6) (by kernel_rfl) rfl (by rfl) (fun K hK => ?_)
  go_simp
  refine (keys_below mb _).mono ?_
  rintro e w2 ⟨Bm, hBm, rfl, qq0⟩
  refine hK _ _ (Since.trans (Since.refl _) qq0) ?_
  have qq : Since _ _ := qq0
  clear hK K qq0
  replace h := h.below qq
  replace bx := bx.below qq
  replace rp := rp.below qq (Nat.le_refl _)
  replace q1 := btrans q1 qq
  clear qq
  refine held_call (i := 10) (fuel := 5) (by kernel_rfl) rfl (by rfl) (fun K hK => ?_)
  go_simp
  refine (chipCollect_any (HW.out _ q1) (by omega) mb HMB.out Bm hBm).mono ?_
  rintro e w3 ⟨ac, cc, ss, hss, rfl, rs, qq0⟩
  refine hK _ _ (Since.trans (Since.refl _) qq0) ?_
  have qq : Since _ _ := qq0
  clear hK K qq0
  replace h := h.below qq
  replace bx := bx.below qq
  replace rp := rp.below qq (Nat.le_refl _)
  replace q1 := btrans q1 qq
  clear qq
  have hz3 := q1.size
  refine held_call (i := 11) (fuel := 4) (by kernel_rfl) rfl (by rfl) (fun K hK => ?_)
  go_simp
  refine (turn_in _ _ _ _ _ _ _ _ _ rp HZB.out rs hss.2.1 (by omega) (fun v hv => HWR.out v ((hss.2.2 v).1 hv))).mono ?_
  rintro e w4 ⟨qq2, hq2, rfl, rt, qq0⟩
  refine hK _ _ (Since.trans (Since.refl _) qq0) ?_
  have qq : Since _ _ := qq0
  clear hK K qq0
  replace h := h.below qq
  replace bx := bx.below qq
  replace rp := rp.below qq (Nat.le_refl _)
  replace rs := rs.below qq (Nat.le_refl _)
  replace q1 := btrans q1 qq
  clear qq
  refine held_reads (rs := [12, 13, 14, 15]) (fuel := 0) (by kernel_rfl) (fun c d v a w h => by cases d <;> exact h) (by kernel_rfl) (Since.refl _) (fun K hK => ?_)
  go_simp
  refine calm_do (.slice (some ⟨qq2, 0, none⟩) G.L G.L) rfl (by rfl) (fun w' hw' => ?_) ?_
  · skip
    go_simp
  go_simp
  refine calm_do (.int .i64 0) rfl (by rfl) (fun w' hw' => ?_) ?_
  · skip
    go_simp
  go_simp
  refine calm_assign _ rfl (by rfl) rfl ?_
  go_simp
  refine calm_assign _ rfl (by rfl) rfl ?_
  go_simp
  refine calm_nil (hK.out _ ?_)
  clear hK K
  refine wpAnyH_done (by kernel_rfl) ?_ _
  go_wp2_with fail
  go_ret2
  refine ⟨qq2, ?_, rfl, ?_, q1⟩
  · omega
  · rw [← readZ_of HZB.out HZL.out HWR.out hss.1 hss.2.2]; exact rt
end
end Go.Proofs.YtgamakejaknagaaGreat

/-
  Layer 7's laws: tiny, small, awake.
-/
namespace Go.Proofs.YtgamakejaknagaaGreat
open Go.RowKit Go.Maps
set_option linter.unusedVariables false
set_option maxRecDepth 8192

/-- A chip that was made since W, and nothing that W had has turned. -/
structure Here (W : World) (G : Geo) (B : CB) (F : Nat → Prop) (N : Nat) (S : CS) (w : World) : Prop where
  chip : ChipAt G B F N S w
  low : ∀ x, F x → W.heap.size ≤ x
  bel : Below W.heap.size W w
section
variable {W w w' : World} {G : Geo} {B : CB} {F : Nat → Prop} {N N' : Nat} {S S' : CS}
theorem Here.does (h : Here W G B F N S w) (d : Does G B F N' w S' w') : ∃ F', Here W G B F' N' S' w' ∧ ∀ k a len cap z, Off F k w a len cap z → Off F' k w' a len cap z := by
  obtain ⟨F', h1, h2, h3⟩ := d
  exact ⟨F', ⟨h1, fun x hx => (h3 x hx).elim (h.low x) (fun e => Nat.le_trans h.bel.size e), h.bel.trans (h2.below h.bel.size h.low)⟩, fun k a len cap z o => o.step h2 h3⟩
theorem Here.turned (h : Here W G B F N S w) (hc : ChipAt G B F N' S' w') (t : Turned F w w') : Here W G B F N' S' w' ∧ ∀ k a len cap z, Off F k w a len cap z → Off F k w' a len cap z :=
  ⟨⟨hc, h.low, h.bel.trans (t.below h.bel.size h.low)⟩, fun k a len cap z o => o.step t (fun x hx => .inl hx)⟩
theorem Here.below (h : Here W G B F N S w) (q : Below w.heap.size w w') : Here W G B F N S w' := ⟨h.chip.below q, h.low, btrans h.bel q⟩
theorem Here.same (h : Here W G B F N S w) (e : S = S') : Here W G B F N S' w := e ▸ h
/-- A row that is just made. -/
theorem Here.off (h : Here W G B F N S w) {k : IntKind} {g len cap : Nat} {z : List Int} (hr : Row k w' (some ⟨g, 0, none⟩) len cap z) (hg : w.heap.size ≤ g) : Off F k w' (some ⟨g, 0, none⟩) len cap z :=
  ⟨hr, fun _ x hx hf => by have := h.chip.fresh _ hf; have e : x.block = g := by cases hx; rfl
                           omega⟩
theorem newChip_lim {ps : List Int} {c : Nat} (hW : Below W.heap.size W w) (h : NewChip G ps N w c w') : ∃ B F, (B.c = c ∧ B.lim = 0) ∧ Here W G B F N (CS.fresh G.L ps ps.length) w' := by
  obtain ⟨B, F, e, h1, h2, h3⟩ := h
  exact ⟨B, F, e, h1, fun x hx => Nat.le_trans hW.size (h2 x hx), btrans hW h3⟩
end
theorem chipNew_yes (G : Geo) (a : Option Addr) (len cap : Nat) (ps : List Int) (w : World) (hr : Row .i64 w a len cap ps) (hw : ∀ n ∈ ps, (Lit.int .i64 n).wf = true) (hlen : len ≤ 100000) (hin : ∀ x ∈ ps, inB0 x G.b = true) :
    Calls Tryz.prog 40 #[.agg #[.int .i64 G.b, .int .i64 G.p, .int .i64 G.s, .int .i64 G.n, .int .i64 G.f], .slice a len cap] w fun e w' => ∃ c, e = .returned (.tuple #[.pointer (some ⟨c, 0, none⟩), .int .i64 0]) ∧ NewChip G ps len w c w' := by
  refine (chipNew_any G a len cap ps w hr hw hlen).mono ?_
  rintro e w' (⟨_, h⟩ | ⟨⟨x, hx, h⟩, _⟩)
  · exact h
  · rw [hin x hx] at h; cases h
/-- A chip without bad blocks. -/
theorem chipNew_nil (G : Geo) (w : World) : Calls Tryz.prog 40 #[.agg #[.int .i64 G.b, .int .i64 G.p, .int .i64 G.s, .int .i64 G.n, .int .i64 G.f], .slice none 0 0] w fun e w' => ∃ c, e = .returned (.tuple #[.pointer (some ⟨c, 0, none⟩), .int .i64 0]) ∧ NewChip G [] 0 w c w' :=
  chipNew_yes G none 0 0 [] w ⟨rfl, Nat.le_refl _, Nat.zero_le _, fun _ => rfl, fun h => absurd h (by omega)⟩ (fun n hn => absurd hn (by simp)) (by omega) (fun n hn => absurd hn (by simp))
end Go.Proofs.YtgamakejaknagaaGreat

/-
  What layer 7's laws use besides: rows that are filled, and what deeds answer.
-/
namespace Go.Proofs.YtgamakejaknagaaGreat
open Go.RowKit Go.Maps
set_option linter.unusedVariables false
set_option maxRecDepth 8192

/-- The block r holds just these bytes. -/
def Blk (w : World) (r : Nat) (z : List Int) : Prop := w.heap[r]? = some (.cells (z.map (Value.int .u8)).toArray 5 (0, 0))
theorem Blk.cell {w : World} {r : Nat} {z : List Int} (h : Blk w r z) {i : Nat} (hi : i < z.length) : w.cell? ⟨r, i, none⟩ = some (.int .u8 (z[i]?.getD 0)) := by
  unfold Blk at h
  simp [World.cell?, h, hi]
theorem Blk.frozen {w : World} {r : Nat} {z : List Int} (h : Blk w r z) (i : Nat) : w.frozen? ⟨r, i, none⟩ = false := by
  unfold Blk at h
  simp [World.frozen?, h]
theorem Blk.set {w : World} {r : Nat} {z : List Int} (h : Blk w r z) (i : Nat) (v : Int) : Blk (w.setCell ⟨r, i, none⟩ (.int .u8 v)) r (z.set i v) := by
  have := block_setC (i := i) h (.int .u8 v)
  unfold Blk
  rw [this, List.map_set]
  simp
theorem Blk.row {w : World} {r : Nat} {z : List Int} {L : Nat} (h : Blk w r z) (hl : z.length = L) (hm : L ≤ maxLen) : Row .u8 w (some ⟨r, 0, none⟩) L L z := isB_rowA (owns_of_heap (base := 0) h (by rw [List.length_map, hl]) (Nat.zero_le _) hm)
theorem Blk.off {F : Nat → Prop} {w : World} {r : Nat} {z : List Int} {L : Nat} (h : Blk w r z) (hl : z.length = L) (hm : L ≤ maxLen) (hF : ¬ F r) : Off F .u8 w (some ⟨r, 0, none⟩) L L z := by
  refine ⟨h.row hl hm, fun _ x hx hf => ?_⟩
  have e : x.block = r := by cases hx; rfl
  exact hF (e ▸ hf)
theorem Blk.lt {w : World} {r : Nat} {z : List Int} (h : Blk w r z) : r < w.heap.size := (Array.getElem?_eq_some_iff.1 h).1
theorem Blk.same {w w' : World} {r : Nat} {z : List Int} (h : Blk w r z) (hb : w'.heap[r]? = w.heap[r]?) : Blk w' r z := hb.trans h
theorem padF_full {L : Nat} {z : List Int} (h : z.length = L) : padF L z = z := by unfold padF; rw [h]; simp

theorem fitsP_of {G : Geo} {x y : Int} {len : Nat} (hx : 0 ≤ x ∧ x < G.b) (hy : 0 ≤ y ∧ y < G.p) (hl : len = G.L) : fitsP G x y len = true := by
  unfold fitsP hasP inB0
  rw [decide_eq_true hx, decide_eq_true hy, decide_eq_true hl]; rfl
section
variable {G : Geo} {S : CS} {x y : Int} {z : List Int}
theorem program_cut (hu : S.up = true) (hf : fitsP G x y z.length = true) (ho : y = S.nx x) (ha : S.ah = 1) : S.doProgram G x y z = (70, S.counted.lay x y (padF G.L (z.take (keptN S.ke z.length)))) := by
  unfold CS.doProgram; rw [if_neg (by rw [hu]; simp), if_neg (by rw [hf]; simp), if_neg (fun h => h ho), if_pos ha]
theorem program_ok (hu : S.up = true) (hf : fitsP G x y z.length = true) (ho : y = S.nx x) (ha : S.ah ≠ 1) (hw : S.wk x = false) : S.doProgram G x y z = (0, S.counted.lay x y z) := by
  unfold CS.doProgram
  rw [if_neg (by rw [hu]; simp), if_neg (by rw [hf]; simp), if_neg (fun h => h ho), if_neg ha, if_neg (by rw [hw]; simp), padF_full (fitsP_yes hf).2]
theorem erase_ok (hu : S.up = true) (hx : 0 ≤ x ∧ x < G.b) (ha : S.ah ≠ 1) (hw : S.wk x = false) : S.doErase G x = (0, (S.counted.wipe G.L x G.p.toNat).next0 x) := by
  unfold CS.doErase
  rw [if_neg (by rw [hu]; simp), if_neg (by unfold inB0; rw [decide_eq_true hx]; simp), if_neg ha, if_neg (by rw [hw]; simp)]
end
end Go.Proofs.YtgamakejaknagaaGreat
