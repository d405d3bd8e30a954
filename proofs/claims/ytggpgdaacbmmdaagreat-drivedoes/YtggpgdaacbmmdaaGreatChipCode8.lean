/-
  The code of layer 7 (chip), as it landed: Read. (Written by tools/gen/chip_read.py.)
-/
import Derived.Test.YtggpgdaacbmmdaaGreatChipCode7
namespace Go.Proofs.YtggpgdaacbmmdaaGreat
open Go.RowKit Go.Maps
set_option linter.unusedVariables false
set_option maxRecDepth 8192

/-- The page as it is read: the wrong bits turned. -/
def wrList (L : Nat) (wr : Int → Bool) : List Int := ((List.range (8 * L)).filter fun (i : Nat) => wr (i : Int)).map Int.ofNat
def readZ (L : Nat) (z : List Int) (wr : Int → Bool) : List Int := turnI z (wrList L wr)
theorem mem_wrList (L : Nat) (wr : Int → Bool) (x : Int) : x ∈ wrList L wr ↔ (0 ≤ x ∧ x < 8 * (L : Int)) ∧ wr x = true := by
  unfold wrList
  simp only [List.mem_map, List.mem_filter, List.mem_range]
  constructor
  · rintro ⟨i, ⟨h1, h2⟩, rfl⟩
    exact ⟨by simp only [Int.ofNat_eq_natCast]; omega, h2⟩
  · rintro ⟨⟨h1, h2⟩, h3⟩
    refine ⟨x.toNat, ⟨by omega, ?_⟩, by simp only [Int.ofNat_eq_natCast]; omega⟩
    rw [show ((x.toNat : Nat) : Int) = x by omega]; exact h3
theorem nodup_wrList (L : Nat) (wr : Int → Bool) : (wrList L wr).Nodup := by
  unfold wrList
  rw [List.Nodup, List.pairwise_map]
  refine (List.Pairwise.filter _ (List.nodup_range (n := 8 * L))).imp (fun h => ?_)
  intro e
  exact h (Int.ofNat.inj e)
/-- A place that stands there once. -/
theorem oddN_nodup : ∀ (k : Nat) (ps : List Int), k ≤ ps.length → ps.Nodup → (∀ p ∈ ps, 0 ≤ p) → ∀ i : Nat, oddN (ps.take k) i = decide ((i : Int) ∈ ps.take k)
  | 0, ps, _, _, _, i => by simp [oddN]
  | k + 1, ps, hk, hn, h0, i => by
    have ih := oddN_nodup k ps (by omega) hn h0 i
    have hp := h0 (ps[k]?.getD 0) (mem_getD ps k (by omega))
    rw [take_snoc ps k (by omega), oddN_snoc, ih]
    have hnm : ps[k]?.getD 0 ∉ ps.take k := by
      have hn2 : (ps.take k ++ [ps[k]?.getD 0]).Nodup := by rw [← take_snoc ps k (by omega)]; exact hn.sublist (List.take_sublist _ _)
      rw [List.nodup_append] at hn2
      exact fun hm => hn2.2.2 _ hm _ (List.mem_singleton.2 rfl) rfl
    by_cases e : (ps[k]?.getD 0).toNat = i
    · have e' : (i : Int) = ps[k]?.getD 0 := by omega
      rw [if_pos e, e', decide_eq_false hnm]
      simp
    · have e' : (i : Int) ≠ ps[k]?.getD 0 := by omega
      rw [if_neg e, decide_eq_decide]
      simp [e']
theorem turnI_perm {L : Nat} {z : List Int} (hz : IsB z) (hl : z.length = L) {ps qs : List Int} (hp : ps.Nodup) (hq : qs.Nodup) (h1 : inAll L ps) (h2 : inAll L qs) (h : ∀ x, x ∈ ps ↔ x ∈ qs) : turnI z ps = turnI z qs := by
  subst hl
  refine bytes_ext (isB_turnI hz _) (isB_turnI hz _) (by rw [length_turnI, length_turnI]) (fun i hi => ?_)
  rw [length_turnI] at hi
  rw [bitI_turnI hz ps h1 i hi, bitI_turnI hz qs h2 i hi]
  have e1 := oddN_nodup ps.length ps (Nat.le_refl _) hp (fun p hp => (h1 p hp).1) i
  have e2 := oddN_nodup qs.length qs (Nat.le_refl _) hq (fun p hp => (h2 p hp).1) i
  rw [List.take_length] at e1 e2
  rw [e1, e2, show decide ((i : Int) ∈ ps) = decide ((i : Int) ∈ qs) by rw [decide_eq_decide]; exact h _]
theorem inAll_wrList (L : Nat) (wr : Int → Bool) : inAll L (wrList L wr) := fun x hx => ((mem_wrList L wr x).1 hx).1
theorem readZ_of {L : Nat} {z : List Int} (hz : IsB z) (hl : z.length = L) {wr : Int → Bool} (hwr : ∀ x, wr x = true → 0 ≤ x ∧ x < 8 * (L : Int)) {ss : List Int} (hn : ss.Nodup) (h : ∀ x, x ∈ ss ↔ wr x = true) : turnI z ss = readZ L z wr :=
  turnI_perm hz hl hn (nodup_wrList L wr) (fun x hx => hwr x ((h x).1 hx)) (inAll_wrList L wr) (fun x => by rw [h x, mem_wrList]; exact ⟨fun hh => ⟨hwr x hh, hh⟩, fun hh => hh.2⟩)
theorem readZ_none (L : Nat) (z : List Int) : readZ L z (fun _ => false) = z := by
  have e : (List.range (8 * L)).filter (fun (_ : Nat) => false) = [] := List.filter_eq_nil_iff.2 (fun _ _ => by simp)
  unfold readZ wrList
  rw [e]
  rfl
theorem length_readZ (L : Nat) (z : List Int) (wr : Int → Bool) : (readZ L z wr).length = z.length := length_turnI _ _
theorem isB_readZ {L : Nat} {z : List Int} (h : IsB z) (wr : Int → Bool) : IsB (readZ L z wr) := isB_turnI h _

theorem keys_below (mb : Option Nat) (w : World) : Calls Tryz.prog 87 #[.map mb] w fun e w' =>
    ∃ Bm, (Bm < w'.heap.size ∧ w'.cell? ⟨Bm, 0, none⟩ = some (.map mb)) ∧ e = .returned (.func (.func 112) #[] #[.pointer (some ⟨Bm, 0, none⟩)]) ∧ Below w.heap.size w w' :=
  (keys_any mb w).mono fun e w' ⟨h1, h2⟩ => ⟨w.heap.size, by rw [h2]; exact ⟨by simp, by rw [World.cell?_alloc_at _ _ _ _ rfl]; rfl⟩, h1, by rw [h2]; exact below_one _ _⟩

/-- The wrong bits of a page, collected. -/
theorem chipCollect_any {F : Nat → Prop} {B : CB} {L : Nat} {w : World} {v : Option Value} {wr : Int → Bool} (hb : BitsOk F B L w v wr) (hL : L ≤ 1000) (mb : Option Nat) (hv : v.getD (.map none) = .map mb) (Bm : Nat) (hBm : Bm < w.heap.size ∧ w.cell? ⟨Bm, 0, none⟩ = some (.map mb)) :
    Calls Tryz.prog 86 #[.func (.func 112) #[] #[.pointer (some ⟨Bm, 0, none⟩)]] w fun e w' => ∃ (a : Option Addr) (cap : Nat) (ss : List Int),
      (ss.Nodup ∧ (∀ n ∈ ss, (Lit.int .i64 n).wf = true) ∧ ∀ x, x ∈ ss ↔ wr x = true) ∧ e = .returned (.slice a ss.length cap) ∧ Row .i64 w' a ss.length cap ss ∧ Below w.heap.size w w' := by
  obtain ⟨hwr, ⟨rfl, hno⟩ | ⟨s, rfl, _, _, m, hm, hs⟩⟩ := hb
  · have e0 : mb = none := by simpa using hv.symm
    subst e0
    refine (collect_none Bm w hBm.1 hBm.2).mono ?_
    rintro e w' ⟨v, ss, rfl, rfl, hrow, hb⟩
    obtain ⟨a, cap, rfl, hr⟩ := row_of_owns hrow
    exact ⟨a, cap, [], ⟨List.nodup_nil, fun n hn => absurd hn (by simp), fun x => by rw [hno x]; simp⟩, rfl, hr, hb⟩
  · have e0 : mb = some s := by simpa using hv.symm
    subst e0
    refine (collect_some Bm s 1000000 m w hBm.1 hBm.2 hm (Nat.le_refl _)).mono ?_
    rintro e w' ⟨v, ss, rfl, ⟨h1, h2, h3⟩, hrow, hb⟩
    obtain ⟨a, cap, rfl, hr⟩ := row_of_owns hrow
    refine ⟨a, cap, ss, ⟨h1, h2, fun x => ?_⟩, rfl, hr, hb⟩
    constructor
    · intro hx; rw [← (hs x).1]; exact (h3 x (h2 x hx)).1 hx
    · intro hx; have := hwr x hx; exact (h3 x (I64.wf (by unfold I64; omega))).2 (by rw [(hs x).1]; exact hx)

/-- Turn of places that are there. -/
theorem turn_in (a c : Option Addr) (len cap len' cap' : Nat) (z ps : List Int) (w : World) (hr : Row .u8 w a len cap z) (hb : IsB z) (hr' : Row .i64 w c len' cap' ps) (hw : ∀ n ∈ ps, (Lit.int .i64 n).wf = true) (hsm : len ≤ 1000) (hin : inAll len ps) :
    Calls Tryz.prog 84 #[.slice a len cap, .slice c len' cap'] w fun e w' => ∃ q, w.heap.size ≤ q ∧ e = .returned (.tuple #[.slice (some ⟨q, 0, none⟩) len len, .int .i64 0]) ∧ Row .u8 w' (some ⟨q, 0, none⟩) len len (turnI z ps) ∧ Below w.heap.size w w' := by
  refine (turn_any a c len cap len' cap' z ps w hr hb hr' hw hsm).mono ?_
  rintro e w' ⟨hbl, ⟨_, rfl, hown⟩ | ⟨hno, _⟩⟩
  · exact ⟨_, Nat.le_refl _, rfl, isB_rowA hown, hbl⟩
  · rw [(inB_iff len ps).2 hin] at hno; cases hno

section
variable {G : Geo} {B : CB} {F : Nat → Prop} {N : Nat} {S : CS}

theorem chipRead_nil (x y : Int) (w : World) : Calls Tryz.prog 59 #[.pointer none, .int .i64 x, .int .i64 y] w fun e w' => e = .returned (.tuple #[.slice none 0 0, .int .i64 3]) ∧ w = w' := by
  go_enter Tryz.func59, Tryz.ntmps59
  go_wp2_with fail
  refine (chipReady_nil _).mono ?_
  rintro e w1 ⟨rfl, rfl⟩
  go_wp2_with fail
  go_ret2
  exact ⟨rfl, rfl⟩
theorem chipRead_down (x y : Int) (w : World) (h : CellOk G B S w) (hu : S.up = false) : Calls Tryz.prog 59 #[.pointer (some ⟨B.c, 0, none⟩), .int .i64 x, .int .i64 y] w fun e w' => e = .returned (.tuple #[.slice none 0 0, .int .i64 70]) ∧ w = w' := by
  go_enter Tryz.func59, Tryz.ntmps59
  go_wp2_with fail
  refine (chipReady_any _ h).mono ?_
  rw [hu]
  rintro e w1 ⟨rfl, rfl⟩
  go_wp2_with fail
  go_ret2
  exact ⟨rfl, rfl⟩
theorem chipRead_no (x y : Int) (w : World) (h : CellOk G B S w) (hu : S.up = true) (hp : hasP G x y = false) : Calls Tryz.prog 59 #[.pointer (some ⟨B.c, 0, none⟩), .int .i64 x, .int .i64 y] w fun e w' => e = .returned (.tuple #[.slice none 0 0, .int .i64 1]) ∧ w = w' := by
  go_enter Tryz.func59, Tryz.ntmps59
  go_wp2_with fail
  refine (chipReady_any _ h).mono ?_
  rw [hu]
  rintro e w1 ⟨rfl, rfl⟩
  go_wp2_with fail
  refine (chipHasPage_any x y _ h).mono ?_
  rw [hp]
  rintro e w1 ⟨rfl, rfl⟩
  go_wp2_with fail
  go_ret2
  exact ⟨rfl, rfl⟩
set_option maxHeartbeats 3200000 in
theorem chipRead_yes (x y : Int) (hx : I64 x) (hy : I64 y) (w : World) (h : ChipAt G B F N S w) (hu : S.up = true) (hp : hasP G x y = true) : Calls Tryz.prog 59 #[.pointer (some ⟨B.c, 0, none⟩), .int .i64 x, .int .i64 y] w fun e w' =>
    ∃ q, w.heap.size ≤ q ∧ e = .returned (.tuple #[.slice (some ⟨q, 0, none⟩) G.L G.L, .int .i64 0]) ∧ Row .u8 w' (some ⟨q, 0, none⟩) G.L G.L (readZ G.L (S.pg x y) (S.wr x y)) ∧ Below w.heap.size w w' := by
  have hL := G.ok.L2
  obtain ⟨kl, hk⟩ := spot_key (p := y) hx hy
  obtain ⟨mp, _, hpp⟩ := h.pages
  obtain ⟨hzb, hzl, _⟩ := hpp x y
  have HZB : Hid (IsB (S.pg x y)) := hzb
  have HZL : Hid ((S.pg x y).length = G.L) := hzl
  obtain ⟨m, hm, hw⟩ := h.wrong
  have hwx := hw x y
  have hfr := h.fresh
  have HW : Hid (∀ w' : World, Below w.heap.size w w' → BitsOk F B G.L w' (m (spotV x y)) (S.wr x y)) := fun w' q => hwx.same (fun k hk _ => q.block k (hfr k hk))
  obtain ⟨mb, hmb⟩ : ∃ mb, (m (spotV x y)).getD (.map none) = .map mb := by
    rcases hwx.2 with ⟨e, _⟩ | ⟨s, e, _⟩
    · exact ⟨none, by rw [e]; rfl⟩
    · exact ⟨some s, by rw [e]; rfl⟩
  have HLK : Hid (∀ w' : World, Below w.heap.size w w' → Sem.run Tryz.prog (Instr.lookup 68 (.map (some B.mr)) (spotV x y) false) w' = .ok (.map mb) w') := fun w' q => by
    have := (hm.same (q.block _ hm.lt)).look spotKeyed Tryz.underlying68 (Tryz.zeroValue67 w') hk
    rwa [hmb] at this
  have HWR : Hid (∀ q, S.wr x y q = true → 0 ≤ q ∧ q < 8 * (G.L : Int)) := hwx.1
  have HMB : Hid ((m (spotV x y)).getD (.map none) = .map mb) := hmb
  clear hwx hw hm hmb hpp hzb hzl hfr
  generalize m (spotV x y) = mv at *
  go_enter Tryz.func59, Tryz.ntmps59
  go_wp2_with fail
  refine (chipReady_any _ h.cell).mono ?_
  rw [hu]
  rintro e w1 ⟨rfl, rfl⟩
  go_wp2_with fail
  refine (chipHasPage_any x y _ h.cell).mono ?_
  rw [hp]
  rintro e w1 ⟨rfl, rfl⟩
  have bx := spotBox_new w x y
  have q1 := below_one w (.cells #[.int .i64 x, .int .i64 y] 100)
  replace h := h.below q1
  go_wp2_with fail
  generalize w.alloc (.cells #[.int .i64 x, .int .i64 y] 100) = w0 at *
  generalize hgg : w.heap.size = g at bx ⊢
  have HGG : Hid (w.heap.size = g) := hgg
  clear hgg
  refine held_begin (by kernel_rfl) ?_
  refine held_reads (rs := [0, 1, 3, 4, 5, 6, 7, 8]) (fuel := 8) (by kernel_rfl) (fun c d v a w h => by cases d <;> exact h) (by kernel_rfl) (Since.drew _) (fun K hK => ?_)
  refine calm_move _ rfl (by rfl) rfl ?_
  go_simp
  refine calm_do (.agg #[.int .i64 x, .int .i64 y]) rfl (by rfl) (fun w' hw' => ?_) ?_
  · have bx' := bx.below hw'
    have b0 := bx'.c0
    have b1 := bx'.c1
    go_simp
  go_simp
  refine calm_move _ rfl (by rfl) rfl ?_
  go_simp
  refine calm_do (.pointer (some ⟨B.c, 0, none⟩)) rfl (by rfl) (fun w' hw' => ?_) ?_
  · skip
    go_simp
  go_simp
  refine calm_do (.pointer (some ⟨B.c, 9, none⟩)) rfl (by rfl) (fun w' hw' => ?_) ?_
  · skip
    go_simp
  go_simp
  refine calm_do (.map (some B.mr)) rfl (by rfl) (fun w' hw' => ?_) ?_
  · have h' := h.below hw'
    have c9 := h'.cell.cells.c9
    go_simp
  go_simp
  refine calm_do (.agg #[.int .i64 x, .int .i64 y]) rfl (by rfl) (fun w' hw' => ?_) ?_
  · have bx' := bx.below hw'
    have b0 := bx'.c0
    have b1 := bx'.c1
    go_simp
  go_simp
  refine calm_do (.map mb) rfl (by rfl) (fun w' hw' => ?_) ?_
  · have hlk := HLK.out w' (btrans q1 hw')
    go_simp
  go_simp
  refine calm_nil (hK.out _ ?_)
  clear hK K
  refine held_call (i := 2) (fuel := 7) (by kernel_rfl) rfl (by rfl) (fun K hK => ?_)
  go_simp
  have qd := Since.drew w0
  replace h := h.below qd
  replace bx := bx.below qd
  replace q1 := btrans q1 qd
  clear qd
  refine (chipPage_any x y hx hy _ h).mono ?_
  rintro e w1 ⟨qp, rfl, rp, qq0⟩
  refine hK _ _ (Since.trans (Since.drew _) qq0) ?_
  have qq : Since _ _ := qq0
  clear hK K qq0
  replace h := h.below qq
  replace bx := bx.below qq
  replace q1 := btrans q1 qq
  clear qq
  refine held_call (i := 9) (fuel := 6) (by kernel_rfl) rfl (by rfl) (fun K hK => ?_)
  go_simp
  refine (keys_below mb _).mono ?_
  rintro e w2 ⟨Bm, hBm, rfl, qq0⟩
  refine hK _ _ (Since.trans (Since.refl _) qq0) ?_
  have qq : Since _ _ := qq0
  clear hK K qq0
  replace h := h.below qq
  replace bx := bx.below qq
  replace rp := rp.below qq (Nat.le_refl _)
  replace q1 := btrans q1 qq
  clear qq
  refine held_call (i := 10) (fuel := 5) (by kernel_rfl) rfl (by rfl) (fun K hK => ?_)
  go_simp
  refine (chipCollect_any (HW.out _ q1) (by omega) mb HMB.out Bm hBm).mono ?_
  rintro e w3 ⟨ac, cc, ss, hss, rfl, rs, qq0⟩
  refine hK _ _ (Since.trans (Since.refl _) qq0) ?_
  have qq : Since _ _ := qq0
  clear hK K qq0
  replace h := h.below qq
  replace bx := bx.below qq
  replace rp := rp.below qq (Nat.le_refl _)
  replace q1 := btrans q1 qq
  clear qq
  have hz3 := q1.size
  refine held_call (i := 11) (fuel := 4) (by kernel_rfl) rfl (by rfl) (fun K hK => ?_)
  go_simp
  refine (turn_in _ _ _ _ _ _ _ _ _ rp HZB.out rs hss.2.1 (by omega) (fun v hv => HWR.out v ((hss.2.2 v).1 hv))).mono ?_
  rintro e w4 ⟨qq2, hq2, rfl, rt, qq0⟩
  refine hK _ _ (Since.trans (Since.refl _) qq0) ?_
  have qq : Since _ _ := qq0
  clear hK K qq0
  replace h := h.below qq
  replace bx := bx.below qq
  replace rp := rp.below qq (Nat.le_refl _)
  replace rs := rs.below qq (Nat.le_refl _)
  replace q1 := btrans q1 qq
  clear qq
  refine held_reads (rs := [12, 13, 14, 15]) (fuel := 0) (by kernel_rfl) (fun c d v a w h => by cases d <;> exact h) (by kernel_rfl) (Since.refl _) (fun K hK => ?_)
  go_simp
  refine calm_do (.slice (some ⟨qq2, 0, none⟩) G.L G.L) rfl (by rfl) (fun w' hw' => ?_) ?_
  · skip
    go_simp
  go_simp
  refine calm_do (.int .i64 0) rfl (by rfl) (fun w' hw' => ?_) ?_
  · skip
    go_simp
  go_simp
  refine calm_assign _ rfl (by rfl) rfl ?_
  go_simp
  refine calm_assign _ rfl (by rfl) rfl ?_
  go_simp
  refine calm_nil (hK.out _ ?_)
  clear hK K
  refine wpAnyH_done (by kernel_rfl) ?_ _
  go_wp2_with fail
  go_ret2
  refine ⟨qq2, ?_, rfl, ?_, q1⟩
  · omega
  · rw [← readZ_of HZB.out HZL.out HWR.out hss.1 hss.2.2]; exact rt
end
end Go.Proofs.YtggpgdaacbmmdaaGreat
