/-
  The code of layer 11 (store), as it landed: spare's iterator.
-/
import Derived.Test.YtbafkakhhelcmaaGreatStoreCode5
namespace Go.Proofs.YtbafkakhhelcmaaGreat
open Go.RowKit Go.Maps Go.Shelf
set_option linter.unusedVariables false
set_option maxRecDepth 8192
attribute [local go_sem] Oper.semAt_some

/-- A block that stands for none. -/
abbrev Sp (b : Nat) (st : List Int) := { i : Nat // i < b ∧ (i : Int) ∉ st }
def spareL (st : List Int) (k : Nat) : List Nat := (List.range k).filter fun i => decide ((i : Int) ∉ st)
theorem spareL_hit {st : List Int} {k : Nat} (h : (k : Int) ∉ st) : spareL st (k + 1) = spareL st k ++ [k] := by unfold spareL; rw [List.range_succ, List.filter_append]; simp [h]
theorem spareL_miss {st : List Int} {k : Nat} (h : (k : Int) ∈ st) : spareL st (k + 1) = spareL st k := by unfold spareL; rw [List.range_succ, List.filter_append]; simp [h]
theorem spareL_len (st : List Int) (k : Nat) : (spareL st k).length ≤ k := by
  have := List.length_filter_le (fun i : Nat => decide ((i : Int) ∉ st)) (List.range k)
  rw [List.length_range] at this
  exact this
/-- What the iterator reads between two rounds lies as it lay. -/
def KeepsS (bx s g : Nat) (W W' : World) : Prop := ∀ p v, (p = ⟨bx, 0, none⟩ ∨ p = ⟨s, 1, none⟩ ∨ p.block = g) → W.cell? p = some v → W'.cell? p = some v
theorem keepsS_t {bx s g : Nat} {A B C : World} (h : KeepsS bx s g A B) (k : KeepsS bx s g B C) : KeepsS bx s g A C := fun p v hp hv => k p v hp (h p v hp hv)
theorem keepsS_b {bx s g : Nat} {w : World} (W : World) (l : Nat) (o o' : Obj) (_ : w.heap.size ≤ l) (h : W.heap[l]? = some o) (hc : o.isCells = false) (_ : o.isWalk = false) : KeepsS bx s g W (W.putObj l o') :=
  fun p v _ hv => cell_kept hv (grownBy_putObj' W l o') (fun r e => by cases e; exact ⟨o, h, hc⟩)
theorem KeepsS.row {bx s g : Nat} {W W' : World} (h : KeepsS bx s g W W') {len : Nat} {zs : List Int} (hr : Row .i64 W (some ⟨g, 0, none⟩) len len zs) (h0 : 0 < len) : Row .i64 W' (some ⟨g, 0, none⟩) len len zs := by
  refine ⟨hr.hlen, hr.hcap, hr.hmax, hr.hnil, fun _ => ?_⟩
  obtain ⟨b, off, e, hb, hc⟩ := hr.hcell h0
  simp only [Option.some.injEq, Addr.mk.injEq, and_true] at e
  obtain ⟨rfl, rfl⟩ := e
  have hk : ∀ i, i < len → W'.cell? ⟨g, 0 + i, none⟩ = some (.int .i64 (zs[i]?.getD 0)) := fun i hi => h _ _ (.inr (.inr rfl)) (hc i hi)
  exact ⟨g, 0, rfl, lt_of_cell (hk 0 h0), hk⟩
section
variable {G : Geo} {B : CB} {F : Nat → Prop} {N : Nat} {S : CS} {d s g : Nat} {st : List Int} {nu : Int} {dn : Bool}
set_option maxHeartbeats 2000000 in
set_option maxRecDepth 100000 in
theorem spare_stops (n : Nat) (hn : 1 ≤ n) (bx : Nat) (w : World) (h : StAt G B F N S d s g st nu dn w) (hbx : bx < w.heap.size) (hc : w.cell? ⟨bx, 0, none⟩ = some (.pointer (some ⟨s, 0, none⟩))) :
    SeqStopsK Fence.wide n Tryz.prog 63 #[.pointer (some ⟨bx, 0, none⟩)] (fun c : Sp G.b.toNat st => #[.int .i64 (c.1 : Nat)]) (KeepsS bx s g) (fun xs => xs.map (·.1) = spareL st G.b.toNat) (fun pre => True) G.b.toNat w := fun l J Jx W hW hJ hJx hY h0J => by
  have hst := h.below hW
  have hcW : W.cell? ⟨bx, 0, none⟩ = some (.pointer (some ⟨s, 0, none⟩)) := by rw [hW.cell (p := ⟨bx, 0, none⟩) hbx]; exact hc
  have hGb := G.ok.hb
  have hfl := geoField0 G.b G.p G.s G.n G.f
  have hl := hst.sb.len
  have hgm := drvGeometry_any W hst.db hst.chip.cell hst.chip.lt
  have c0 := hst.sb.c0
  have HJ : Hid (AbidesFrom W.heap.size J) := hJ
  have HC1 : Hid (W.cell? ⟨s, 1, none⟩ = some (.slice (some ⟨g, 0, none⟩) st.length st.length)) := hst.sb.c1
  have HROW : Hid (Row .i64 W (some ⟨g, 0, none⟩) st.length st.length st) := hst.sb.ints
  clear hc hJ hJx h hst hW
  obtain ⟨L, hL⟩ : ∃ L, L = st.length := ⟨_, rfl⟩
  rw [← hL] at hl HC1 HROW
  clear hL
  obtain ⟨bn, hbn⟩ : ∃ bn : Nat, G.b = (bn : Int) := ⟨G.b.toNat, by omega⟩
  have HBN : Hid (G.b.toNat = bn) := by show _ = _; omega
  have HBE : Hid (G.b = (bn : Int)) := hbn
  have hbn2 : bn ≤ 256 := by omega
  clear hbn
  refine callsIn_of_wp Tryz.func63 rfl trivial ?_ rfl
  simp only [Tryz.ntmps63, List.size_toArray, List.length_cons, List.length_nil, Nat.reduceAdd, Nat.reduceSub, Array.replicate_succ, Array.replicate_zero, List.push_toArray, List.append_toArray, List.nil_append, List.cons_append]
  gi_wp2_with (refine ⟨trivial, ?_⟩; gi_at_call 45; refine (callsIn_wide.2 hgm).mono ?_; rintro e w1 ⟨rfl, q1⟩)
  have hJ1 : J [] w1 := HJ.out [] W w1 none h0J ⟨q1.os, q1.tape, q1.output, q1.size, fun k hk _ => q1.block k hk⟩ (fun r e => by cases e)
  have c1 : w1.cell? ⟨bx, 0, none⟩ = some (.pointer (some ⟨s, 0, none⟩)) := by rw [q1.cell (lt_of_cell hcW)]; exact hcW
  have c2 : w1.cell? ⟨s, 1, none⟩ = some (.slice (some ⟨g, 0, none⟩) L L) := by rw [q1.cell (lt_of_cell HC1.out)]; exact HC1.out
  have hr1 := HROW.out.below q1 (Nat.le_refl _)
  clear hgm c0 hcW h0J HC1 HROW q1
  rw [HBE.out]
  gi_loopw [10] (fun p wr => ∃ (k : Nat) (pre : List (Sp G.b.toNat st)), k ≤ bn ∧ p = .int .i64 (k : Int) ∧ pre.map (·.1) = spareL st k ∧ wr.cell? ⟨bx, 0, none⟩ = some (.pointer (some ⟨s, 0, none⟩)) ∧ wr.cell? ⟨s, 1, none⟩ = some (.slice (some ⟨g, 0, none⟩) L L) ∧ Row .i64 wr (some ⟨g, 0, none⟩) L L st ∧ J pre wr)
    (fun p _ => bn - (RowKit.intOf p).toNat)
  case atStart => exact ⟨0, [], Nat.zero_le _, rfl, rfl, c1, c2, hr1, hJ1⟩
  case round =>
    clear c1 c2 hr1 hJ1
    obtain ⟨k, pre, hk, rfl, hpre, hc0, hc1, hrow, hJs⟩ := hrel
    have HPRE : Hid (pre.map (·.1) = spareL st k) := hpre
    clear hpre
    by_cases hlt : k < bn
    · have hlt' : (k : Int) < (bn : Int) := by omega
      have hct := contI_any (some ⟨g, 0, none⟩) L L st (k : Int) wr hrow (by omega)
      by_cases hin : (k : Int) ∈ st
      · rw [decide_eq_true hin] at hct
        have HPR2 : Hid (pre.map (·.1) = spareL st (k + 1)) := by show _ = _; rw [spareL_miss hin]; exact HPRE.out
        clear hin HPRE hY
        gi_wp2_with (refine ⟨trivial, ?_⟩; gi_at_call 64; refine (callsIn_wide.2 hct).mono ?_; rintro e w2 ⟨rfl, rfl⟩)
        refine ⟨fun _ h => (by cases h), ?_⟩
        gi_wp2_with fail
        go_roundw
        case rel => exact ⟨k + 1, pre, by omega, by go_num, HPR2.out, hc0, hc1, hrow, hJs⟩
        case measure => simp [RowKit.intOf]; omega
      · rw [decide_eq_false hin] at hct
        have hl0 : pre.length < G.b.toNat := by
          have h1 := congrArg List.length HPRE.out
          rw [List.length_map] at h1
          have h2 := spareL_len st k
          have := HBN.out
          omega
        obtain ⟨c, hck⟩ : ∃ c : Sp G.b.toNat st, c.1 = k := ⟨⟨k, by have := HBN.out; omega, hin⟩, rfl⟩
        obtain ⟨fn, tmps, assign, body, hy, hR'⟩ := hY pre c wr hJs hl0
        rw [hck] at hy
        have HPR2 : Hid ((pre ++ [c]).map (·.1) = spareL st (k + 1)) := by show _ = _; rw [List.map_append, HPRE.out, spareL_hit hin]; simp [hck]
        have HYR : Hid _ := hR'
        clear hR' HPRE hY hin hck
        gi_wp2_with (refine ⟨trivial, ?_⟩; gi_at_call 64; refine (callsIn_wide.2 hct).mono ?_; rintro e w2 ⟨rfl, rfl⟩)
        refine RoundIn.mono HYR.out ?_
        rintro e W3 (⟨rfl, hJ3, hk3⟩ | ⟨rfl, hJx3⟩)
        · have hc03 := hk3 _ _ (.inl rfl) hc0
          have hc13 := hk3 _ _ (.inr (.inl rfl)) hc1
          have hr3 := hk3.row hrow (by omega)
          clear hy HYR hc0 hc1 hk3 hrow hct
          gi_wp2_with fail
          go_roundw
          case rel => exact ⟨k + 1, _, by omega, by go_num, HPR2.out, hc03, hc13, hr3, hJ3⟩
          case measure => simp [RowKit.intOf]; omega
        · clear hy HYR hct
          gi_wp2_with fail
          refine bodyPost_ret (results_none rfl _ _ _) rfl ?_
          exact ⟨⟨_, rfl⟩, .inr ⟨_, trivial, hJx3⟩⟩
    · obtain rfl : k = bn := by omega
      gi_wp2_with fail
      go_end0
      exact ⟨⟨_, rfl⟩, .inl ⟨_, HPRE.out.trans (by rw [HBN.out]), hJs⟩⟩
end
end Go.Proofs.YtbafkakhhelcmaaGreat
