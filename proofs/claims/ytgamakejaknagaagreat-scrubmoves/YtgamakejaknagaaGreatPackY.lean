/-
  The code of layer 11 (store), as it landed: fill: a block is written on.
-/
import Derived.Test.YtgamakejaknagaaGreatPackX
import Derived.Lib.SliceRun
import Derived.Deep.AppendLies
namespace Go.Proofs.YtgamakejaknagaaGreat
open Go.RowKit Go.Maps
set_option linter.unusedVariables false
set_option maxRecDepth 8192

/-- What writing bytes of j on the block x makes of what the blocks hold. -/
def FillK (G : Geo) (S : CS) (K : Int → BK) (x j : Int) (D : List Int) (nu r : Int) (S1 : CS) (nu1 : Int) : Prop :=
  ∃ k, (CInv G S1 (updK K x k) ∧ Apart S S1 x) ∧
    ((r = 73 ∧ (S.bd x = true ∧ S1 = S) ∧ k = K x ∧ nu1 = nu) ∨
     (r = 72 ∧ (S.wk x = true ∧ S1.bd x = true ∧ S1.up = true) ∧ k = K x ∧ nu1 = nu) ∨
     (r = 70 ∧ (S.ah ≠ 0 ∧ S1.up = false ∧ (S.wk x = false → S1.bd x = S.bd x)) ∧ (k = K x ∨ k = .no ∨ k = .part j (D.length : Nat) nu ∨ (k = .copy j D nu ∧ S.bd x = false ∧ S1.bd x = false)) ∧ nu ≤ nu1 ∧ nu1 ≤ nu + 1) ∨
     (r = 0 ∧ (S1.up = true ∧ S.wk x = false ∧ S.bd x = false ∧ S1.bd x = false ∧ ∀ p : Int, 0 ≤ p → p < G.p → S1.wr x p = fun _ => false) ∧ k = .copy j D nu ∧ nu1 = nu + 1))
section
variable {G : Geo} {S S1 S2 : CS} {K : Int → BK} {x j nu r : Int} {D : List Int}
theorem fillK_erase (hE : EraseRes G S x r S1) (hr : r ≠ 0) (hc : CInv G S K) (hx : 0 ≤ x ∧ x < G.b) : FillK G S K x j D nu r S1 nu := by
  obtain ⟨k, ⟨h1, _⟩, h2, _, h4⟩ := hE.inv hc hx
  refine ⟨k, ⟨h1, hE.1⟩, ?_⟩
  rcases hE.2 with ⟨rfl, hb, rfl⟩ | ⟨rfl, ⟨hw, _⟩, hu, hb, _⟩ | ⟨rfl, ⟨ha, hb0, hb1⟩, hu, _⟩ | ⟨rfl, _⟩
  · exact .inl ⟨rfl, ⟨hb, rfl⟩, h4 (.inr rfl), rfl⟩
  · exact .inr (.inl ⟨rfl, ⟨hw, hb, hu⟩, h4 (.inl rfl), rfl⟩)
  · exact .inr (.inr (.inl ⟨rfl, ⟨ha, hu, fun e => by rw [hb1 e, hb0]⟩, h2.imp id .inl, Int.le_refl _, by omega⟩))
  · exact absurd rfl hr
theorem erase_zero (hE : EraseRes G S x 0 S1) : S.wk x = false ∧ S.bd x = false := by
  rcases hE.2 with ⟨h, _⟩ | ⟨h, _⟩ | ⟨h, _⟩ | ⟨_, h, _⟩
  · cases h
  · cases h
  · cases h
  · exact h
theorem fillK_torn (hE : EraseRes G S x 0 S1) (hc : CInv G S K) (hx : 0 ≤ x ∧ x < G.b) (ap : Apart S1 S2 x) (hah : S1.ah ≠ 0) {m : Nat} (hm : m ≤ (fullP G.R j D nu).length) (ht : Torn G S2 x ((fullP G.R j D nu).take m)) (hmay : mayH G.C j (D.length : Nat) nu = true) (hB : IsB D) : FillK G S K x j D nu 70 S2 (nu + 1) := by
  obtain ⟨k, hk, hkk⟩ := torn_is hm ht hmay hB
  refine ⟨k, ⟨hc.apart (hE.1.trans ap) hk, hE.1.trans ap⟩, .inr (.inr (.inl ⟨rfl, ⟨fun e => hah (hE.1.ah e), ht.up, fun _ => by rw [ht.bd, (erase_zero hE).2]⟩, ?_, by omega, by omega⟩))⟩
  rcases hkk with h | h | h
  · exact .inr (.inl h)
  · exact .inr (.inr (.inl h))
  · exact .inr (.inr (.inr ⟨h, (erase_zero hE).2, ht.bd⟩))
theorem fillK_done (hE : EraseRes G S x 0 S1) (hc : CInv G S K) (hx : 0 ≤ x ∧ x < G.b) (ap : Apart S1 S2 x) (hf : Fil G S2 x (fullP G.R j D nu)) (hmay : mayH G.C j (D.length : Nat) nu = true) (hB : IsB D) : FillK G S K x j D nu 0 S2 (nu + 1) :=
  ⟨_, ⟨hc.apart (hE.1.trans ap) (fil_copy hf hmay hB), hE.1.trans ap⟩, .inr (.inr (.inr ⟨rfl, ⟨hf.up, (erase_zero hE).1, (erase_zero hE).2, hf.bd, hf.wr⟩, rfl, rfl⟩))⟩
end
section
variable {G : Geo} {B : CB} {F : Nat → Prop} {N : Nat} {S : CS} {d s g : Nat} {st : List Int} {nu : Int} {dn : Bool}
set_option maxHeartbeats 3200000 in
theorem fill_any (x : Int) (hx : 0 ≤ x ∧ x < G.b) (j : Int) (D : List Int) (a : Option Addr) (len cap : Nat) (w : World) (h : StAt G B F N S d s g st nu dn w) (hlim : B.lim ≤ w.heap.size) (hN : N + 310 < 100000000) (hup : S.up = true) (K : Int → BK) (hK : CInv G S K) (hr : OffS F s g .u8 w a len cap D) (hD : IsB D) (hmay : mayH G.C j (len : Nat) nu = true) :
    Calls Tryz.prog 44 #[.pointer (some ⟨s, 0, none⟩), .int .i64 x, .int .i64 j, .slice a len cap] w fun e w' => ∃ r F1 S1 nu1, (e = .returned (.int .i64 r) ∧ StAt G B F1 (N + 300) S1 d s g st nu1 dn w' ∧ SDoes F s g w F1 w') ∧ FillK G S K x j D nu r S1 nu1 := by
  have hDl := hr.row.hlen
  have hmy := mayH_yes hmay
  have hR := G.ok.hR1
  have hGp := G.ok.hp
  have hGb := G.ok.hb
  have hxi : I64 x := by unfold I64; omega
  have hpp := may_pages (G := G) (n := len) (by omega)
  have hlm : len ≤ maxLen := Nat.le_trans hr.row.hcap hr.row.hmax
  have hlm' : (len : Int) ≤ 9223372036854775807 := by unfold maxLen at hlm; omega
  have HER : Hid (EraseRes G S x (S.eraseD G x).1 (S.eraseD G x).2) := erase_res hx hup
  have HKI : Hid (CInv G S K) := hK
  clear hK
  go_enter Tryz.func44, Tryz.ntmps44
  go_wp2_with fail
  refine held_begin (by kernel_rfl) ?_
  refine held_reads (rs := [0, 1, 2, 3, 5, 6, 7, 8, 9, 10, 11, 12]) (fuel := 7) (by kernel_rfl) (fun c d v a w h => by cases d <;> exact h) (by kernel_rfl) (Since.drew _) (fun K hK => ?_)
  refine calm_move _ rfl (by rfl) rfl ?_
  go_simp
  refine calm_do (.pointer (some ⟨s, 0, none⟩)) rfl (by rfl) (fun w' hw' => ?_) ?_
  · have c0 := (h.sb.below hw' (Nat.le_refl _)).c0
    go_simp
  go_simp
  refine calm_do (.pointer (some ⟨s, 0, none⟩)) rfl (by rfl) (fun w' hw' => ?_) ?_
  · go_simp
  go_simp
  refine calm_do (.pointer (some ⟨d, 0, none⟩)) rfl (by rfl) (fun w' hw' => ?_) ?_
  · have c0 := (h.sb.below hw' (Nat.le_refl _)).c0
    go_simp
  go_simp
  refine calm_move _ rfl (by rfl) rfl ?_
  go_simp
  refine calm_move _ rfl (by rfl) rfl ?_
  go_simp
  refine calm_do (.int .i64 (len : Int)) rfl (by rfl) (fun w' hw' => ?_) ?_
  · go_simp
  go_simp
  refine calm_move _ rfl (by rfl) rfl ?_
  go_simp
  refine calm_do (.pointer (some ⟨s, 0, none⟩)) rfl (by rfl) (fun w' hw' => ?_) ?_
  · have c0 := (h.sb.below hw' (Nat.le_refl _)).c0
    go_simp
  go_simp
  refine calm_do (.pointer (some ⟨s, 2, none⟩)) rfl (by rfl) (fun w' hw' => ?_) ?_
  · go_simp
  go_simp
  refine calm_do (.int .i64 nu) rfl (by rfl) (fun w' hw' => ?_) ?_
  · have c2 := (h.sb.below hw' (Nat.le_refl _)).c2
    go_simp
  go_simp
  refine calm_do (.agg #[.int .i64 j, .int .i64 (len : Int), .int .i64 nu]) rfl (by rfl) (fun w' hw' => ?_) ?_
  · go_simp
  go_simp
  refine calm_nil (hK.out _ ?_)
  clear hK K
  refine held_call (i := 4) (fuel := 6) (by kernel_rfl) rfl (by rfl) (fun K hK => ?_)
  go_simp
  have hd4 := h.drew
  refine (drvGeometry_any w.drew hd4.db hd4.chip.cell hd4.chip.lt).mono ?_
  clear hd4
  rintro e w1 ⟨rfl, qq0⟩
  have q1 : Since w w1 := Since.trans (Since.drew _) qq0
  refine hK _ _ q1 ?_
  clear hK K qq0
  replace h := h.below q1
  have hr1 := hr.step (SDoes.of_below q1)
  refine held_call (i := 13) (fuel := 5) (by kernel_rfl) rfl (by rfl) (fun K hK => ?_)
  go_simp
  refine (hBytes_yes G.gmay j (len : Int) nu w1 hmay).mono ?_
  rintro e w2 ⟨g1, hg1, rfl, own, qq0⟩
  have q2 : Since w1 w2 := qq0
  refine hK _ _ q2 ?_
  clear hK K qq0
  obtain ⟨a1, cp1, hv1, r1⟩ := row_of_owns own
  simp only [Value.slice.injEq, true_and] at hv1
  obtain ⟨rfl, rfl⟩ := hv1
  have hs1 := h.sb.slt
  have hgl1 := h.sb.glt
  have hfr1 := h.chip.fresh
  have of1 : OffS F s g .u8 w2 (some ⟨g1, 0, none⟩) G.R G.R (pageOf G.R j (len : Int) nu) := ⟨r1, fun _ y hy hf => by
    simp only [Option.some.injEq] at hy
    subst hy
    rcases hf with hf | hf | hf
    · have := hfr1 _ hf; dsimp only at this; omega
    · dsimp only at hf; omega
    · dsimp only at hf; omega⟩
  replace h := h.below q2
  have hr2 := hr1.step (SDoes.of_below q2)
  have SD2 : Hid (SDoes F s g w F w2) := SDoes.of_below (btrans q1 q2)
  clear own r1 hr1 hr q1 q2 hs1 hgl1 hfr1 hg1
  refine held_reads (rs := [14, 15, 16, 17, 18]) (fuel := 0) (by kernel_rfl) (fun c d v a w h => by cases d <;> exact h) (by kernel_rfl) (Since.refl _) (fun K hK => ?_)
  go_simp
  refine calm_move _ rfl (by rfl) rfl ?_
  go_simp
  refine calm_do (.slice (some ⟨g1, 0, none⟩) G.R G.R) rfl (by rfl) (fun w' hw' => ?_) ?_
  · go_simp
  go_simp
  refine calm_do (.int .i64 0) rfl (by rfl) (fun w' hw' => ?_) ?_
  · go_simp
  go_simp
  refine calm_assign _ rfl (by rfl) rfl ?_
  go_simp
  refine calm_assign _ rfl (by rfl) rfl ?_
  go_simp
  refine calm_nil (hK.out _ ?_)
  clear hK K
  refine wpAnyH_done (by kernel_rfl) ?_ _
  have c0 := h.sb.c0
  have HPG : Hid (IsB (pageOf G.R j (len : Int) nu) ∧ (pageOf G.R j (len : Int) nu).length = G.R) := ⟨isB_page _ _ _ _, pageOf_len _ _ _ hR.1⟩
  have her := drvErase_any x hxi w2 h.db h.fd h.chip (by omega)
  go_wp2_with fail
  refine her.mono ?_
  clear her
  rintro e w3 ⟨rfl, dd⟩
  obtain ⟨F3, h3, sd3, t3⟩ := h.does dd
  replace of1 := of1.step sd3
  replace hr2 := hr2.step sd3
  have SD3 : Hid (SDoes F s g w F3 w3) := SD2.out.trans sd3
  clear dd sd3 t3 h SD2 c0
  generalize hee : S.eraseD G x = E at *
  obtain ⟨r, S3⟩ := E
  simp only at HER h3
  clear hee
  by_cases hr0 : r = 0
  · subst hr0
    have c0 := h3.sb.c0
    have c2 := h3.sb.c2
    have f2 := h3.sb.soft 2
    obtain ⟨h4, sd4⟩ := h3.setNum (nu + 1)
    have of4 := of1.step sd4
    have hr4 := hr2.step sd4
    have SD4 : Hid _ := SD3.out.trans sd4
    have HF0 : Hid (Fil G S3 x []) := fil_zero hx HER.out
    clear h3 of1 hr2 SD3 sd4
    have d0 := h4.sb.c0
    have hyb : inB0 0 G.p = true := inB0_of (by omega)
    have hu1 : S3.use G x true = 0 := use_of HF0.out.up (inB0_of hx) rfl HF0.out.bd
    have hwr := drvWrite_yes (F := F3) x 0 hxi (by unfold I64; omega) (some ⟨g1, 0, none⟩) G.R (pageOf G.R j (len : Int) nu) _ h4.db h4.fd h4.chip of4.row HPG.out.1 (by omega) hyb hu1
    have HHW : Hid _ := hwr
    clear hwr
    have H4 : Hid _ := h4
    clear h4
    go_wp2_with fail
    refine Calls.mono HHW.out ?_
    clear HHW
    rintro e w5 ⟨z, hz, rfl, dd⟩
    obtain ⟨F5, h5, sd5, t5⟩ := StAt.does H4.out dd
    have hr5 := hr4.step sd5
    have SD5 : Hid _ := SDoes.trans SD4.out sd5
    obtain ⟨ap5, hres⟩ := write_res hx HF0.out (by simp; omega) HPG.out.1 HPG.out.2 hz
    simp only [List.length_nil, Int.natCast_zero, List.nil_append] at ap5 hres
    have HAP : Hid _ := ap5
    have HRES : Hid _ := hres
    clear dd sd5 t5 SD4 hr4 of4 H4 ap5 hres c0 c2 f2 d0 hu1 hz
    change Hid (Apart S3 (CS.after G (S3.doProgram G x 0 z) x).2 x) at HAP
    generalize hee : CS.after G (S3.doProgram G x 0 z) x = E at *
    obtain ⟨r5, S5⟩ := E
    simp only at h5 HAP HRES
    clear hee
    rcases HRES.out with ⟨h0, hf5⟩ | ⟨h70, hah, ls', hls', htn⟩
    · subst h0
      have hly := lay_any x hx (pageOf G.R j (len : Int) nu) D a len cap w5 h5 (Nat.le_trans hlim SD5.out.tn.size) (by omega) hf5 hr5 hD (by omega)
      have HLY : Hid _ := hly
      clear hly HRES hf5 hr5
      go_wp2_with fail
      refine Calls.mono HLY.out ?_
      rintro e w6 ⟨r6, F6, S6, ⟨rfl, h6, sd6, ap6⟩, hr6⟩
      have HFIN : Hid (FillK G S K x j D nu r6 S6 (nu + 1)) := by
        have e : fullP G.R j D nu = pageOf G.R j (len : Int) nu :: (List.range (pagesOf G.R len)).map (chunkZ G.R D) := by unfold fullP; rw [hDl]
        rcases hr6 with ⟨rfl, hf⟩ | ⟨rfl, hah, m, hm, ht⟩
        · rw [← e] at hf
          exact fillK_done HER.out HKI.out hx (HAP.out.trans ap6) hf (by rw [hDl]; exact hmay) hD
        · rw [← e] at ht
          exact fillK_torn HER.out HKI.out hx (HAP.out.trans ap6) (fun e0 => hah (HAP.out.ah e0)) (by rw [fullP_len, hDl]; omega) ht (by rw [hDl]; exact hmay) hD
      have HST : Hid _ := h6.mono (N' := N + 300) (by omega)
      have HSD : Hid _ := SDoes.trans SD5.out sd6
      clear h6 sd6 ap6 hr6 HLY SD5 h5
      go_wp2_with fail
      go_ret
      exact ⟨r6, F6, S6, nu + 1, ⟨rfl, HST.out, HSD.out⟩, HFIN.out⟩
    · subst h70
      have HFIN : Hid (FillK G S K x j D nu 70 S5 (nu + 1)) := by
        have e : fullP G.R j D nu = pageOf G.R j (len : Int) nu :: (List.range (pagesOf G.R len)).map (chunkZ G.R D) := by unfold fullP; rw [hDl]
        have e2 : ls' = (fullP G.R j D nu).take ls'.length := by
          rw [e]
          rcases hls' with rfl | rfl
          · rfl
          · rfl
        have hl : ls'.length ≤ (fullP G.R j D nu).length := by
          rw [fullP_len]
          rcases hls' with rfl | rfl
          · simp
          · simp
        rw [e2] at htn
        exact fillK_torn HER.out HKI.out hx HAP.out hah hl htn (by rw [hDl]; exact hmay) hD
      have HST : Hid _ := h5.mono (N' := N + 300) (by omega)
      clear h5 HRES htn
      go_wp2_with fail
      go_ret
      exact ⟨70, F5, S5, nu + 1, ⟨rfl, HST.out, SD5.out⟩, HFIN.out⟩
  · have hne : (r != 0) = true := by simp [hr0]
    have HFIN : Hid (FillK G S K x j D nu r S3 nu) := fillK_erase HER.out hr0 HKI.out hx
    have HST : Hid _ := h3.mono (N' := N + 300) (by omega)
    clear h3 of1 hr2 hr0
    go_wp2_with fail
    go_ret
    exact ⟨r, F3, S3, nu, ⟨rfl, HST.out, SD3.out⟩, HFIN.out⟩
end
end Go.Proofs.YtgamakejaknagaaGreat

/-
  The code of layer 11 (store), as it landed: spare's iterator.
-/
namespace Go.Proofs.YtgamakejaknagaaGreat
open Go.RowKit Go.Maps Go.Shelf
set_option linter.unusedVariables false
set_option maxRecDepth 8192
attribute [local go_sem] Oper.semAt_some

/-- A block that stands for none. -/
abbrev Sp (b : Nat) (st : List Int) := { i : Nat // i < b ∧ (i : Int) ∉ st }
def spareL (st : List Int) (k : Nat) : List Nat := (List.range k).filter fun i => decide ((i : Int) ∉ st)
theorem spareL_hit {st : List Int} {k : Nat} (h : (k : Int) ∉ st) : spareL st (k + 1) = spareL st k ++ [k] := by unfold spareL; rw [List.range_succ, List.filter_append]; simp [h]
theorem spareL_miss {st : List Int} {k : Nat} (h : (k : Int) ∈ st) : spareL st (k + 1) = spareL st k := by unfold spareL; rw [List.range_succ, List.filter_append]; simp [h]
theorem spareL_len (st : List Int) (k : Nat) : (spareL st k).length ≤ k := by
  have := List.length_filter_le (fun i : Nat => decide ((i : Int) ∉ st)) (List.range k)
  rw [List.length_range] at this
  exact this
/-- What the iterator reads between two rounds lies as it lay. -/
def KeepsS (bx s g : Nat) (W W' : World) : Prop := ∀ p v, (p = ⟨bx, 0, none⟩ ∨ p = ⟨s, 1, none⟩ ∨ p.block = g) → W.cell? p = some v → W'.cell? p = some v
theorem keepsS_t {bx s g : Nat} {A B C : World} (h : KeepsS bx s g A B) (k : KeepsS bx s g B C) : KeepsS bx s g A C := fun p v hp hv => k p v hp (h p v hp hv)
theorem keepsS_b {bx s g : Nat} {w : World} (W : World) (l : Nat) (o o' : Obj) (_ : w.heap.size ≤ l) (h : W.heap[l]? = some o) (hc : o.isCells = false) (_ : o.isWalk = false) : KeepsS bx s g W (W.putObj l o') :=
  fun p v _ hv => cell_kept hv (grownBy_putObj' W l o') (fun r e => by cases e; exact ⟨o, h, hc⟩)
theorem KeepsS.row {bx s g : Nat} {W W' : World} (h : KeepsS bx s g W W') {len : Nat} {zs : List Int} (hr : Row .i64 W (some ⟨g, 0, none⟩) len len zs) (h0 : 0 < len) : Row .i64 W' (some ⟨g, 0, none⟩) len len zs := by
  refine ⟨hr.hlen, hr.hcap, hr.hmax, hr.hnil, fun _ => ?_⟩
  obtain ⟨b, off, e, hb, hc⟩ := hr.hcell h0
  simp only [Option.some.injEq, Addr.mk.injEq, and_true] at e
  obtain ⟨rfl, rfl⟩ := e
  have hk : ∀ i, i < len → W'.cell? ⟨g, 0 + i, none⟩ = some (.int .i64 (zs[i]?.getD 0)) := fun i hi => h _ _ (.inr (.inr rfl)) (hc i hi)
  exact ⟨g, 0, rfl, lt_of_cell (hk 0 h0), hk⟩
section
variable {G : Geo} {B : CB} {F : Nat → Prop} {N : Nat} {S : CS} {d s g : Nat} {st : List Int} {nu : Int} {dn : Bool}
set_option maxHeartbeats 2000000 in
set_option maxRecDepth 100000 in
theorem spare_stops (n : Nat) (hn : 1 ≤ n) (bx : Nat) (w : World) (h : StAt G B F N S d s g st nu dn w) (hbx : bx < w.heap.size) (hc : w.cell? ⟨bx, 0, none⟩ = some (.pointer (some ⟨s, 0, none⟩))) :
    SeqStopsK Fence.wide n Tryz.prog 68 #[.pointer (some ⟨bx, 0, none⟩)] (fun c : Sp G.b.toNat st => #[.int .i64 (c.1 : Nat)]) (KeepsS bx s g) (fun xs => xs.map (·.1) = spareL st G.b.toNat) (fun pre => True) G.b.toNat w := fun l J Jx W hW hJ hJx hY h0J => by
  have hst := h.below hW
  have hcW : W.cell? ⟨bx, 0, none⟩ = some (.pointer (some ⟨s, 0, none⟩)) := by rw [hW.cell (p := ⟨bx, 0, none⟩) hbx]; exact hc
  have hGb := G.ok.hb
  have hfl := geoField0 G.b G.p G.s G.n G.f
  have hl := hst.sb.len
  have hgm := drvGeometry_any W hst.db hst.chip.cell hst.chip.lt
  have c0 := hst.sb.c0
  have HJ : Hid (AbidesFrom W.heap.size J) := hJ
  have HC1 : Hid (W.cell? ⟨s, 1, none⟩ = some (.slice (some ⟨g, 0, none⟩) st.length st.length)) := hst.sb.c1
  have HROW : Hid (Row .i64 W (some ⟨g, 0, none⟩) st.length st.length st) := hst.sb.ints
  clear hc hJ hJx h hst hW
  obtain ⟨L, hL⟩ : ∃ L, L = st.length := ⟨_, rfl⟩
  rw [← hL] at hl HC1 HROW
  clear hL
  obtain ⟨bn, hbn⟩ : ∃ bn : Nat, G.b = (bn : Int) := ⟨G.b.toNat, by omega⟩
  have HBN : Hid (G.b.toNat = bn) := by show _ = _; omega
  have HBE : Hid (G.b = (bn : Int)) := hbn
  have hbn2 : bn ≤ 256 := by omega
  clear hbn
  refine callsIn_of_wp Tryz.func68 rfl trivial ?_ rfl
  simp only [Tryz.ntmps68, List.size_toArray, List.length_cons, List.length_nil, Nat.reduceAdd, Nat.reduceSub, Array.replicate_succ, Array.replicate_zero, List.push_toArray, List.append_toArray, List.nil_append, List.cons_append]
  gi_wp2_with (refine ⟨trivial, ?_⟩; gi_at_call 48; refine (callsIn_wide.2 hgm).mono ?_; rintro e w1 ⟨rfl, q1⟩)
  have hJ1 : J [] w1 := HJ.out [] W w1 none h0J ⟨q1.os, q1.tape, q1.output, q1.size, fun k hk _ => q1.block k hk⟩ (fun r e => by cases e)
  have c1 : w1.cell? ⟨bx, 0, none⟩ = some (.pointer (some ⟨s, 0, none⟩)) := by rw [q1.cell (lt_of_cell hcW)]; exact hcW
  have c2 : w1.cell? ⟨s, 1, none⟩ = some (.slice (some ⟨g, 0, none⟩) L L) := by rw [q1.cell (lt_of_cell HC1.out)]; exact HC1.out
  have hr1 := HROW.out.below q1 (Nat.le_refl _)
  clear hgm c0 hcW h0J HC1 HROW q1
  rw [HBE.out]
  gi_loopw [10] (fun p wr => ∃ (k : Nat) (pre : List (Sp G.b.toNat st)), k ≤ bn ∧ p = .int .i64 (k : Int) ∧ pre.map (·.1) = spareL st k ∧ wr.cell? ⟨bx, 0, none⟩ = some (.pointer (some ⟨s, 0, none⟩)) ∧ wr.cell? ⟨s, 1, none⟩ = some (.slice (some ⟨g, 0, none⟩) L L) ∧ Row .i64 wr (some ⟨g, 0, none⟩) L L st ∧ J pre wr)
    (fun p _ => bn - (RowKit.intOf p).toNat)
  case atStart => exact ⟨0, [], Nat.zero_le _, rfl, rfl, c1, c2, hr1, hJ1⟩
  case round =>
    clear c1 c2 hr1 hJ1
    obtain ⟨k, pre, hk, rfl, hpre, hc0, hc1, hrow, hJs⟩ := hrel
    have HPRE : Hid (pre.map (·.1) = spareL st k) := hpre
    clear hpre
    by_cases hlt : k < bn
    · have hlt' : (k : Int) < (bn : Int) := by omega
      have hct := contI_any (some ⟨g, 0, none⟩) L L st (k : Int) wr hrow (by omega)
      by_cases hin : (k : Int) ∈ st
      · rw [decide_eq_true hin] at hct
        have HPR2 : Hid (pre.map (·.1) = spareL st (k + 1)) := by show _ = _; rw [spareL_miss hin]; exact HPRE.out
        clear hin HPRE hY
        gi_wp2_with (refine ⟨trivial, ?_⟩; gi_at_call 60; refine (callsIn_wide.2 hct).mono ?_; rintro e w2 ⟨rfl, rfl⟩)
        refine ⟨fun _ h => (by cases h), ?_⟩
        gi_wp2_with fail
        go_roundw
        case rel => exact ⟨k + 1, pre, by omega, by go_num, HPR2.out, hc0, hc1, hrow, hJs⟩
        case measure => simp [RowKit.intOf]; omega
      · rw [decide_eq_false hin] at hct
        have hl0 : pre.length < G.b.toNat := by
          have h1 := congrArg List.length HPRE.out
          rw [List.length_map] at h1
          have h2 := spareL_len st k
          have := HBN.out
          omega
        obtain ⟨c, hck⟩ : ∃ c : Sp G.b.toNat st, c.1 = k := ⟨⟨k, by have := HBN.out; omega, hin⟩, rfl⟩
        obtain ⟨fn, tmps, assign, body, hy, hR'⟩ := hY pre c wr hJs hl0
        rw [hck] at hy
        have HPR2 : Hid ((pre ++ [c]).map (·.1) = spareL st (k + 1)) := by show _ = _; rw [List.map_append, HPRE.out, spareL_hit hin]; simp [hck]
        have HYR : Hid _ := hR'
        clear hR' HPRE hY hin hck
        gi_wp2_with (refine ⟨trivial, ?_⟩; gi_at_call 60; refine (callsIn_wide.2 hct).mono ?_; rintro e w2 ⟨rfl, rfl⟩)
        refine RoundIn.mono HYR.out ?_
        rintro e W3 (⟨rfl, hJ3, hk3⟩ | ⟨rfl, hJx3⟩)
        · have hc03 := hk3 _ _ (.inl rfl) hc0
          have hc13 := hk3 _ _ (.inr (.inl rfl)) hc1
          have hr3 := hk3.row hrow (by omega)
          clear hy HYR hc0 hc1 hk3 hrow hct
          gi_wp2_with fail
          go_roundw
          case rel => exact ⟨k + 1, _, by omega, by go_num, HPR2.out, hc03, hc13, hr3, hJ3⟩
          case measure => simp [RowKit.intOf]; omega
        · clear hy HYR hct
          gi_wp2_with fail
          refine bodyPost_ret (results_none rfl _ _ _) rfl ?_
          exact ⟨⟨_, rfl⟩, .inr ⟨_, trivial, hJx3⟩⟩
    · obtain rfl : k = bn := by omega
      gi_wp2_with fail
      go_end0
      exact ⟨⟨_, rfl⟩, .inl ⟨_, HPRE.out.trans (by rw [HBN.out]), hJs⟩⟩
end
end Go.Proofs.YtgamakejaknagaaGreat

/-
  The code of layer 11 (store), as it landed: Change.
-/
namespace Go.Proofs.YtgamakejaknagaaGreat
open Go.RowKit Go.Maps Go.Shelf
set_option linter.unusedVariables false
set_option maxRecDepth 8192
attribute [local go_sem] Oper.semAt_some

/-- Blocks were tried, and are marked now; S1 is S but for that. -/
structure Tried (S S1 : CS) (st : List Int) (pre : List Int) : Prop where
  up : S1.up = true
  wk : S1.wk = S.wk
  ah : S.ah = 0 → S1.ah = 0
  cl : (∀ y p, S.wr y p = fun _ => false) → ∀ y p, S1.wr y p = fun _ => false
  mono : ∀ y, S.bd y = true → S1.bd y = true
  only : ∀ y, S1.bd y = true → S.bd y = true ∨ (S.wk y = true ∧ y ∉ st)
  all : ∀ y ∈ pre, S1.bd y = true
  wrs : ∀ y ∈ st, S1.wr y = S.wr y
/-- What Change makes. -/
structure ChgRes (G : Geo) (S : CS) (K : Int → BK) (st : List Int) (nu : Int) (j : Nat) (D : List Int) (r : Int) (S1 : CS) (K1 : Int → BK) (st1 : List Int) (nu1 : Int) (dn1 : Bool) : Prop where
  inv : CInv G S1 K1
  wk : S1.wk = S.wk
  ah : S.ah = 0 → S1.ah = 0
  cl : (∀ y p, S.wr y p = fun _ => false) → ∀ y p, S1.wr y p = fun _ => false
  mono : ∀ y, S.bd y = true → S1.bd y = true
  keep : ∀ y ∈ st, S1.bd y = S.bd y
  wrs : ∀ y ∈ st, S1.wr y = S.wr y
  is : (r = 0 ∧ (S1.up = true ∧ dn1 = false ∧ ∀ y, S1.bd y = true → S.bd y = true ∨ (S.wk y = true ∧ y ∉ st)) ∧ ∃ x, (x ∉ st ∧ GoodB G.b S1.bd x ∧ ∀ p : Int, 0 ≤ p → p < G.p → S1.wr x p = fun _ => false) ∧ K1 = updK K x (.copy j D nu) ∧ st1 = st.set j x ∧ nu1 = nu + 1) ∨
    (r = 6 ∧ (S1.up = true ∧ dn1 = false ∧ ∀ y, S1.bd y = true → S.bd y = true ∨ (S.wk y = true ∧ y ∉ st)) ∧ (K1 = K ∧ st1 = st ∧ nu1 = nu) ∧ ∀ y, 0 ≤ y → y < G.b → y ∉ st → S1.bd y = true) ∨
    (r = 70 ∧ (S1.up = false ∧ dn1 = true ∧ S.ah ≠ 0 ∧ ∀ y, S1.bd y = true → S.bd y = true ∨ (S.wk y = true ∧ y ∉ st)) ∧ (st1 = st ∧ nu ≤ nu1 ∧ nu1 ≤ nu + 1) ∧ ∃ x k, (x ∉ st ∧ 0 ≤ x ∧ x < G.b) ∧ K1 = updK K x k ∧ (k = K x ∨ k = .no ∨ k = .part j (D.length : Nat) nu ∨ (k = .copy j D nu ∧ GoodB G.b S1.bd x)))
section
variable {G : Geo} {S S0 S1 : CS} {K : Int → BK} {st : List Int} {nu nu1 r x : Int} {j : Nat} {D : List Int} {pre : List Int}
theorem Tried.refl (hup : S.up = true) : Tried S S st [] := ⟨hup, rfl, id, id, fun _ h => h, fun _ h => .inl h, fun _ h => absurd h (by simp), fun _ _ => rfl⟩
theorem Tried.next (t : Tried S S0 st pre) (hx : x ∉ st) (a : Apart S0 S1 x) (hu : S1.up = true) (hm : S1.bd x = true) (hw : S0.bd x = true ∨ S0.wk x = true) : Tried S S1 st (pre ++ [x]) := by
  refine ⟨hu, a.wk.trans t.wk, fun e => a.ah (t.ah e), fun e => a.cl (t.cl e), fun y hy => ?_, fun y hy => ?_, fun y hy => ?_, fun y hy => (a.wr y (fun e => hx (e ▸ hy))).trans (t.wrs y hy)⟩
  · by_cases e : y = x
    · rw [e]; exact hm
    · rw [a.bd y e]; exact t.mono y hy
  · by_cases e : y = x
    · subst e
      rcases hw with hw | hw
      · exact t.only y hw
      · exact .inr ⟨by rw [← t.wk]; exact hw, hx⟩
    · rw [a.bd y e] at hy; exact t.only y hy
  · rcases List.mem_append.1 hy with hy | hy
    · by_cases e : y = x
      · rw [e]; exact hm
      · rw [a.bd y e]; exact t.all y hy
    · rw [List.mem_singleton.1 hy]; exact hm
/-- A block failed: on. -/
theorem fillK_on (h : FillK G S0 K x j D nu r S1 nu1) (t : Tried S S0 st pre) (hx : x ∉ st) (hr : r = 72 ∨ r = 73) : CInv G S1 K ∧ Tried S S1 st (pre ++ [x]) ∧ nu1 = nu := by
  obtain ⟨k, ⟨hi, ap⟩, h⟩ := h
  rcases h with ⟨rfl, ⟨hb, rfl⟩, rfl, rfl⟩ | ⟨rfl, ⟨hw, hb, hu⟩, rfl, rfl⟩ | ⟨rfl, _⟩ | ⟨rfl, _⟩
  · rw [updK_self] at hi
    exact ⟨hi, t.next hx ap t.up hb (.inl hb), rfl⟩
  · rw [updK_self] at hi
    exact ⟨hi, t.next hx ap hu hb (.inr hw), rfl⟩
  · omega
  · omega
theorem fillK_code (h : FillK G S0 K x j D nu r S1 nu1) : r = 0 ∨ r = 70 ∨ (r = 72 ∨ r = 73) := by
  obtain ⟨k, _, h⟩ := h
  rcases h with ⟨rfl, _⟩ | ⟨rfl, _⟩ | ⟨rfl, _⟩ | ⟨rfl, _⟩
  · exact .inr (.inr (.inr rfl))
  · exact .inr (.inr (.inl rfl))
  · exact .inr (.inl rfl)
  · exact .inl rfl
theorem chg_ok (h : FillK G S0 K x j D nu 0 S1 nu1) (t : Tried S S0 st pre) (hx : x ∉ st) (hb : 0 ≤ x ∧ x < G.b) : ∃ K1, ChgRes G S K st nu j D 0 S1 K1 (st.set j x) nu1 false := by
  obtain ⟨k, ⟨hi, ap⟩, h⟩ := h
  rcases h with ⟨e, _⟩ | ⟨e, _⟩ | ⟨e, _⟩ | ⟨_, ⟨hu, hw, hbd, hbd1, hwr⟩, rfl, rfl⟩
  · cases e
  · cases e
  · cases e
  · have hbe : ∀ y, S1.bd y = S0.bd y := fun y => by
      by_cases e : y = x
      · rw [e, hbd, hbd1]
      · exact ap.bd y e
    refine ⟨_, hi, ap.wk.trans t.wk, fun e => ap.ah (t.ah e), fun e => ap.cl (t.cl e), fun y hy => by rw [hbe]; exact t.mono y hy, fun y hy => ?_, fun y hy => (ap.wr y (fun e => hx (e ▸ hy))).trans (t.wrs y hy), .inl ⟨rfl, ⟨hu, rfl, fun y hy => t.only y (by rw [← hbe]; exact hy)⟩, x, ⟨hx, ⟨hb, hbd1⟩, hwr⟩, rfl, rfl, rfl⟩⟩
    rw [hbe]
    cases h0 : S0.bd y
    · cases h1 : S.bd y
      · rfl
      · rw [t.mono y h1] at h0; cases h0
    · rcases t.only y h0 with h1 | h1
      · exact h1.symm
      · exact absurd hy h1.2
theorem chg_down (h : FillK G S0 K x j D nu 70 S1 nu1) (t : Tried S S0 st pre) (hx : x ∉ st) (hb : 0 ≤ x ∧ x < G.b) : ∃ K1, ChgRes G S K st nu j D 70 S1 K1 st nu1 true := by
  obtain ⟨k, ⟨hi, ap⟩, h⟩ := h
  rcases h with ⟨e, _⟩ | ⟨e, _⟩ | ⟨_, ⟨hah, hu, hbx⟩, hk, hn1, hn2⟩ | ⟨e, _⟩
  · cases e
  · cases e
  · refine ⟨_, hi, ap.wk.trans t.wk, fun e => ap.ah (t.ah e), fun e => ap.cl (t.cl e), fun y hy => ?_, fun y hy => ?_, fun y hy => (ap.wr y (fun e => hx (e ▸ hy))).trans (t.wrs y hy), .inr (.inr ⟨rfl, ⟨hu, rfl, fun e => hah (t.ah e), fun y hy => ?_⟩, ⟨rfl, hn1, hn2⟩, x, k, ⟨hx, hb.1, hb.2⟩, rfl, ?_⟩)⟩
    · by_cases e : y = x
      · rw [e]; exact ap.mark (t.mono x (e ▸ hy))
      · rw [ap.bd y e]; exact t.mono y hy
    · rw [ap.bd y (fun e => hx (e ▸ hy))]
      cases h0 : S0.bd y
      · cases h1 : S.bd y
        · rfl
        · rw [t.mono y h1] at h0; cases h0
      · rcases t.only y h0 with h1 | h1
        · exact h1.symm
        · exact absurd hy h1.2
    · by_cases e : y = x
      · subst e
        cases hw : S0.wk y
        · rw [hbx hw] at hy; exact t.only y hy
        · exact .inr ⟨by rw [← t.wk]; exact hw, hx⟩
      · rw [ap.bd y e] at hy; exact t.only y hy
    · rcases hk with hk | hk | hk | ⟨hk, _, hbd⟩
      · exact .inl hk
      · exact .inr (.inl hk)
      · exact .inr (.inr (.inl hk))
      · exact .inr (.inr (.inr ⟨hk, hb, hbd⟩))
  · cases e
theorem chg_full (hi : CInv G S1 K) (t : Tried S S1 st pre) (hall : ∀ y, 0 ≤ y → y < G.b → y ∉ st → y ∈ pre) : ChgRes G S K st nu j D 6 S1 K st nu false := by
  refine ⟨hi, t.wk, t.ah, t.cl, t.mono, fun y hy => ?_, t.wrs, .inr (.inl ⟨rfl, ⟨t.up, rfl, t.only⟩, ⟨rfl, rfl, rfl⟩, fun y h0 h1 h2 => t.all y (hall y h0 h1 h2)⟩)⟩
  cases h0 : S1.bd y
  · cases h1 : S.bd y
    · rfl
    · rw [t.mono y h1] at h0; cases h0
  · rcases t.only y h0 with h1 | h1
    · exact h1.symm
    · exact absurd hy h1.2
/-! ### What it makes of logical blocks -/
variable {b : Int} {bd bd' : Int → Bool} {M : Int → Option (List Int)}
theorem Best.marks {j' x' n : Int} {D' : List Int} (h : Best b bd K j' x' D' n) (hm : ∀ y, bd y = true → bd' y = true) (hx : bd' x' = bd x') : Best b bd' K j' x' D' n :=
  ⟨⟨h.good.1, by rw [hx]; exact h.good.2⟩, h.is, fun y D2 n2 hy hk hn => h.top y D2 n2 ⟨hy.1, by
    cases e : bd y
    · rfl
    · have := hy.2; rw [hm y e] at this; cases this⟩ hk hn⟩
theorem StOk.marks (h : StOk b bd K M st) (hm : ∀ y, bd y = true → bd' y = true) (hs : ∀ y ∈ st, bd' y = bd y) : StOk b bd' K M st := by
  intro i hi
  rcases h i hi with h1 | ⟨D', n, e, hb⟩
  · exact .inl h1
  · exact .inr ⟨D', n, e, hb.marks hm (hs _ (mem_getD st i hi))⟩
theorem Hold.marks (h : Hold b bd K M) (hst : StOk b bd K M st) (hM : ∀ i, (st.length : Int) ≤ i → M i = none) (hm : ∀ y, bd y = true → bd' y = true) (hs : ∀ y ∈ st, bd' y = bd y) : Hold b bd' K M := by
  intro i h0 h64
  rcases h i h0 h64 with ⟨e, hno⟩ | ⟨D', x', n, e, hb⟩
  · exact .inl ⟨e, fun y D2 n2 hy => hno y D2 n2 ⟨hy.1, by
      cases e : bd y
      · rfl
      · have := hy.2; rw [hm y e] at this; cases this⟩⟩
  · obtain ⟨i, rfl⟩ := Int.eq_ofNat_of_zero_le h0
    have hl : i < st.length := by
      rcases Nat.lt_or_ge i st.length with h | h
      · exact h
      · rw [hM i (by omega)] at e; cases e
    rcases hst i hl with ⟨hn, _⟩ | ⟨D2, n2, _, hb2⟩
    · rw [hn] at e; cases e
    · have hx : x' ∈ st := by rw [(hb.one hb2).1]; exact mem_getD st i hl
      exact .inr ⟨D', x', n, e, hb.marks hm (hs x' hx)⟩
theorem NumOk.marks (h : NumOk b bd K nu) (hm : ∀ y, bd y = true → bd' y = true) : NumOk b bd' K nu :=
  ⟨h.1, fun y hy => h.2 y ⟨hy.1, by
    cases e : bd y
    · rfl
    · have := hy.2; rw [hm y e] at this; cases this⟩⟩
end
end Go.Proofs.YtgamakejaknagaaGreat

/-
  The code of layer 11 (store), as it landed: Change, walked.
-/
namespace Go.Proofs.YtgamakejaknagaaGreat
open Go.RowKit Go.Maps Go.Shelf
set_option linter.unusedVariables false
set_option maxRecDepth 8192
attribute [local go_sem] Oper.semAt_some

section
variable {G : Geo} {B : CB} {F F' : Nat → Prop} {N N' : Nat} {S S' : CS} {d s g : Nat} {st st' : List Int} {nu nu' : Int} {dn dn' : Bool} {w w' : World} {k : Nat}
theorem LAt.after (h : LAt G B k F N S d s g st nu dn w) (h' : StAt G B F' N' S' d s g st' nu' dn' w') (q : SDoes F s g w F' w') : ∃ F'', LAt G B k F'' N' S' d s g st' nu' dn' w' ∧ SDoes F s g w F'' w' ∧ KeepsFrom k w w' := by
  refine ⟨trimF F' k w', ⟨⟨h'.chip.trim h.lm h.all, h'.db, h'.sb, fun e => h'.fd e.1, fun e => h'.fs e.1, fun e => h'.fg e.1, h'.sd, h'.gd⟩, fun x hx => hx.2, h.all, h.lm⟩, ⟨q.tn, fun x hx => q.nw x hx.1⟩, q.tn.size, fun j o hj ho hc => ?_⟩
  rw [q.tn.block j (Array.getElem?_eq_some_iff.1 ho).1 (fun hf => ?_)]
  · exact ho
  · have hcl : CellsAt w j → False := fun ⟨o', h1, h2⟩ => by rw [ho] at h1; cases h1; rw [hc] at h2; cases h2
    rcases hf with hf | rfl | rfl
    · rcases h.tr j hf with h1 | h1
      · omega
      · exact hcl h1
    · exact hcl h.at_.sb.cells.1
    · exact hcl h.at_.sb.cells.2
/-- Change, behind the blocks pre. -/
structure ChgI (G : Geo) (B : CB) (F : Nat → Prop) (N : Nat) (S : CS) (K : Int → BK) (d s g : Nat) (st : List Int) (nu : Int) (j : Nat) (D : List Int) (a : Option Addr) (len cap : Nat) (w : World) (k : Nat) (pre : List (Sp G.b.toNat st)) (W : World) : Prop where
  ex : ∃ F1 S1, (LAt G B k F1 (N + 300 * pre.length) S1 d s g st nu false W ∧ CInv G S1 K ∧ Tried S S1 st (pre.map (fun c => ((c.1 : Nat) : Int)))) ∧ (∀ y, F1 y → F y ∨ k ≤ y) ∧ SDoes F s g w F1 W ∧ OffS F1 s g .u8 W a len cap D
  c0 : W.cell? ⟨w.heap.size, 0, none⟩ = some (.pointer (some ⟨s, 0, none⟩))
  c1 : W.cell? ⟨w.heap.size + 1, 0, none⟩ = some (.int .i64 (j : Int))
  c2 : W.cell? ⟨w.heap.size + 1 + 1, 0, none⟩ = some (.slice a len cap)
  c3 : W.cell? ⟨w.heap.size + 1 + 1 + 1, 0, none⟩ = some (.int .i64 0)
  f3 : W.frozen? ⟨w.heap.size + 1 + 1 + 1, 0, none⟩ = false
  sz : k ≤ W.heap.size
theorem ChgI.own {K : Int → BK} {j : Nat} {D : List Int} {a : Option Addr} {len cap : Nat} {w : World} {k : Nat} (hk : w.heap.size ≤ k) : OwnFrom k (ChgI G B F N S K d s g st nu j D a len cap w k) := by
  intro pre W W' row h hg hr
  have hr2 : ∀ r, row = some r → ∃ o : Obj, W.heap[r]? = some o ∧ o.isCells = false := fun r e => (hr r e).2
  obtain ⟨⟨F1, S1, ⟨h1, h2, h3⟩, h4, h5, h6⟩, c0, c1, c2, c3, f3, sz⟩ := h
  exact ⟨⟨F1, S1, ⟨h1.own hg hr, h2, h3⟩, h4, h5.own hg (fun r e => by have := (hr r e).1; omega), h6.own hg hr2⟩, cell_kept c0 hg hr2, cell_kept c1 hg hr2, cell_kept c2 hg hr2, cell_kept c3 hg hr2, (frozen_kept c3 hg hr2).trans f3, Nat.le_trans sz hg.size⟩
/-- Change, left at the last of pre. -/
structure ChgX (G : Geo) (B : CB) (F : Nat → Prop) (N : Nat) (S : CS) (K : Int → BK) (d s g : Nat) (st : List Int) (nu : Int) (j : Nat) (D : List Int) (w : World) (k : Nat) (c : Code) (pre : List (Sp G.b.toNat st)) (W : World) : Prop where
  ret : c = .ret
  ex : ∃ r F1 S1 K1 st1 nu1 dn1, (LAt G B k F1 (N + 300 * pre.length) S1 d s g st1 nu1 dn1 W ∧ ChgRes G S K st nu j D r S1 K1 st1 nu1 dn1) ∧ SDoes F s g w F1 W ∧ W.cell? ⟨w.heap.size + 1 + 1 + 1, 0, none⟩ = some (.int .i64 r)
  len : pre.length ≤ G.b.toNat
theorem ChgX.own {K : Int → BK} {j : Nat} {D : List Int} {w : World} {k : Nat} (hk : w.heap.size ≤ k) (c : Code) : OwnFrom k (ChgX G B F N S K d s g st nu j D w k c) := by
  intro pre W W' row h hg hr
  have hr2 : ∀ r, row = some r → ∃ o : Obj, W.heap[r]? = some o ∧ o.isCells = false := fun r e => (hr r e).2
  obtain ⟨h0, ⟨r, F1, S1, K1, st1, nu1, dn1, ⟨h1, h2⟩, h5, c3⟩, hl⟩ := h
  exact ⟨h0, ⟨r, F1, S1, K1, st1, nu1, dn1, ⟨h1.own hg hr, h2⟩, h5.own hg (fun r e => by have := (hr r e).1; omega), cell_kept c3 hg hr2⟩, hl⟩
/-- Change's boxes. -/
structure ChgB (s : Nat) (j : Int) (a : Option Addr) (len cap : Nat) (w W : World) : Prop where
  c0 : W.cell? ⟨w.heap.size, 0, none⟩ = some (.pointer (some ⟨s, 0, none⟩))
  c1 : W.cell? ⟨w.heap.size + 1, 0, none⟩ = some (.int .i64 j)
  c2 : W.cell? ⟨w.heap.size + 1 + 1, 0, none⟩ = some (.slice a len cap)
  c3 : W.cell? ⟨w.heap.size + 1 + 1 + 1, 0, none⟩ = some (.int .i64 0)
  f3 : W.frozen? ⟨w.heap.size + 1 + 1 + 1, 0, none⟩ = false
theorem ChgB.below {j : Int} {a : Option Addr} {len cap : Nat} {w W W' : World} (h : ChgB s j a len cap w W) (q : Below W.heap.size W W') : ChgB s j a len cap w W' :=
  ⟨(q.cell (lt_of_cell h.c0)).trans h.c0, (q.cell (lt_of_cell h.c1)).trans h.c1, (q.cell (lt_of_cell h.c2)).trans h.c2, (q.cell (lt_of_cell h.c3)).trans h.c3, (q.frozen (lt_of_cell h.c3)).trans h.f3⟩
theorem chgB_new (s : Nat) (j : Int) (a : Option Addr) (len cap : Nat) (w : World) : ChgB s j a len cap w ((((w.alloc (.cells #[.pointer (some ⟨s, 0, none⟩)] 29)).alloc (.cells #[.int .i64 j] 3)).alloc (.cells #[.slice a len cap] 33)).alloc (.cells #[.int .i64 0] 34)) := by
  have c0 := cell_up (cell_up (cell_up (new_cell1 w (.pointer (some ⟨s, 0, none⟩)) 29).1 (.cells #[.int .i64 j] 3)) (.cells #[.slice a len cap] 33)) (.cells #[.int .i64 0] 34)
  have c1 := cell_up (cell_up (new_cell1 (w.alloc (.cells #[.pointer (some ⟨s, 0, none⟩)] 29)) (.int .i64 j) 3).1 (.cells #[.slice a len cap] 33)) (.cells #[.int .i64 0] 34)
  have c2 := cell_up (new_cell1 ((w.alloc (.cells #[.pointer (some ⟨s, 0, none⟩)] 29)).alloc (.cells #[.int .i64 j] 3)) (.slice a len cap) 33).1 (.cells #[.int .i64 0] 34)
  have n3 := new_cell1 (((w.alloc (.cells #[.pointer (some ⟨s, 0, none⟩)] 29)).alloc (.cells #[.int .i64 j] 3)).alloc (.cells #[.slice a len cap] 33)) (.int .i64 0) 34
  have c3 := n3.1
  have f3 := n3.2
  simp only [World.size_alloc] at c1 c2 c3 f3
  exact ⟨c0, c1, c2, c3, f3⟩
set_option maxHeartbeats 3200000 in
set_option maxRecDepth 100000 in
theorem stChange_any (j : Nat) (D : List Int) (a : Option Addr) (len cap : Nat) (w : World) (h : StAt G B F N S d s g st nu false w) (hlim : B.lim ≤ w.heap.size) (hN : N + 300 * G.b.toNat + 700 < 100000000) (hup : S.up = true) (K : Int → BK) (hK : CInv G S K) (hr : OffS F s g .u8 w a len cap D) (hD : IsB D) (hj : j < st.length) (hC : len ≤ G.C) (hnu : 1 ≤ nu ∧ nu ≤ 1000000000) :
    Calls Tryz.prog 26 #[.pointer (some ⟨s, 0, none⟩), .int .i64 (j : Int), .slice a len cap] w fun e w' => ∃ r F1 S1 K1 st1 nu1 dn1, (e = .returned (.int .i64 r) ∧ StAt G B F1 (N + 300 * G.b.toNat) S1 d s g st1 nu1 dn1 w' ∧ SDoes F s g w F1 w') ∧ ChgRes G S K st nu j D r S1 K1 st1 nu1 dn1 := by
  have hDl := hr.row.hlen
  have hls := h.sb.len
  have hmay : mayH G.C (j : Int) (len : Nat) nu = true := by unfold mayH; rw [decide_eq_true_iff]; omega
  have hlm : len ≤ maxLen := Nat.le_trans hr.row.hcap hr.row.hmax
  have hlm' : (len : Int) ≤ 9223372036854775807 := by unfold maxLen at hlm; omega
  have hGb := G.ok.hb
  have hb := chgB_new s (j : Int) a len cap w
  have q0 := below_four w (.cells #[.pointer (some ⟨s, 0, none⟩)] 29) (.cells #[.int .i64 j] 3) (.cells #[.slice a len cap] 33) (.cells #[.int .i64 0] 34)
  have hsz0 : w.heap.size + 4 = ((((w.alloc (.cells #[.pointer (some ⟨s, 0, none⟩)] 29)).alloc (.cells #[.int .i64 j] 3)).alloc (.cells #[.slice a len cap] 33)).alloc (.cells #[.int .i64 0] 34)).heap.size := by simp
  have hrd := stReady_any (j : Int) _ (h.sb.below q0 (Nat.le_refl _))
  rw [rdyS_in (by omega)] at hrd
  have HFR : Hid (∀ y, F y → y < w.heap.size) := h.chip.fresh
  have HRL : Hid (0 < len → ∀ y, a = some y → y.block < w.heap.size) := fun h0 y hy => hr.row.blk_lt h0 y hy
  have hsl := h.sb.slt
  have hgl := h.sb.glt
  have hdl := h.db.lt
  replace h := h.below q0
  replace hr := hr.step (SDoes.of_below q0)
  refine (callsIn_wide (n := 3)).1 ?_
  refine callsIn_of_wp_marks Tryz.func26 rfl trivial ?_ rfl
  simp only [Tryz.ntmps26, List.size_toArray, List.length_cons, List.length_nil, Nat.reduceAdd, Nat.reduceSub, Array.replicate_succ, Array.replicate_zero, List.push_toArray, List.append_toArray, List.nil_append, List.cons_append]
  gi_wp2_with (refine ⟨trivial, ?_⟩; gi_at_call 28; refine (callsIn_wide.2 hrd).mono ?_; rintro e w1 ⟨rfl, rfl⟩)
  generalize (((w.alloc (.cells #[.pointer (some ⟨s, 0, none⟩)] 29)).alloc (.cells #[.int .i64 j] 3)).alloc (.cells #[.slice a len cap] 33)).alloc (.cells #[.int .i64 0] 34) = w0 at *
  clear hrd
  refine wpIn_calm (wpIn_wide.2 ?_)
  refine held_begin (by kernel_rfl) ?_
  refine held_reads (rs := [0, 1, 2]) (fuel := 2) (by kernel_rfl) (fun c d v a w h => by cases h.1) (by kernel_rfl) (Since.drew _) (fun K hK => ?_)
  refine calm_do (.slice a len cap) rfl (by rfl) (fun w' hw' => ?_) ?_
  · have c2 := (hb.below hw').c2
    go_simp
  go_simp
  refine calm_do (.int .i64 (len : Int)) rfl (by rfl) (fun w' hw' => ?_) ?_
  · go_simp
  go_simp
  refine calm_do (.pointer (some ⟨s, 0, none⟩)) rfl (by rfl) (fun w' hw' => ?_) ?_
  · have c0 := (hb.below hw').c0
    go_simp
  go_simp
  refine calm_nil (hK.out _ ?_)
  clear hK K
  refine held_call (i := 3) (fuel := 1) (by kernel_rfl) rfl (by rfl) (fun K hK => ?_)
  go_simp
  refine (stCap_any w0.drew h.drew).mono ?_
  rintro e w2 ⟨rfl, qq0⟩
  have q1 : Since w0 w2 := Since.trans (Since.drew _) qq0
  refine hK _ _ q1 ?_
  clear hK K qq0
  have hsz2 := Below.size q1
  replace hb := hb.below q1
  replace h := h.below q1
  replace hr := hr.step (SDoes.of_below q1)
  have q2 : Below w.heap.size w w2 := btrans q0 q1
  clear q0 q1
  have hgt : ¬ (G.C : Int) < (len : Int) := by omega
  obtain ⟨CC, hCC⟩ : ∃ CC, CC = G.C := ⟨_, rfl⟩
  rw [← hCC] at hgt ⊢
  clear hCC
  refine held_reads (rs := [4]) (fuel := 0) (by kernel_rfl) (fun c d v a w h => by cases h.1) (by kernel_rfl) (Since.refl _) (fun K hK => ?_)
  go_simp
  refine calm_do (.bool false) rfl (by rfl) (fun w' hw' => ?_) ?_
  · go_simp
  go_simp
  refine calm_nil (hK.out _ ?_)
  clear hK K
  refine wpAnyH_done (by kernel_rfl) ⟨rfl, ?_⟩ _
  have c0 := hb.c0
  gi_wp2_with (refine ⟨trivial, ?_⟩; gi_at_call 43; refine (callsIn_wide.2 (spare_any (s := s) _)).mono ?_; rintro e w3 ⟨rfl, rfl⟩)
  have q3 := below_one w2 (.cells #[.pointer (some ⟨s, 0, none⟩)] 29)
  have cb := (new_cell1 w2 (.pointer (some ⟨s, 0, none⟩)) 29).1
  have hsz3 : (w2.alloc (.cells #[.pointer (some ⟨s, 0, none⟩)] 29)).heap.size = w2.heap.size + 1 := by simp
  replace hb := hb.below q3
  replace h := h.below q3
  replace hr := hr.step (SDoes.of_below q3)
  replace q2 := btrans q2 q3
  generalize w2.alloc (.cells #[.pointer (some ⟨s, 0, none⟩)] 29) = w3 at *
  clear q3 c0
  obtain ⟨B', hlat, hback⟩ := lat_of h (Nat.le_trans hlim q2.size)
  have hstops := spare_stops (3 - 1) (by omega) w2.heap.size w3 h (by omega) cb
  have hI0 : ChgI G B' F N S K d s g st nu j D a len cap w w3.heap.size [] w3 := ⟨⟨F, S, ⟨hlat, hK, Tried.refl hup⟩, fun y hy => .inl hy, SDoes.of_below q2, hr⟩, hb.c0, hb.c1, hb.c2, hb.c3, hb.f3, Nat.le_refl _⟩
  clear hlat hr hb q2 h
  generalize hbxe : w2.heap.size = bx at *
  refine wpIn_rangeFunc_ownG rfl (by omega) (gf := 68) (lb := #[.pointer (some ⟨bx, 0, none⟩)]) rfl trivial (enters_of Tryz.func68 (by kernel_rfl) rfl)
    hstops keepsS_t keepsS_b (Below.refl _ _) (fun _ => rfl)
    (ChgI G B' F N S K d s g st nu j D a len cap w w3.heap.size) (ChgX G B' F N S K d s g st nu j D w w3.heap.size)
    (ChgI.own (by omega)) (ChgX.own (by omega)) hI0
    (fun c => { tmps := #[.pointer (some ⟨s, 0, none⟩), .int .i64 (j : Int), .slice a len cap, .pointer (some ⟨w.heap.size, 0, none⟩), .pointer (some ⟨w.heap.size + 1, 0, none⟩), .pointer (some ⟨w.heap.size + 1 + 1, 0, none⟩), .pointer (some ⟨w.heap.size + 1 + 1 + 1, 0, none⟩), .int .i64 0, .int .i64 (c.1 : Nat), undef,
      .pointer (some ⟨s, 0, none⟩), .int .i64 (j : Int), .int .i64 0, .int .i64 0, .bool false, undef, .slice a len cap, .int .i64 (len : Int), .pointer (some ⟨s, 0, none⟩), .int .i64 (CC : Int), .bool false, .pointer (some ⟨s, 0, none⟩), .func (.func 68) #[] #[.pointer (some ⟨bx, 0, none⟩)], .int .i64 (c.1 : Nat),
      undef, undef, undef, undef, undef, undef, undef, undef, undef, undef, undef, undef, undef, undef, undef, undef, undef, undef, undef, undef, undef], defers := [] }) ?assign ?body ?done ?stop
  case assign =>
    intro l c W K hK
    gi_wp2
    exact hK
  case body =>
    rintro l pre c W hI hlen
    obtain ⟨⟨F1, S1, ⟨hl, hCI, htr⟩, hnw, hsd1, hof⟩, c0, c1, c2, c3, f3, hWs⟩ := hI
    obtain ⟨⟨x, hxb, hxs⟩, rfl⟩ : ∃ c' : Sp G.b.toNat st, c' = c := ⟨c, rfl⟩
    have hx : 0 ≤ ((x : Nat) : Int) ∧ ((x : Nat) : Int) < G.b := by omega
    have hfl := fill_any (x : Int) hx (j : Int) D a len cap W hl.at_ (by have := hl.lm; omega) (by have : 300 * pre.length ≤ 300 * G.b.toNat := Nat.mul_le_mul_left _ (by omega); omega) htr.up K hCI hof hD hmay
    have HFL : Hid _ := hfl
    clear hfl
    have HL : Hid _ := hl
    have HTR : Hid _ := htr
    have HNW : Hid _ := hnw
    have HSD : Hid _ := hsd1
    have HOF : Hid _ := hof
    clear hl htr hnw hsd1 hof hI0 hstops
    dsimp only
    gi_wp2_with fail
    refine ⟨trivial, ?_⟩
    refine (CallsIn.inRound l (callsIn_wide.2 HFL.out)).mono ?_
    rintro e V ⟨r, F2, S2, nu2, ⟨rfl, h2, sd2⟩, hfk⟩
    obtain ⟨F3, hl3, sd3, kf3⟩ := LAt.after HL.out h2 sd2
    have hnF : ∀ y, w.heap.size ≤ y → y < w3.heap.size → ¬ SetF F1 s g y := fun y h1 h2 hf1 => by
      rcases hf1 with hf1 | hf1 | hf1
      · rcases HNW.out y hf1 with h3 | h3
        · have := HFR.out y h3; omega
        · omega
      · omega
      · omega
    have hnF3 : ∀ y, w.heap.size ≤ y → y < w3.heap.size → ¬ F3 y := fun y h1 h2 hf2 => by
      rcases sd3.nw y hf2 with h3 | h3
      · exact hnF y h1 h2 (.inl h3)
      · omega
    have cV : ∀ (y : Nat) (v : Value), w.heap.size ≤ y → y < w3.heap.size → W.cell? ⟨y, 0, none⟩ = some v → V.cell? ⟨y, 0, none⟩ = some v := fun y v h1 h2 hv => by
      rw [sd2.tn.cell (p := ⟨y, 0, none⟩) (lt_of_cell hv) (hnF y h1 h2)]; exact hv
    have v0 := cV _ _ (Nat.le_refl _) (by omega) c0
    have v1 := cV _ _ (by omega) (by omega) c1
    have v2 := cV _ _ (by omega) (by omega) c2
    have v3 := cV _ _ (by omega) (by omega) c3
    have g3 : V.frozen? ⟨w.heap.size + 1 + 1 + 1, 0, none⟩ = false := (World.frozen?_of_block (sd2.tn.block (w.heap.size + 1 + 1 + 1) (lt_of_cell c3) (hnF _ (by omega) (by omega)))).trans f3
    have nw3 : ∀ y, F3 y → F y ∨ w3.heap.size ≤ y := fun y hy => by
      rcases sd3.nw y hy with h3 | h3
      · exact HNW.out y h3
      · exact .inr (by omega)
    have sdV : SDoes F s g w F3 V := SDoes.trans HSD.out sd3
    have ofV : OffS F3 s g .u8 V a len cap D := OffS.step HOF.out sd3
    have hszV : w3.heap.size ≤ V.heap.size := by have := sd2.tn.size; omega
    have kS : KeepsS bx s g W V := fun p v hp hv => by
      rcases hp with rfl | rfl | hp
      · exact cV _ _ (by omega) (by omega) hv
      · have h1 := (LAt.at_ HL.out).sb.c1
        rw [h1] at hv
        rw [← hv]
        exact h2.sb.c1
      · have h1 : V.heap[p.block]? = W.heap[p.block]? := by rw [hp]; exact h2.sb.row.trans (LAt.at_ HL.out).sb.row.symm
        rw [World.cell?_of_block h1]; exact hv
    clear h2 sd2 HOF HFL c0 c1 c2 c3 f3
    have hN3 : N + 300 * pre.length + 300 = N + 300 * (pre ++ [(⟨x, hxb, hxs⟩ : Sp G.b.toNat st)]).length := by rw [List.length_append, List.length_singleton]; omega
    rw [hN3] at hl3
    have hpl : (pre ++ [(⟨x, hxb, hxs⟩ : Sp G.b.toNat st)]).length ≤ G.b.toNat := by rw [List.length_append, List.length_singleton]; omega
    rcases fillK_code hfk with rfl | rfl | hr7
    · obtain ⟨K1, hres⟩ := chg_ok hfk HTR.out hxs hx
      have s1 := hl3.at_.sb.c1
      have sj := hl3.at_.sb.at j hj
      have sf := hl3.at_.sb.softg j
      have hsg := hl3.at_.sb.ne
      have hb4 := LAt.setCell (hl3.below ((Below.refl _ _).drew)) (p := ⟨g, j, none⟩) (.inr rfl) (.int .i64 (x : Int)) ((hl3.at_.sb.below ((Below.refl _ V).drew) (Nat.le_refl _)).setAt j (x : Int))
      have HFIN : Hid (KeepsFrom w3.heap.size W ((V.drew.setCell ⟨g, j, none⟩ (.int .i64 (x : Int))).setCell ⟨w.heap.size + 1 + 1 + 1, 0, none⟩ (.int .i64 0)) ∧ ChgX G B' F N S K d s g st nu j D w w3.heap.size .ret (pre ++ [⟨x, hxb, hxs⟩]) ((V.drew.setCell ⟨g, j, none⟩ (.int .i64 (x : Int))).setCell ⟨w.heap.size + 1 + 1 + 1, 0, none⟩ (.int .i64 0))) := by
        refine ⟨((kf3.trans ((keeps_of_below ((Below.refl _ V).drew)).from _)).trans ((KeepsOthers.setCell _ _ _).from _)).trans ((KeepsOthers.setCell _ _ _).from _), rfl, ⟨0, F3, S2, K1, _, nu2, false, ⟨?_, hres⟩, ?_, ?_⟩, hpl⟩
        · exact hb4.1.setOff (hnF3 (w.heap.size + 1 + 1 + 1) (by omega) (by omega)) (by dsimp only; omega) (by dsimp only; omega) (by dsimp only; omega) _
        · exact (((sdV.trans (SDoes.of_below ((Below.refl _ V).drew))).trans hb4.2).setNew (by dsimp only; omega) _)
        · exact World.cell?_setCell_same' _ _ _ (by rw [cellFar (by dsimp only; omega)]; show (V.cell? _).isSome = true; rw [v3]; rfl)
      have w4c : (V.drew.setCell ⟨g, j, none⟩ (.int .i64 (x : Int))).cell? ⟨w.heap.size + 1 + 1 + 1, 0, none⟩ = some (.int .i64 0) := by rw [cellFar (by dsimp only; omega)]; exact v3
      have w4f : (V.drew.setCell ⟨g, j, none⟩ (.int .i64 (x : Int))).frozen? ⟨w.heap.size + 1 + 1 + 1, 0, none⟩ = false := by rw [World.frozen?_setCell]; exact g3
      clear hb4 hfk hl3 sd3 kf3 hnF hnF3 cV nw3 sdV ofV kS hres HL HTR HNW HSD
      have hjl : (j : Int) < (st.length : Int) := by omega
      generalize st.length = L at *
      generalize st[j]?.getD 0 = oldv at *
      gi_wp2_with fail
      refine region_round (S := fun w' => w'.cell? ⟨w.heap.size, 0, none⟩ = some (.pointer (some ⟨s, 0, none⟩)) ∧ w'.cell? ⟨s, 1, none⟩ = some (.slice (some ⟨g, 0, none⟩) L L) ∧ w'.cell? ⟨w.heap.size + 1, 0, none⟩ = some (.int .i64 (j : Int)))
        (by kernel_rfl) (fun ⟨_, _, h⟩ => h) (by kernel_rfl) ?_
      refine held_reads (rs := [0, 1, 2, 3, 4, 5, 6]) (fuel := 1) (by kernel_rfl) (fun c d v a w h => by cases d <;> exact h) (by kernel_rfl) ⟨v0, s1, v1⟩ (fun K hK => ?_)
      refine calm_do (.pointer (some ⟨s, 0, none⟩)) rfl (by rfl) (fun w' hw' => ?_) ?_
      · obtain ⟨h0, h1, h2⟩ := hw'
        go_simp
      go_simp
      refine calm_do (.pointer (some ⟨s, 0, none⟩)) rfl (by rfl) (fun w' hw' => ?_) ?_
      · obtain ⟨h0, h1, h2⟩ := hw'
        go_simp
      go_simp
      refine calm_do (.pointer (some ⟨s, 1, none⟩)) rfl (by rfl) (fun w' hw' => ?_) ?_
      · go_simp
      go_simp
      refine calm_do (.slice (some ⟨g, 0, none⟩) L L) rfl (by rfl) (fun w' hw' => ?_) ?_
      · obtain ⟨h0, h1, h2⟩ := hw'
        go_simp
      go_simp
      refine calm_do (.int .i64 (j : Int)) rfl (by rfl) (fun w' hw' => ?_) ?_
      · obtain ⟨h0, h1, h2⟩ := hw'
        go_simp
      go_simp
      refine calm_move _ rfl (by rfl) rfl ?_
      go_simp
      refine calm_do (.pointer (some ⟨g, j, none⟩)) rfl (by rfl) (fun w' hw' => ?_) ?_
      · go_simp
      go_simp
      refine calm_nil (hK.out _ ?_)
      clear hK K
      refine heldA_op (i := 7) (fuel := 0) (by kernel_rfl) rfl (by rfl) (fun K hK => ?_)
      go_simp
      rw [show (V.setCell ⟨g, j, none⟩ (.int .i64 (x : Int))).drew = V.drew.setCell ⟨g, j, none⟩ (.int .i64 (x : Int)) from rfl]
      refine hK _ _ ⟨by rw [cellFar (by dsimp only; omega)]; exact v0, by rw [cellFar (by dsimp only; omega)]; exact s1, by rw [cellFar (by dsimp only; omega)]; exact v1⟩ ?_
      clear hK K v0 s1 v1 sj sf v3 g3
      generalize V.drew.setCell ⟨g, j, none⟩ (.int .i64 (x : Int)) = V4 at *
      refine wpAnyH_done (by kernel_rfl) ?_ _
      gi_wp2_with fail
      exact HFIN.out
    · obtain ⟨K1, hres⟩ := chg_down hfk HTR.out hxs hx
      have htl := stTell_yes V hl3.at_
      have HTL : Hid _ := htl
      have HL3 : Hid _ := hl3
      have HRES : Hid _ := hres
      have HF3 : Hid (∀ y, w.heap.size ≤ y → y < w3.heap.size → ¬ SetF F3 s g y) := fun y h1 h2 hf => by
        rcases hf with hf | hf | hf
        · exact hnF3 y h1 h2 hf
        · omega
        · omega
      have HSDV : Hid _ := sdV
      have HKF : Hid _ := kf3
      clear htl hl3 hres hfk sd3 kf3 hnF hnF3 cV nw3 sdV ofV kS HL HTR HNW HSD
      gi_wp2_with fail
      refine ⟨trivial, ?_⟩
      refine (CallsIn.inRound l (callsIn_wide.2 HTL.out)).mono ?_
      rintro e V4 ⟨rfl, h4, sd4⟩
      obtain ⟨F4, hl4, sd5, kf4⟩ := LAt.after HL3.out h4 sd4
      have w3c : V4.cell? ⟨w.heap.size + 1 + 1 + 1, 0, none⟩ = some (.int .i64 0) := by
        rw [sd4.tn.cell (p := ⟨w.heap.size + 1 + 1 + 1, 0, none⟩) (lt_of_cell v3) (HF3.out (w.heap.size + 1 + 1 + 1) (by omega) (by omega))]; exact v3
      have w3f : V4.frozen? ⟨w.heap.size + 1 + 1 + 1, 0, none⟩ = false := (World.frozen?_of_block (sd4.tn.block (w.heap.size + 1 + 1 + 1) (lt_of_cell v3) (HF3.out (w.heap.size + 1 + 1 + 1) (by omega) (by omega)))).trans g3
      have HFIN : Hid (KeepsFrom w3.heap.size W (V4.setCell ⟨w.heap.size + 1 + 1 + 1, 0, none⟩ (.int .i64 70)) ∧ ChgX G B' F N S K d s g st nu j D w w3.heap.size .ret (pre ++ [⟨x, hxb, hxs⟩]) (V4.setCell ⟨w.heap.size + 1 + 1 + 1, 0, none⟩ (.int .i64 70))) := by
        refine ⟨(KeepsFrom.trans HKF.out kf4).trans ((KeepsOthers.setCell _ _ _).from _), rfl, ⟨70, F4, S2, K1, st, nu2, true, ⟨?_, HRES.out⟩, ?_, ?_⟩, hpl⟩
        · refine hl4.setOff (fun hf => ?_) (by dsimp only; omega) (by dsimp only; omega) (by dsimp only; omega) _
          rcases sd5.nw _ hf with h5 | h5
          · exact HF3.out (w.heap.size + 1 + 1 + 1) (by omega) (by omega) (.inl h5)
          · dsimp only at h5; omega
        · exact (SDoes.trans HSDV.out sd5).setNew (by dsimp only; omega) _
        · exact World.cell?_setCell_same' _ _ _ (by rw [w3c]; rfl)
      clear h4 sd4 hl4 sd5 kf4 HTL HL3 HRES HF3 HSDV HKF v3 g3
      gi_wp2_with fail
      exact HFIN.out
    · obtain ⟨hCI2, htr2, rfl⟩ := fillK_on hfk HTR.out hxs hr7
      have HFIN : Hid (KeepsFrom w3.heap.size W V ∧ KeepsS bx s g W V ∧ ChgI G B' F N S K d s g st nu2 j D a len cap w w3.heap.size (pre ++ [⟨x, hxb, hxs⟩]) V) := by
        refine ⟨kf3, kS, ⟨F3, S2, ⟨hl3, hCI2, ?_⟩, nw3, sdV, ofV⟩, v0, v1, v2, v3, g3, hszV⟩
        rw [List.map_append]
        exact htr2
      clear hfk hl3 sd3 kf3 hnF hnF3 cV nw3 sdV ofV kS HL HTR HNW HSD hCI2 htr2 v0 v1 v2 v3 g3
      rcases hr7 with rfl | rfl
      · gi_wp2_with fail
        exact HFIN.out
      · gi_wp2_with fail
        exact HFIN.out
  case done =>
    rintro D' xs W hD hS hI hK'
    obtain ⟨⟨F1, S1, ⟨hl, hCI, htr⟩, hnw, hsd1, hof⟩, c0, c1, c2, c3, f3, hWs⟩ := hI
    have hxl : xs.length ≤ G.b.toNat := by
      have h1 := congrArg List.length hS
      rw [List.length_map] at h1
      have h2 := spareL_len st G.b.toNat
      omega
    have hall : ∀ y, 0 ≤ y → y < G.b → y ∉ st → y ∈ xs.map (fun c => ((c.1 : Nat) : Int)) := fun y h0 h1 h2 => by
      obtain ⟨i, rfl⟩ := Int.eq_ofNat_of_zero_le h0
      have : i ∈ spareL st G.b.toNat := by
        unfold spareL
        rw [List.mem_filter, List.mem_range]
        exact ⟨by omega, by simpa using h2⟩
      rw [← hS, List.mem_map] at this
      obtain ⟨c, hc, e⟩ := this
      exact List.mem_map.2 ⟨c, hc, by rw [e]⟩
    have hnF : ¬ F1 (w.heap.size + 1 + 1 + 1) := fun hf1 => by
      rcases hnw _ hf1 with h3 | h3
      · have := HFR.out _ h3; omega
      · omega
    have hK2 := (KeepsOthers.setCell W ⟨w.heap.size + 1 + 1 + 1, 0, none⟩ (.int .i64 6)).same D' _ hK' rfl
    have hl3 := (hl.setOff (p := ⟨w.heap.size + 1 + 1 + 1, 0, none⟩) hnF (by dsimp only; omega) (by dsimp only; omega) (by dsimp only; omega) (.int .i64 6)).own (grownBy_putObj' _ D' (.deferred none)) (fun r e => by cases e; exact ⟨hD, _, hK2, rfl⟩)
    have sd3 := (hsd1.setNew (p := ⟨w.heap.size + 1 + 1 + 1, 0, none⟩) (by dsimp only; omega) (.int .i64 6)).own (grownBy_putObj' _ D' (.deferred none)) (fun r e => by cases e; omega)
    have hc5 := cell_kept (World.cell?_setCell_same' W ⟨w.heap.size + 1 + 1 + 1, 0, none⟩ (.int .i64 6) (by rw [c3]; rfl)) (grownBy_putObj' _ D' (.deferred none)) (fun r e => by cases e; exact ⟨_, hK2, rfl⟩)
    have HFIN : Hid (∃ r F1 S1 K1 st1 nu1 dn1, ((Ending.returned (.int .i64 6)) = .returned (.int .i64 r) ∧ StAt G B F1 (N + 300 * G.b.toNat) S1 d s g st1 nu1 dn1 ((W.setCell ⟨w.heap.size + 1 + 1 + 1, 0, none⟩ (.int .i64 6)).putObj D' (.deferred none)) ∧ SDoes F s g w F1 ((W.setCell ⟨w.heap.size + 1 + 1 + 1, 0, none⟩ (.int .i64 6)).putObj D' (.deferred none))) ∧ ChgRes G S K st nu j D r S1 K1 st1 nu1 dn1) :=
      ⟨6, F1, S1, K, st, nu, false, ⟨rfl, (hback _ _ _ _ _ _ _ hl3.at_).mono (by have : 300 * xs.length ≤ 300 * G.b.toNat := Nat.mul_le_mul_left _ hxl; omega), sd3⟩, chg_full hCI htr hall⟩
    clear hl3 sd3 hl hCI htr hnw hsd1 hof hI0 hS hall hstops
    gi_wp2
    refine ⟨by simp, .inl ⟨_, _, rfl, run_takeDeferred hK2, ?_⟩⟩
    refine ⟨.int .i64 6, ?_, HFIN.out⟩
    simp [results, Tryz.results26, go_sem, hc5]
  case stop =>
    rintro D' cc pre W hD _ hX hK'
    obtain ⟨rfl, ⟨r, F1, S1, K1, st1, nu1, dn1, ⟨hl, hres⟩, hsd1, c3⟩, hpl⟩ := hX
    have hl3 := hl.own (grownBy_putObj' _ D' (.deferred none)) (fun r e => by cases e; exact ⟨hD, _, hK', rfl⟩)
    have sd3 := hsd1.own (grownBy_putObj' _ D' (.deferred none)) (fun r e => by cases e; omega)
    have hc5 := cell_kept c3 (grownBy_putObj' _ D' (.deferred none)) (fun r e => by cases e; exact ⟨_, hK', rfl⟩)
    have HFIN : Hid (∃ r' F1 S1 K1 st1 nu1 dn1, ((Ending.returned (.int .i64 r)) = .returned (.int .i64 r') ∧ StAt G B F1 (N + 300 * G.b.toNat) S1 d s g st1 nu1 dn1 (W.putObj D' (.deferred none)) ∧ SDoes F s g w F1 (W.putObj D' (.deferred none))) ∧ ChgRes G S K st nu j D r' S1 K1 st1 nu1 dn1) :=
      ⟨r, F1, S1, K1, st1, nu1, dn1, ⟨rfl, (hback _ _ _ _ _ _ _ hl3.at_).mono (by have : 300 * pre.length ≤ 300 * G.b.toNat := Nat.mul_le_mul_left _ hpl; omega), sd3⟩, hres⟩
    clear hl3 sd3 hl hres hsd1 hI0 hstops
    gi_wp2
    refine ⟨by simp, .inl ⟨_, _, rfl, run_takeDeferred hK', ?_⟩⟩
    refine ⟨.int .i64 r, ?_, HFIN.out⟩
    simp [results, Tryz.results26, go_sem, hc5]
end
end Go.Proofs.YtgamakejaknagaaGreat

/-
  The code of layer 11 (store), as it landed: others: the whole blocks of a logical block that do not stand for it.
-/
namespace Go.Proofs.YtgamakejaknagaaGreat
open Go.RowKit Go.Maps
set_option linter.unusedVariables false
set_option maxRecDepth 8192

def delB (st : List Int) (y : Int) : Bool := decide (y = -1) || decide (y ∈ st)
section
variable {d s g : Nat} {st : List Int} {nu : Int} {dn : Bool}
theorem del_any (y : Int) (bx : Nat) (w : World) (h : SBox w s d g st nu dn) (hc : w.cell? ⟨bx, 0, none⟩ = some (.pointer (some ⟨s, 0, none⟩))) :
    Calls Tryz.prog 59 #[.int .i64 y, .pointer (some ⟨bx, 0, none⟩)] w fun e w' => e = .returned (.bool (delB st y)) ∧ w = w' := by
  have hct := contI_any (some ⟨g, 0, none⟩) st.length st.length st y w h.ints (by have := h.len; omega)
  have c1 := h.c1
  clear h
  have HD : Hid (delB st y = (decide (y = -1) || decide (y ∈ st))) := rfl
  generalize decide (y ∈ st) = b at *
  generalize st.length = L at *
  by_cases h1 : y = -1
  · subst h1
    have HE : Hid (delB st (-1) = true) := by show _ = _; rw [HD.out]; rfl
    rw [HE.out]
    clear HD
    go_enter Tryz.func59, Tryz.ntmps59
    go_wp2_with fail
    go_ret
    exact ⟨rfl, rfl⟩
  · have hne : (y == -1) = false := by simp [h1]
    have HE : Hid (delB st y = b) := by show _ = _; rw [HD.out, decide_eq_false h1]; rfl
    rw [HE.out]
    clear HD h1
    go_enter Tryz.func59, Tryz.ntmps59
    go_wp2_with fail
    refine hct.mono ?_
    rintro e w1 ⟨rfl, rfl⟩
    go_wp2_with fail
    go_ret
    exact ⟨rfl, rfl⟩
set_option maxHeartbeats 800000 in
theorem idxF_last (Y : List Int) (x0 : Int) (g1 cap : Nat) (hn : Y.length ≤ 100000) (bx : Nat) (w : World) (h : SBox w s d g st nu dn) (hc : w.cell? ⟨bx, 0, none⟩ = some (.pointer (some ⟨s, 0, none⟩))) (hr : Row .i64 w (some ⟨g1, 0, none⟩) (Y.length + 1) cap (Y ++ [x0])) (hf : ∀ y ∈ Y, delB st y = false) (hx : delB st x0 = true) :
    Calls Tryz.prog 92 #[.slice (some ⟨g1, 0, none⟩) (Y.length + 1) cap, .func (.func 59) #[] #[.pointer (some ⟨bx, 0, none⟩)]] w fun e w' => e = .returned (.int .i64 (Y.length : Int)) ∧ w = w' := by
  obtain ⟨b, off, e, _, hcell⟩ := hr.hcell (by omega)
  simp only [Option.some.injEq, Addr.mk.injEq, and_true] at e
  obtain ⟨rfl, rfl⟩ := e
  have hdel := fun y => del_any y bx w h hc
  have HF : Hid (∀ k, k < Y.length → delB st ((Y ++ [x0])[k]?.getD 0) = false) := fun k hk => by
    rw [List.getElem?_append_left hk]
    exact hf _ (mem_getD Y k hk)
  have HX : Hid (delB st ((Y ++ [x0])[Y.length]?.getD 0) = true) := by
    show _ = _
    rw [List.getElem?_append_right (Nat.le_refl _), Nat.sub_self]
    exact hx
  clear h hc hr hf hx
  generalize Y ++ [x0] = Z at *
  generalize Y.length = n at *
  go_enter Tryz.func92, Tryz.ntmps92
  go_wp2_with fail
  go_loop [8] (fun i => ∃ k : Nat, k ≤ n ∧ i = .int .i64 (k : Int)) (fun i => n + 1 - (RowKit.intOf i).toNat)
  case atStart => exact ⟨0, Nat.zero_le _, rfl⟩
  case round =>
    obtain ⟨k, hk, rfl⟩ := hrel
    have hlt' : (k : Int) < ((n + 1 : Nat) : Int) := by omega
    have hck := hcell k (by omega)
    rw [Nat.zero_add] at hck
    have hd := hdel (Z[k]?.getD 0)
    by_cases hkn : k = n
    · subst hkn
      rw [HX.out] at hd
      clear hdel hcell HF HX
      generalize Z[k]?.getD 0 = y at *
      go_wp2_with fail
      refine hd.mono ?_
      rintro e w1 ⟨rfl, rfl⟩
      go_wp2_with fail
      go_ret
      exact ⟨rfl, rfl⟩
    · rw [HF.out k (by omega)] at hd
      clear hdel hcell HF HX
      generalize Z[k]?.getD 0 = y at *
      go_wp2_with fail
      refine hd.mono ?_
      rintro e w1 ⟨rfl, rfl⟩
      go_wp2_with fail
      go_round
      case rel => exact ⟨k + 1, by omega, by go_num⟩
      case measure => simp [RowKit.intOf]; omega
set_option maxHeartbeats 1600000 in
theorem delF_last (Y : List Int) (x0 : Int) (base g1 cap : Nat) (hn : Y.length ≤ 100000) (bx : Nat) (w : World) (h : SBox w s d g st nu dn) (hc : w.cell? ⟨bx, 0, none⟩ = some (.pointer (some ⟨s, 0, none⟩))) (own : w.ownsRow base 3 1 (.slice (some ⟨g1, 0, none⟩) (Y.length + 1) cap) (Y.length + 1) ((Y ++ [x0]).map (Value.int .i64))) (hf : ∀ y ∈ Y, delB st y = false) (hx : delB st x0 = true) :
    Calls Tryz.prog 58 #[.slice (some ⟨g1, 0, none⟩) (Y.length + 1) cap, .func (.func 59) #[] #[.pointer (some ⟨bx, 0, none⟩)]] w fun e w' => e = .returned (.slice (some ⟨g1, 0, none⟩) Y.length cap) ∧ w'.ownsRow base 3 1 (.slice (some ⟨g1, 0, none⟩) Y.length cap) Y.length (Y.map (Value.int .i64)) ∧ w.grownBy w' (some g1) := by
  obtain ⟨a1, c1, hv, hr⟩ := row_of_owns own
  simp only [Value.slice.injEq, true_and] at hv
  obtain ⟨rfl, rfl⟩ := hv
  have hidx := idxF_last Y x0 g1 cap hn bx w h hc hr hf hx
  have hcap := hr.hcap
  have hmx := hr.hmax
  unfold maxLen at hmx
  have hcn := owned_cell own Y.length (by omega)
  have hfz : w.frozen? ⟨g1, Y.length, none⟩ = false := by
    rcases own.2 with ⟨h', _⟩ | ⟨g', cap', cur, h', _, hg, _, _, _, _⟩
    · simp at h'
    · simp only [Value.slice.injEq, Option.some.injEq, Addr.mk.injEq, and_true, true_and] at h'
      obtain ⟨rfl, rfl⟩ := h'
      simp [World.frozen?, hg]
  have hcs : ∀ j, j < 1 → (w.cell? ⟨g1, Y.length + j, none⟩).isSome = true := fun j hj => by
    have e : j = 0 := by omega
    rw [e, Nat.add_zero, hcn]
    rfl
  have hfs : ∀ j, j < 1 → w.frozen? ⟨g1, Y.length + j, none⟩ = false := fun j hj => by
    have e : j = 0 := by omega
    rw [e, Nat.add_zero]
    exact hfz
  have hcl := Go.Lib.run_clear_slice (P := Tryz.prog) w 32 3 0 (.int .i64 0) Tryz.underlying32 (Tryz.zeroValue3) rfl rfl g1 Y.length 1 (cap - Y.length) (by omega) hcs hfs
  rw [show w.setCells g1 Y.length (List.replicate 1 (.int .i64 0)) = w.setCell ⟨g1, Y.length, none⟩ (.int .i64 0) from rfl] at hcl
  have HFIN : Hid ((w.setCell ⟨g1, Y.length, none⟩ (.int .i64 0)).ownsRow base 3 1 (.slice (some ⟨g1, 0, none⟩) Y.length cap) Y.length (Y.map (Value.int .i64)) ∧ w.grownBy (w.setCell ⟨g1, Y.length, none⟩ (.int .i64 0)) (some g1)) := by
    have o1 := (own.stored Y.length (.int .i64 0)).1
    rw [← List.map_set] at o1
    have o2 := owns_take o1 (m := Y.length) (by omega)
    have e : ((Y ++ [x0]).set Y.length 0).take Y.length = Y := by
      rw [List.set_append_right _ _ (Nat.le_refl _), List.take_left]
    rw [e] at o2
    exact ⟨o2, (own.stored Y.length (.int .i64 0)).2⟩
  clear h hc own hr hf hx hcn hfz hcs hfs
  generalize hnn : Y.length = n at *
  have hne : ((n : Int) == -1) = false := by simp
  have hcap' : n + 1 ≤ cap := hcap
  have hnc : ¬ cap = n := by omega
  clear hcap
  go_enter Tryz.func58, Tryz.ntmps58
  go_wp2_with fail
  refine hidx.mono ?_
  rintro e w1 ⟨rfl, rfl⟩
  clear hidx
  go_wp2_with fail
  go_loop [5, 6] (fun i k => i = .int .i64 (n : Int) ∧ k = .int .i64 ((n : Int) + 1)) (fun _ _ => 0)
  case atStart => exact ⟨rfl, rfl⟩
  case round =>
    obtain ⟨rfl, rfl⟩ := hrel
    go_wp2_with fail
    go_ret
    exact ⟨rfl, HFIN.out⟩
end
end Go.Proofs.YtgamakejaknagaaGreat
