/-
  The code of layer 11 (store), as it landed: fill: a block is written on.
-/
import Derived.Test.YtbafkakhhelcmaaGreatStoreCode4
namespace Go.Proofs.YtbafkakhhelcmaaGreat
open Go.RowKit Go.Maps
set_option linter.unusedVariables false
set_option maxRecDepth 8192

/-- What writing bytes of j on the block x makes of what the blocks hold. -/
def FillK (G : Geo) (S : CS) (K : Int → BK) (x j : Int) (D : List Int) (nu r : Int) (S1 : CS) (nu1 : Int) : Prop :=
  ∃ k, (CInv G S1 (updK K x k) ∧ Apart S S1 x) ∧
    ((r = 73 ∧ (S.bd x = true ∧ S1 = S) ∧ k = K x ∧ nu1 = nu) ∨
     (r = 72 ∧ (S.wk x = true ∧ S1.bd x = true ∧ S1.up = true) ∧ k = K x ∧ nu1 = nu) ∨
     (r = 70 ∧ (S.ah ≠ 0 ∧ S1.up = false) ∧ (k = K x ∨ k = .no ∨ k = .part j (D.length : Nat) nu ∨ (k = .copy j D nu ∧ S.bd x = false ∧ S1.bd x = false)) ∧ nu ≤ nu1 ∧ nu1 ≤ nu + 1) ∨
     (r = 0 ∧ (S1.up = true ∧ S.wk x = false ∧ S.bd x = false ∧ S1.bd x = false) ∧ k = .copy j D nu ∧ nu1 = nu + 1))
section
variable {G : Geo} {S S1 S2 : CS} {K : Int → BK} {x j nu r : Int} {D : List Int}
theorem erase_code (hE : EraseRes G S x r S1) : r = 73 ∨ r = 72 ∨ r = 70 ∨ r = 0 := by
  rcases hE.2 with ⟨rfl, _⟩ | ⟨rfl, _⟩ | ⟨rfl, _⟩ | ⟨rfl, _⟩
  · exact .inl rfl
  · exact .inr (.inl rfl)
  · exact .inr (.inr (.inl rfl))
  · exact .inr (.inr (.inr rfl))
theorem fillK_erase (hE : EraseRes G S x r S1) (hr : r ≠ 0) (hc : CInv G S K) (hx : 0 ≤ x ∧ x < G.b) : FillK G S K x j D nu r S1 nu := by
  obtain ⟨k, ⟨h1, _⟩, h2, _, h4⟩ := hE.inv hc hx
  refine ⟨k, ⟨h1, hE.1⟩, ?_⟩
  rcases hE.2 with ⟨rfl, hb, rfl⟩ | ⟨rfl, ⟨hw, _⟩, hu, hb, _⟩ | ⟨rfl, ⟨ha, _⟩, hu, _⟩ | ⟨rfl, _⟩
  · exact .inl ⟨rfl, ⟨hb, rfl⟩, h4 (.inr rfl), rfl⟩
  · exact .inr (.inl ⟨rfl, ⟨hw, hb, hu⟩, h4 (.inl rfl), rfl⟩)
  · exact .inr (.inr (.inl ⟨rfl, ⟨ha, hu⟩, h2.imp id .inl, Int.le_refl _, by omega⟩))
  · exact absurd rfl hr
theorem erase_zero (hE : EraseRes G S x 0 S1) : S.wk x = false ∧ S.bd x = false := by
  rcases hE.2 with ⟨h, _⟩ | ⟨h, _⟩ | ⟨h, _⟩ | ⟨_, h, _⟩
  · cases h
  · cases h
  · cases h
  · exact h
theorem fillK_torn (hE : EraseRes G S x 0 S1) (hc : CInv G S K) (hx : 0 ≤ x ∧ x < G.b) (ap : Apart S1 S2 x) (hah : S1.ah ≠ 0) {m : Nat} (hm : m ≤ (fullP G.R j D nu).length) (ht : Torn G S2 x ((fullP G.R j D nu).take m)) (hmay : mayH G.C j (D.length : Nat) nu = true) (hB : IsB D) : FillK G S K x j D nu 70 S2 (nu + 1) := by
  obtain ⟨k, hk, hkk⟩ := torn_is hm ht hmay hB
  refine ⟨k, ⟨hc.apart (hE.1.trans ap) hk, hE.1.trans ap⟩, .inr (.inr (.inl ⟨rfl, ⟨fun e => hah (hE.1.ah e), ht.up⟩, ?_, by omega, by omega⟩))⟩
  rcases hkk with h | h | h
  · exact .inr (.inl h)
  · exact .inr (.inr (.inl h))
  · exact .inr (.inr (.inr ⟨h, (erase_zero hE).2, ht.bd⟩))
theorem fillK_done (hE : EraseRes G S x 0 S1) (hc : CInv G S K) (hx : 0 ≤ x ∧ x < G.b) (ap : Apart S1 S2 x) (hf : Fil G S2 x (fullP G.R j D nu)) (hmay : mayH G.C j (D.length : Nat) nu = true) (hB : IsB D) : FillK G S K x j D nu 0 S2 (nu + 1) :=
  ⟨_, ⟨hc.apart (hE.1.trans ap) (fil_copy hf hmay hB), hE.1.trans ap⟩, .inr (.inr (.inr ⟨rfl, ⟨hf.up, (erase_zero hE).1, (erase_zero hE).2, hf.bd⟩, rfl, rfl⟩))⟩
end
section
variable {G : Geo} {B : CB} {F : Nat → Prop} {N : Nat} {S : CS} {d s g : Nat} {st : List Int} {nu : Int} {dn : Bool}
set_option maxHeartbeats 3200000 in
theorem fill_any (x : Int) (hx : 0 ≤ x ∧ x < G.b) (j : Int) (D : List Int) (a : Option Addr) (len cap : Nat) (w : World) (h : StAt G B F N S d s g st nu dn w) (hlim : B.lim ≤ w.heap.size) (hN : N + 310 < 1000000) (hup : S.up = true) (K : Int → BK) (hK : CInv G S K) (hr : OffS F s g .u8 w a len cap D) (hD : IsB D) (hmay : mayH G.C j (len : Nat) nu = true) :
    Calls Tryz.prog 50 #[.pointer (some ⟨s, 0, none⟩), .int .i64 x, .int .i64 j, .slice a len cap] w fun e w' => ∃ r F1 S1 nu1, (e = .returned (.int .i64 r) ∧ StAt G B F1 (N + 300) S1 d s g st nu1 dn w' ∧ SDoes F s g w F1 w') ∧ FillK G S K x j D nu r S1 nu1 := by
  have hDl := hr.row.hlen
  have hmy := mayH_yes hmay
  have hR := G.ok.hR1
  have hGp := G.ok.hp
  have hGb := G.ok.hb
  have hxi : I64 x := by unfold I64; omega
  have hpp := may_pages (G := G) (n := len) (by omega)
  have hlm : len ≤ maxLen := Nat.le_trans hr.row.hcap hr.row.hmax
  have hlm' : (len : Int) ≤ 9223372036854775807 := by unfold maxLen at hlm; omega
  have HER : Hid (EraseRes G S x (S.eraseD G x).1 (S.eraseD G x).2) := erase_res hx hup
  have HKI : Hid (CInv G S K) := hK
  clear hK
  go_enter Tryz.func50, Tryz.ntmps50
  go_wp2_with fail
  refine held_begin (by kernel_rfl) ?_
  refine held_reads (rs := [0, 1, 2, 3, 5, 6, 7, 8, 9, 10, 11, 12]) (fuel := 7) (by kernel_rfl) (fun c d v a w h => by cases d <;> exact h) (by kernel_rfl) (Since.drew _) (fun K hK => ?_)
  refine calm_move _ rfl (by rfl) rfl ?_
  go_simp
  refine calm_do (.pointer (some ⟨s, 0, none⟩)) rfl (by rfl) (fun w' hw' => ?_) ?_
  · have c0 := (h.sb.below hw' (Nat.le_refl _)).c0
    go_simp
  go_simp
  refine calm_do (.pointer (some ⟨s, 0, none⟩)) rfl (by rfl) (fun w' hw' => ?_) ?_
  · go_simp
  go_simp
  refine calm_do (.pointer (some ⟨d, 0, none⟩)) rfl (by rfl) (fun w' hw' => ?_) ?_
  · have c0 := (h.sb.below hw' (Nat.le_refl _)).c0
    go_simp
  go_simp
  refine calm_move _ rfl (by rfl) rfl ?_
  go_simp
  refine calm_move _ rfl (by rfl) rfl ?_
  go_simp
  refine calm_do (.int .i64 (len : Int)) rfl (by rfl) (fun w' hw' => ?_) ?_
  · go_simp
  go_simp
  refine calm_move _ rfl (by rfl) rfl ?_
  go_simp
  refine calm_do (.pointer (some ⟨s, 0, none⟩)) rfl (by rfl) (fun w' hw' => ?_) ?_
  · have c0 := (h.sb.below hw' (Nat.le_refl _)).c0
    go_simp
  go_simp
  refine calm_do (.pointer (some ⟨s, 2, none⟩)) rfl (by rfl) (fun w' hw' => ?_) ?_
  · go_simp
  go_simp
  refine calm_do (.int .i64 nu) rfl (by rfl) (fun w' hw' => ?_) ?_
  · have c2 := (h.sb.below hw' (Nat.le_refl _)).c2
    go_simp
  go_simp
  refine calm_do (.agg #[.int .i64 j, .int .i64 (len : Int), .int .i64 nu]) rfl (by rfl) (fun w' hw' => ?_) ?_
  · go_simp
  go_simp
  refine calm_nil (hK.out _ ?_)
  clear hK K
  refine held_call (i := 4) (fuel := 6) (by kernel_rfl) rfl (by rfl) (fun K hK => ?_)
  go_simp
  have hd4 := h.drew
  refine (drvGeometry_any w.drew hd4.db hd4.chip.cell hd4.chip.lt).mono ?_
  clear hd4
  rintro e w1 ⟨rfl, qq0⟩
  have q1 : Since w w1 := Since.trans (Since.drew _) qq0
  refine hK _ _ q1 ?_
  clear hK K qq0
  replace h := h.below q1
  have hr1 := hr.step (SDoes.of_below q1)
  refine held_call (i := 13) (fuel := 5) (by kernel_rfl) rfl (by rfl) (fun K hK => ?_)
  go_simp
  refine (hBytes_yes G.gmay j (len : Int) nu w1 hmay).mono ?_
  rintro e w2 ⟨g1, hg1, rfl, own, qq0⟩
  have q2 : Since w1 w2 := qq0
  refine hK _ _ q2 ?_
  clear hK K qq0
  obtain ⟨a1, cp1, hv1, r1⟩ := row_of_owns own
  simp only [Value.slice.injEq, true_and] at hv1
  obtain ⟨rfl, rfl⟩ := hv1
  have hs1 := h.sb.slt
  have hgl1 := h.sb.glt
  have hfr1 := h.chip.fresh
  have of1 : OffS F s g .u8 w2 (some ⟨g1, 0, none⟩) G.R G.R (pageOf G.R j (len : Int) nu) := ⟨r1, fun _ y hy hf => by
    simp only [Option.some.injEq] at hy
    subst hy
    rcases hf with hf | hf | hf
    · have := hfr1 _ hf; dsimp only at this; omega
    · dsimp only at hf; omega
    · dsimp only at hf; omega⟩
  replace h := h.below q2
  have hr2 := hr1.step (SDoes.of_below q2)
  have SD2 : Hid (SDoes F s g w F w2) := SDoes.of_below (btrans q1 q2)
  clear own r1 hr1 hr q1 q2 hs1 hgl1 hfr1 hg1
  refine held_reads (rs := [14, 15, 16, 17, 18]) (fuel := 0) (by kernel_rfl) (fun c d v a w h => by cases d <;> exact h) (by kernel_rfl) (Since.refl _) (fun K hK => ?_)
  go_simp
  refine calm_move _ rfl (by rfl) rfl ?_
  go_simp
  refine calm_do (.slice (some ⟨g1, 0, none⟩) G.R G.R) rfl (by rfl) (fun w' hw' => ?_) ?_
  · go_simp
  go_simp
  refine calm_do (.int .i64 0) rfl (by rfl) (fun w' hw' => ?_) ?_
  · go_simp
  go_simp
  refine calm_assign _ rfl (by rfl) rfl ?_
  go_simp
  refine calm_assign _ rfl (by rfl) rfl ?_
  go_simp
  refine calm_nil (hK.out _ ?_)
  clear hK K
  refine wpAnyH_done (by kernel_rfl) ?_ _
  have c0 := h.sb.c0
  have HPG : Hid (IsB (pageOf G.R j (len : Int) nu) ∧ (pageOf G.R j (len : Int) nu).length = G.R) := ⟨isB_page _ _ _ _, pageOf_len _ _ _ hR.1⟩
  have her := drvErase_any x hxi w2 h.db h.fd h.chip (by omega)
  go_wp2_with fail
  refine her.mono ?_
  clear her
  rintro e w3 ⟨rfl, dd⟩
  obtain ⟨F3, h3, sd3, t3⟩ := h.does dd
  replace of1 := of1.step sd3
  replace hr2 := hr2.step sd3
  have SD3 : Hid (SDoes F s g w F3 w3) := SD2.out.trans sd3
  clear dd sd3 t3 h SD2 c0
  generalize hee : S.eraseD G x = E at *
  obtain ⟨r, S3⟩ := E
  simp only at HER h3
  clear hee
  by_cases hr0 : r = 0
  · subst hr0
    have c0 := h3.sb.c0
    have c2 := h3.sb.c2
    have f2 := h3.sb.soft 2
    obtain ⟨h4, sd4⟩ := h3.setNum (nu + 1)
    have of4 := of1.step sd4
    have hr4 := hr2.step sd4
    have SD4 : Hid _ := SD3.out.trans sd4
    have HF0 : Hid (Fil G S3 x []) := fil_zero hx HER.out
    clear h3 of1 hr2 SD3 sd4
    have d0 := h4.sb.c0
    have hyb : inB0 0 G.p = true := inB0_of (by omega)
    have hu1 : S3.use G x true = 0 := use_of HF0.out.up (inB0_of hx) rfl HF0.out.bd
    have hwr := drvWrite_yes (F := F3) x 0 hxi (by unfold I64; omega) (some ⟨g1, 0, none⟩) G.R (pageOf G.R j (len : Int) nu) _ h4.db h4.fd h4.chip of4.row HPG.out.1 (by omega) hyb hu1
    have HHW : Hid _ := hwr
    clear hwr
    have H4 : Hid _ := h4
    clear h4
    go_wp2_with fail
    refine Calls.mono HHW.out ?_
    clear HHW
    rintro e w5 ⟨z, hz, rfl, dd⟩
    obtain ⟨F5, h5, sd5, t5⟩ := StAt.does H4.out dd
    have hr5 := hr4.step sd5
    have SD5 : Hid _ := SDoes.trans SD4.out sd5
    obtain ⟨ap5, hres⟩ := write_res hx HF0.out (by simp; omega) HPG.out.1 HPG.out.2 hz
    simp only [List.length_nil, Int.natCast_zero, List.nil_append] at ap5 hres
    have HAP : Hid _ := ap5
    have HRES : Hid _ := hres
    clear dd sd5 t5 SD4 hr4 of4 H4 ap5 hres c0 c2 f2 d0 hu1 hz
    change Hid (Apart S3 (CS.after G (S3.doProgram G x 0 z) x).2 x) at HAP
    generalize hee : CS.after G (S3.doProgram G x 0 z) x = E at *
    obtain ⟨r5, S5⟩ := E
    simp only at h5 HAP HRES
    clear hee
    rcases HRES.out with ⟨h0, hf5⟩ | ⟨h70, hah, ls', hls', htn⟩
    · subst h0
      have hly := lay_any x hx (pageOf G.R j (len : Int) nu) D a len cap w5 h5 (Nat.le_trans hlim SD5.out.tn.size) (by omega) hf5 hr5 hD (by omega)
      have HLY : Hid _ := hly
      clear hly HRES hf5 hr5
      go_wp2_with fail
      refine Calls.mono HLY.out ?_
      rintro e w6 ⟨r6, F6, S6, ⟨rfl, h6, sd6, ap6⟩, hr6⟩
      have HFIN : Hid (FillK G S K x j D nu r6 S6 (nu + 1)) := by
        have e : fullP G.R j D nu = pageOf G.R j (len : Int) nu :: (List.range (pagesOf G.R len)).map (chunkZ G.R D) := by unfold fullP; rw [hDl]
        rcases hr6 with ⟨rfl, hf⟩ | ⟨rfl, hah, m, hm, ht⟩
        · rw [← e] at hf
          exact fillK_done HER.out HKI.out hx (HAP.out.trans ap6) hf (by rw [hDl]; exact hmay) hD
        · rw [← e] at ht
          exact fillK_torn HER.out HKI.out hx (HAP.out.trans ap6) (fun e0 => hah (HAP.out.ah e0)) (by rw [fullP_len, hDl]; omega) ht (by rw [hDl]; exact hmay) hD
      have HST : Hid _ := h6.mono (N' := N + 300) (by omega)
      have HSD : Hid _ := SDoes.trans SD5.out sd6
      clear h6 sd6 ap6 hr6 HLY SD5 h5
      go_wp2_with fail
      go_ret
      exact ⟨r6, F6, S6, nu + 1, ⟨rfl, HST.out, HSD.out⟩, HFIN.out⟩
    · subst h70
      have HFIN : Hid (FillK G S K x j D nu 70 S5 (nu + 1)) := by
        have e : fullP G.R j D nu = pageOf G.R j (len : Int) nu :: (List.range (pagesOf G.R len)).map (chunkZ G.R D) := by unfold fullP; rw [hDl]
        have e2 : ls' = (fullP G.R j D nu).take ls'.length := by
          rw [e]
          rcases hls' with rfl | rfl
          · rfl
          · rfl
        have hl : ls'.length ≤ (fullP G.R j D nu).length := by
          rw [fullP_len]
          rcases hls' with rfl | rfl
          · simp
          · simp
        rw [e2] at htn
        exact fillK_torn HER.out HKI.out hx HAP.out hah hl htn (by rw [hDl]; exact hmay) hD
      have HST : Hid _ := h5.mono (N' := N + 300) (by omega)
      clear h5 HRES htn
      go_wp2_with fail
      go_ret
      exact ⟨70, F5, S5, nu + 1, ⟨rfl, HST.out, SD5.out⟩, HFIN.out⟩
  · have hne : (r != 0) = true := by simp [hr0]
    have HFIN : Hid (FillK G S K x j D nu r S3 nu) := fillK_erase HER.out hr0 HKI.out hx
    have HST : Hid _ := h3.mono (N' := N + 300) (by omega)
    clear h3 of1 hr2 hr0
    go_wp2_with fail
    go_ret
    exact ⟨r, F3, S3, nu, ⟨rfl, HST.out, SD3.out⟩, HFIN.out⟩
end
end Go.Proofs.YtbafkakhhelcmaaGreat
