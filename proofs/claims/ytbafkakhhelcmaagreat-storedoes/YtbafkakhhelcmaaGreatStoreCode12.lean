/-
  The code of layer 11 (store), as it landed: Unmap, walked.
-/
import Derived.Test.YtbafkakhhelcmaaGreatStoreCode11
namespace Go.Proofs.YtbafkakhhelcmaaGreat
open Go.RowKit Go.Maps
set_option linter.unusedVariables false
set_option maxRecDepth 8192

section
variable {G : Geo} {B : CB} {F : Nat → Prop} {N : Nat} {S : CS} {d s g : Nat} {st : List Int} {nu : Int} {dn : Bool}
set_option maxHeartbeats 3200000 in
theorem stUnmap_any (j : Nat) (w : World) (h : StAt G B F N S d s g st nu false w) (hN : N + 700 < 1000000) (hup : S.up = true) (hj : j < st.length) (K : Int → BK) (hK : CInv G S K) (M : Int → Option (List Int)) (hH : Hold G.b S.bd K M) (hs : StOk G.b S.bd K M st) (hnu : NumOk G.b S.bd K nu) (hM : ∀ i, (st.length : Int) ≤ i → M i = none) (D : List Int) (n : Int) (hm : M j = some D) (hb : Best G.b S.bd K j (st[j]?.getD 0) D n) :
    Calls Tryz.prog 23 #[.pointer (some ⟨s, 0, none⟩), .int .i64 (j : Int)] w fun e w' => ∃ r F1 S1 K1 st1 dn1, (e = .returned (.int .i64 r) ∧ StAt G B F1 (N + 600) S1 d s g st1 nu dn1 w' ∧ SDoes F s g w F1 w') ∧ UnmRes G S K M st nu j r S1 K1 st1 dn1 := by
  have hrd := stReady_any (j : Int) w h.sb
  rw [rdyS_in (by omega)] at hrd
  have hls := h.sb.len
  have c1 := h.sb.c1
  have ca := h.sb.at j hj
  have hx := hb.good.1
  have hGb := G.ok.hb
  have hot := others_yes j w h hup hj K hK M hH hs D n hm hb
  have HI0 : Hid (∀ Y, OthIs G S K st j (st[j]?.getD 0) Y → UnmI G S K M st nu j (st[j]?.getD 0) Y S K) := fun Y hY =>
    ⟨hK, hup, rfl, id, id, fun _ h => h, fun _ h => .inl h, hH, hs, hnu, ⟨D, n, hb⟩, fun y D' n' hy hk => by
      by_cases e : y = st[j]?.getD 0
      · exact .inl e
      · exact .inr (hY.all y D' n' hy hk e), fun _ => .inl rfl⟩
  have HXS : Hid (st[j]?.getD 0 ∈ st) := mem_getD st j hj
  have hne : (st[j]?.getD 0 == -1) = false := by simp; omega
  clear hK hH hs hnu hm hb
  obtain ⟨i0, hi0, hz0, hz1, hz2⟩ := info_parts Tryz.info3
  obtain ⟨L, hL⟩ : ∃ L, L = st.length := ⟨_, rfl⟩
  have HL : Hid (L = st.length) := hL
  rw [← hL] at c1 hls
  generalize hx0 : st[j]?.getD 0 = x0 at *
  have HX0 : Hid (st[j]?.getD 0 = x0) := hx0
  have hjL : j < L := by omega
  have hjl : (j : Int) < (L : Int) := by omega
  clear hx0 hL
  go_enter Tryz.func23, Tryz.ntmps23
  go_wp2_with fail
  refine hrd.mono ?_
  rintro e w1 ⟨rfl, rfl⟩
  clear hrd
  go_wp2_with fail
  refine hot.mono ?_
  rintro e w1 ⟨v, Y, ⟨rfl, hY⟩, own, q1⟩
  clear hot
  have H0 : Hid (StAt G B F N S d s g st nu false w) := h
  have hst1 := h.below q1
  have HFRS : Hid ((∀ y, F y → y < w.heap.size) ∧ s < w.heap.size ∧ g < w.heap.size) := ⟨h.chip.fresh, h.sb.slt, h.sb.glt⟩
  have d1 := hst1.sb.c1
  rw [← HL.out] at d1
  have da := hst1.sb.at j hj
  rw [HX0.out] at da
  have hYl := hY.len
  have HUI : Hid _ := HI0.out Y hY
  have HYM : Hid (∀ y ∈ Y, (0 ≤ y ∧ y < G.b) ∧ y ∉ st) := fun y hy => ⟨(hY.mem y hy).1.1, (hY.mem y hy).2⟩
  have Q1 : Hid (Below w.heap.size w w1) := q1
  have hw1 := q1.size
  clear h hst1 q1 c1 ca HI0 hY
  have OW : Hid _ := own
  generalize hYn : Y.length = m at *
  have own2 := own.alloc (.cells #[.int .i64 x0] 3)
  have cn := new_cell1 w1 (.int .i64 x0) 3
  go_wp2_with (at_builtin; refine wpList_append_lies _ rfl _ _ 24 rfl (w.heap.size + 1) 3 i0 (.int .i64 0) 1 8 Tryz.underlying24 hi0 hz0 hz1 hz2 rfl (by decide) _ m _ rfl own2 ⟨w1.heap.size, 0, none⟩ 1 1 [.int .i64 x0] rfl rfl ?c1 ?c2 (by decide) ?c3 ?c4 ?c5 _ rfl ?_)
  case c1 =>
    intro i v hi
    cases i with
    | zero => simp only [List.getElem?_cons_zero, Option.some.injEq] at hi; subst hi; exact cn.1
    | succ i => simp at hi
  case c2 =>
    intro v hv
    rw [List.mem_singleton] at hv
    subst hv
    rfl
  case c3 => unfold maxLen; omega
  case c4 => omega
  case c5 => simp; omega
  intro gL cL w3 own3 grow3 hor hlt3
  rw [show (Y.map (Value.int .i64)) ++ [Value.int .i64 x0] = (Y ++ [x0]).map (Value.int .i64) by simp] at own3
  have q3 : Below w.heap.size w w3 := (Q1.out.alloc hw1 _).grown grow3 (by simp; omega) (fun b hb => by have := (owns_lt OW.out hb).1; omega)
  have hgL : w.heap.size + 1 ≤ gL := (owns_lt own3 rfl).1
  obtain ⟨aL, cL2, hv, rL⟩ := row_of_owns own3
  simp only [Value.slice.injEq, true_and] at hv
  obtain ⟨rfl, rfl⟩ := hv
  have of3 : OffS F s g .i64 w3 (some ⟨gL, 0, none⟩) (m + 1) cL (Y ++ [x0]) := ⟨rL, fun _ y hy hf => by
    simp only [Option.some.injEq] at hy
    subst hy
    rcases hf with hf | hf | hf
    · have := HFRS.out.1 _ hf; dsimp only at this; omega
    · have := HFRS.out.2.1; dsimp only at hf; omega
    · have := HFRS.out.2.2; dsimp only at hf; omega⟩
  have hst3 : Hid (StAt G B F (N + 2 * 0) S d s g st nu false w3) := StAt.below H0.out q3
  have HOF3 : Hid _ := of3
  have SD3 : Hid (SDoes F s g w F w3) := SDoes.of_below q3
  have hcLm : m + 1 ≤ cL := rL.hcap
  clear own3 grow3 hor hlt3 of3 rL q3 H0 cn own own2 OW Q1 d1 da
  have HUI0 : Hid ((0 ≤ m ∧ UnmI G S K M st nu j x0 (Y.drop 0) S K) ∨ (0 = m + 1 ∧ UnmRes G S K M st nu j 0 S K (st.set j (-1)) false)) := .inl ⟨Nat.zero_le _, HUI.out⟩
  go_wp2_with fail
  go_loopw [47] (fun i wr => ∃ (k : Nat) (F1 : Nat → Prop) (S1 : CS) (K1 : Int → BK), k ≤ m + 1 ∧ i = .int .i64 (k : Int) ∧ Hid (StAt G B F1 (N + 2 * k) S1 d s g st nu false wr) ∧ Hid (SDoes F s g w F1 wr) ∧ Hid (OffS F1 s g .i64 wr (some ⟨gL, 0, none⟩) (m + 1) cL (Y ++ [x0])) ∧
      Hid ((k ≤ m ∧ UnmI G S K M st nu j x0 (Y.drop k) S1 K1) ∨ (k = m + 1 ∧ UnmRes G S K M st nu j 0 S1 K1 (st.set j (-1)) false))) (fun i _ => m + 1 - (RowKit.intOf i).toNat)
  case atStart => exact ⟨0, F, S, K, Nat.zero_le _, rfl, hst3, SD3, HOF3, HUI0⟩
  case round =>
    clear hst3 SD3 HOF3 HUI0 HUI
    obtain ⟨k, F1, S1, K1, hk, rfl, HST, HSD, HOF, HUN⟩ := hrel
    by_cases hlt : k < m + 1
    · have hlt' : (k : Int) < ((m + 1 : Nat) : Int) := by omega
      obtain ⟨_, hui⟩ : k ≤ m ∧ UnmI G S K M st nu j x0 (Y.drop k) S1 K1 := by
        rcases HUN.out with h | h
        · exact h
        · omega
      obtain ⟨b, off, e, _, hcell⟩ := HOF.out.row.hcell (by omega)
      simp only [Option.some.injEq, Addr.mk.injEq, and_true] at e
      obtain ⟨rfl, rfl⟩ := e
      have hck := hcell k hlt
      rw [Nat.zero_add] at hck
      have s0 := HST.out.sb.c0
      clear hcell
      obtain ⟨z, hz⟩ : ∃ z, z = (Y ++ [x0])[k]?.getD 0 := ⟨_, rfl⟩
      rw [← hz] at hck
      have hzb : 0 ≤ z ∧ z < G.b := by
        by_cases hkm : k < m
        · rw [hz, List.getElem?_append_left (by omega)]
          exact (HYM.out _ (mem_getD Y k (by omega))).1
        · have e : k = Y.length := by omega
          rw [hz, e, List.getElem?_append_right (Nat.le_refl _), Nat.sub_self]
          exact hx
      have her := drvErase_any z (by unfold I64; omega) wr HST.out.db HST.out.fd HST.out.chip (by omega)
      have HER : Hid (EraseRes G S1 z (S1.eraseD G z).1 (S1.eraseD G z).2) := erase_res hzb hui.up
      have HNX : Hid (∀ r S2, r ≠ 70 → EraseRes G S1 z r S2 → ∃ K2, (k + 1 ≤ m ∧ UnmI G S K M st nu j x0 (Y.drop (k + 1)) S2 K2) ∨ (k + 1 = m + 1 ∧ UnmRes G S K M st nu j 0 S2 K2 (st.set j (-1)) false)) := fun r S2 hr hE => by
        by_cases hkm : k < m
        · have hzY : z = Y[k]?.getD 0 := by rw [hz, List.getElem?_append_left (by omega)]
          have hdr : Y.drop k = z :: Y.drop (k + 1) := by
            rw [hzY, List.getElem?_eq_getElem (by omega)]
            exact List.drop_eq_getElem_cons (by omega)
          rw [hdr] at hui
          obtain ⟨K2, h2⟩ := hui.step hM hzb (by rw [hzY]; exact (HYM.out _ (mem_getD Y k (by omega))).2) HXS.out hE hr
          exact ⟨K2, .inl ⟨by omega, h2⟩⟩
        · have e : k = Y.length := by omega
          have hzx : z = x0 := by rw [hz, e, List.getElem?_append_right (Nat.le_refl _), Nat.sub_self]; rfl
          rw [List.drop_of_length_le (by omega)] at hui
          rw [hzx] at hE
          obtain ⟨K2, h2⟩ := hui.last hj hx hE hr
          exact ⟨K2, .inr ⟨by omega, h2⟩⟩
      have HDN : Hid (∀ S2, EraseRes G S1 z 70 S2 → ∃ K2, UnmRes G S K M st nu j 70 S2 K2 st true) := fun S2 hE => by
        by_cases hkm : k < m
        · have hzY : z = Y[k]?.getD 0 := by rw [hz, List.getElem?_append_left (by omega)]
          have hdr : Y.drop k = z :: Y.drop (k + 1) := by
            rw [hzY, List.getElem?_eq_getElem (by omega)]
            exact List.drop_eq_getElem_cons (by omega)
          rw [hdr] at hui
          exact hui.down hM hzb (by rw [hzY]; exact (HYM.out _ (mem_getD Y k (by omega))).2) hE
        · have e : k = Y.length := by omega
          have hzx : z = x0 := by rw [hz, e, List.getElem?_append_right (Nat.le_refl _), Nat.sub_self]; rfl
          rw [List.drop_of_length_le (by omega)] at hui
          rw [hzx] at hE
          exact hui.lastDown hx hE
      clear hui hz HUN
      go_wp2_with fail
      refine her.mono ?_
      clear her
      rintro e V ⟨rfl, dd⟩
      obtain ⟨F2, h2, sd2, t2⟩ := HST.out.does dd
      have SD2 : Hid (SDoes F s g w F2 V) := HSD.out.trans sd2
      have HOF2 : Hid _ := HOF.out.step sd2
      clear dd sd2 t2 HST HSD HOF hck s0
      generalize hee : S1.eraseD G z = E at *
      obtain ⟨r, S2⟩ := E
      simp only at HER h2
      clear hee
      by_cases hr : r = 70
      · subst hr
        obtain ⟨K2, hres⟩ := HDN.out S2 HER.out
        have HRES : Hid _ := hres
        have htl := stTell_yes V h2
        clear hres HDN HNX HER h2
        go_wp2_with fail
        refine htl.mono ?_
        rintro e V3 ⟨rfl, h3, sd3⟩
        have HST3 : Hid _ := h3.mono (N' := N + 600) (by omega)
        have SD3 : Hid _ := SD2.out.trans sd3
        clear htl h3 sd3
        go_wp2_with fail
        go_ret
        first | exact ⟨70, F2, S2, K2, st, true, ⟨rfl, HST3.out, SD3.out⟩, HRES.out⟩ | exact ⟨70, F2, S2, K2, st, .inr ⟨⟨rfl, HST3.out, SD3.out⟩, HRES.out⟩⟩
      · have hne70 : (r == 70) = false := by simp [hr]
        obtain ⟨K2, hnx⟩ := HNX.out r S2 hr HER.out
        have HN2 : Hid _ := hnx
        have HST2 : Hid (StAt G B F2 (N + 2 * (k + 1)) S2 d s g st nu false V) := h2.mono (by omega)
        clear hnx HNX HDN HER h2 hr
        go_wp2_with fail
        go_roundw
        case rel => exact ⟨k + 1, F2, S2, K2, by omega, by go_num, HST2, SD2, HOF2, HN2⟩
        case measure => simp [RowKit.intOf]; omega
    · obtain rfl : k = m + 1 := by omega
      obtain ⟨_, hres⟩ : m + 1 = m + 1 ∧ UnmRes G S K M st nu j 0 S1 K1 (st.set j (-1)) false := by
        rcases HUN.out with h | h
        · omega
        · exact h
      have HRES : Hid _ := hres
      have s1 := HST.out.sb.c1
      rw [← HL.out] at s1
      have sj := HST.out.sb.at j hj
      rw [HX0.out] at sj
      have sf := HST.out.sb.softg j
      obtain ⟨h4, sd4⟩ := HST.out.setAt j (-1)
      have HST4 : Hid _ := h4.mono (N' := N + 600) (by omega)
      have SD4 : Hid _ := HSD.out.trans sd4
      clear hres h4 sd4 HST HSD HOF HUN
      go_wp2_with fail
      go_ret
      first | exact ⟨0, F1, S1, K1, _, false, ⟨rfl, HST4.out, SD4.out⟩, HRES.out⟩ | exact ⟨0, F1, S1, K1, _, .inl ⟨⟨rfl, HST4.out, SD4.out⟩, HRES.out⟩⟩
end
end Go.Proofs.YtbafkakhhelcmaaGreat
