/-
  The code of layer 11 (store), as it landed: bytes, Read.
-/
import Derived.Test.YtbafkakhhelcmaaGreatStoreCode
namespace Go.Proofs.YtbafkakhhelcmaaGreat
open Go.RowKit Go.Maps
set_option linter.unusedVariables false
set_option maxRecDepth 8192

section
variable {G : Geo} {B : CB} {F : Nat → Prop} {N : Nat} {S : CS} {d s g : Nat} {st : List Int} {nu : Int} {dn : Bool}
set_option maxHeartbeats 3200000 in
theorem bytes_any (x : Int) (hx : 0 ≤ x ∧ x < G.b) (j : Int) (D : List Int) (nn : Int) (w : World) (h : StAt G B F N S d s g st nu dn w) (hup : S.up = true) (hbd : S.bd x = false) (hk : BIs G (S.pg x) (S.wr x) (.copy j D nn)) :
    Calls Tryz.prog 57 #[.pointer (some ⟨s, 0, none⟩), .int .i64 x] w fun e w' => ∃ a cap, ∃ k : Nat, ((0 < D.length → ∀ q : Addr, a = some q → w.heap.size ≤ q.block) ∧ ((∀ p, S.wr x p = fun _ => false) → k = 0)) ∧ e = .returned (.tuple #[.slice a D.length cap, .int .i64 (k : Nat), .int .i64 0]) ∧ Row .u8 w' a D.length cap D ∧ Below w.heap.size w w' := by
  obtain ⟨⟨hm, hDB, h0⟩, hpg⟩ := hk
  have hmy := mayH_yes hm
  have hDC : D.length ≤ G.C := by omega
  have hpn := may_pages hDC
  have hGC := G.gmay.hC1
  have hR16 := G.ok.hR1
  have hGp := G.ok.hp
  have hGb := G.ok.hb
  have hu : S.use G x true = 0 := use_of hup (inB0_of hx) rfl hbd
  have hxi : I64 x := by unfold I64; omega
  have hp0 : inB0 0 G.p = true := inB0_of (by omega)
  obtain ⟨i0, hi0, hz0, hz1, hz2⟩ := info_parts Tryz.info5
  have c0 := h.sb.c0
  go_enter Tryz.func57, Tryz.ntmps57
  go_wp2_with fail
  refine (drvRead_yes x 0 hxi (by unfold I64; omega) w h.db h.chip hp0 hu).mono ?_
  rintro e w1 ⟨X, k1, er, ao, co, ⟨hR, hXB, _⟩, rfl, rX, q1⟩
  obtain ⟨hXe, rfl, hk0⟩ := h0.read hR
  obtain ⟨e0, e1, e2, e3⟩ := readH_page (R := G.R) (geoC_lt G) hm
  have hXl : X.length = G.R := by rw [hXe]; exact pageOf_len _ _ _ hR16.1
  rw [← hXe] at e0 e1 e2 e3
  rw [hXl] at rX
  rw [hXl]
  clear hXl hXe hR h0 c0 hm
  replace h := h.below q1
  have c0 := h.sb.c0
  go_wp2_with fail
  refine (drvGeometry_any w1 h.db h.chip.cell h.chip.lt).mono ?_
  rintro e w2 ⟨rfl, q2⟩
  replace h := h.below q2
  replace rX := rX.below q2 (Nat.le_refl _)
  replace q1 := btrans q1 q2
  clear q2 c0
  go_wp2_with fail
  refine (hParse_any G.gmay ao co X w2 rX hXB).mono ?_
  rintro e w3 ⟨hp, q2⟩
  replace h := h.below q2
  replace q1 := btrans q1 q2
  clear q2 rX
  rcases hp with ⟨_, hrd⟩ | ⟨rfl, _⟩
  · rw [e3] at hrd; cases hrd
  rw [e0, e1, e2]
  clear e0 e1 e2 e3 hXB
  have q2 := below_one w3 (.cells #[.int .i64 j, .int .i64 (D.length : Nat), .int .i64 nn] 106)
  have hbx := hbox_new w3 106 j (D.length : Nat) nn
  replace h := h.below q2
  replace q1 := btrans q1 q2
  clear q2
  go_wp2_with fail
  generalize w3.alloc (.cells #[.int .i64 j, .int .i64 (D.length : Nat), .int .i64 nn] 106) = w4 at *
  generalize w3.heap.size = bh at *
  refine held_begin (by kernel_rfl) ?_
  refine held_reads (rs := [0, 1, 2, 3, 5, 6]) (fuel := 7) (by kernel_rfl) (fun c d v a w h => by cases d <;> exact h) (by kernel_rfl) (Since.drew _) (fun K hK => ?_)
  refine calm_move _ rfl (by rfl) rfl ?_
  go_simp
  refine calm_do (.pointer (some ⟨s, 0, none⟩)) rfl (by rfl) (fun w' hw' => ?_) ?_
  · have c0 := (h.sb.below hw' (Nat.le_refl _)).c0
    go_simp
  go_simp
  refine calm_do (.pointer (some ⟨s, 0, none⟩)) rfl (by rfl) (fun w' hw' => ?_) ?_
  · go_simp
  go_simp
  refine calm_do (.pointer (some ⟨d, 0, none⟩)) rfl (by rfl) (fun w' hw' => ?_) ?_
  · have c0 := (h.sb.below hw' (Nat.le_refl _)).c0
    go_simp
  go_simp
  refine calm_do (.pointer (some ⟨bh, 1, none⟩)) rfl (by rfl) (fun w' hw' => ?_) ?_
  · go_simp
  go_simp
  refine calm_do (.int .i64 (D.length : Nat)) rfl (by rfl) (fun w' hw' => ?_) ?_
  · have c1 := (hbx.below hw' (Nat.le_refl _)).c1
    go_simp
  go_simp
  refine calm_nil (hK.out _ ?_)
  clear hK K
  refine held_call (i := 4) (fuel := 6) (by kernel_rfl) rfl (by rfl) (fun K hK => ?_)
  go_simp
  have hd4 := h.drew
  refine (drvGeometry_any w4.drew hd4.db hd4.chip.cell hd4.chip.lt).mono ?_
  clear hd4
  rintro e w5 ⟨rfl, qq0⟩
  have q3 : Since w4 w5 := Since.trans (Since.drew _) qq0
  refine hK _ _ q3 ?_
  clear hK K qq0
  replace h := h.below q3
  replace hbx := hbx.below q3 (Nat.le_refl _)
  replace q1 := btrans q1 q3
  clear q3
  refine held_call (i := 7) (fuel := 5) (by kernel_rfl) rfl (by rfl) (fun K hK => ?_)
  go_simp
  refine (hPages_yes G.gmay D.length w5 hDC).mono ?_
  rintro e w6 ⟨rfl, qq0⟩
  have q3 : Since w5 w6 := qq0
  refine hK _ _ q3 ?_
  clear hK K qq0
  replace h := h.below q3
  replace hbx := hbx.below q3 (Nat.le_refl _)
  replace q1 := btrans q1 q3
  clear q3
  have HALL : Hid ((joinZ G.R D (pagesOf G.R D.length)).take D.length = D) := joinZ_all (by omega) D
  have HRM : Hid (D.length ≤ pagesOf G.R D.length * G.R) := pagesOf_room (by omega)
  have HPG : Hid (∀ i : Nat, i < pagesOf G.R D.length → PIs G (S.pg x (1 + i : Nat)) (S.wr x (1 + i : Nat)) (some (chunkZ G.R D i))) := hpg
  have HCL : Hid ((∀ p, S.wr x p = fun _ => false) → k1 = 0) := fun e => hk0 (e 0)
  have hpR : pagesOf G.R D.length * G.R ≤ 64 * 64 := Nat.mul_le_mul (by omega) (by omega)
  clear hpg hk0
  generalize pagesOf G.R D.length = pg at *
  refine held_reads (rs := [8, 9, 10, 11, 12]) (fuel := 0) (by kernel_rfl) (fun c d v a w h => by cases d <;> exact h) (by kernel_rfl) (Since.refl _) (fun K hK => ?_)
  go_simp
  refine calm_move _ rfl (by rfl) rfl ?_
  go_simp
  refine calm_do (.int .i64 (pg : Nat)) rfl (by rfl) (fun w' hw' => ?_) ?_
  · go_simp
  go_simp
  refine calm_do (.int .i64 0) rfl (by rfl) (fun w' hw' => ?_) ?_
  · go_simp
  go_simp
  refine calm_assign _ rfl (by rfl) rfl ?_
  go_simp
  refine calm_assign _ rfl (by rfl) rfl ?_
  go_simp
  refine calm_nil (hK.out _ ?_)
  clear hK K
  refine wpAnyH_done (by kernel_rfl) ?_ _
  have HST : Hid (StAt G B F N S d s g st nu dn w6) := h
  have HBX : Hid (HBox w6 bh j (D.length : Nat) nn) := hbx
  have HQ1 : Hid (Below w.heap.size w w6) := q1
  have hq1s := q1.size
  obtain ⟨R, HRE⟩ : ∃ R, R = G.R := ⟨_, rfl⟩
  have HR : Hid (R = G.R) := HRE
  rw [← HRE] at hpR HALL HRM HPG hR16
  rw [← HRE]
  clear HRE h hbx q1
  obtain ⟨P, HPE⟩ : ∃ P : Nat, P = pg * R := ⟨_, rfl⟩
  have hmul : (pg : Int) * (R : Int) = (P : Int) := by rw [HPE, Int.natCast_mul]
  have HP : Hid (P = pg * R) := HPE
  rw [← HPE] at hpR HRM
  clear HPE
  have hmaxP : P ≤ maxLen := by unfold maxLen; omega
  go_wp2_with (at_make; refine wpList_make_own _ rfl _ _ 43 rfl w6.heap.size 5 i0 (.int .u8 0) 1 Tryz.underlying43 hi0 hz0 hz1 _ _ _ P rfl rfl ?c1 (by rw [hz2]; omega) hmaxP (Nat.le_refl _) ?_)
  case c1 => first | rfl | exact hmul | simp
  intro w7 hown7 hgrow7
  have qb : Below w6.heap.size w6 w7 := (Below.refl _ _).grown hgrow7 (Nat.le_refl _) (by simp)
  clear hgrow7 hmul
  go_wp2_with fail
  generalize hgx : w6.heap.size = B6 at *
  go_loopw [8, 13, 61] (fun mo v y wr => ∃ i m : Nat, i ≤ pg ∧ y = .int .i64 i ∧ mo = .int .i64 (m : Nat) ∧ Hid ((∀ p, S.wr x p = fun _ => false) → m = 0) ∧ wr.ownsRow B6 5 1 v (joinZ R D i).length ((joinZ R D i).map (Value.int .u8)) ∧ Below B6 w6 wr) (fun _ _ y _ => pg - (RowKit.intOf y).toNat)
  case atStart => exact ⟨0, k1, Nat.zero_le _, rfl, rfl, HCL, hown7, qb⟩
  case round =>
    clear hown7 qb
    obtain ⟨i, m, hi, rfl, rfl, HM, hown, qb⟩ := hrel
    have hsz := qb.size
    rw [hgx] at hsz
    have QB : Hid (Below w6.heap.size w6 wr) := by rw [hgx]; exact qb
    have hjl := joinZ_len R D i
    by_cases hlt : i < pg
    case neg =>
      obtain rfl : i = pg := by omega
      rw [hjl, ← HP.out] at hown
      obtain ⟨ao2, co2, rfl, ro⟩ := row_of_owns hown
      have hcap := ro.hcap
      have hmx := ro.hmax
      unfold maxLen at hmx
      have HHD : Hid (0 < D.length → ∀ q : Addr, ao2 = some q → w.heap.size ≤ q.block) := fun h0 q hq => by
        obtain ⟨g', h1, h2⟩ := owns_head hown (by have := HRM.out; omega)
        rw [h2] at hq
        cases hq
        exact Nat.le_trans hq1s h1
      have HRT : Hid (Row .u8 wr ao2 D.length co2 D) := by
        have hh := HRM.out
        refine ⟨rfl, by omega, ro.hmax, ro.hnil, fun h0 => ?_⟩
        obtain ⟨bb, off, rfl, hbs, hc⟩ := ro.hcell (by omega)
        refine ⟨bb, off, rfl, hbs, fun q hq => ?_⟩
        rw [hc q (by omega), ← HALL.out, List.getElem?_take]
        have hql : q < ((joinZ R D i).take D.length).length := by rw [HALL.out]; exact hq
        rw [HALL.out, if_pos hq]
      have c1 := (HBX.out.below QB.out (Nat.le_refl _)).c1
      have HQ : Hid (Below w.heap.size w wr) := btrans HQ1.out QB.out
      have hDP := HRM.out
      clear hown ro qb QB hjl HALL HP
      go_wp2_with fail
      go_ret3
      exact ⟨ao2, co2, m, ⟨HHD.out, HM.out⟩, rfl, HRT.out, HQ.out⟩
    have hlt' : (i : Int) < (pg : Int) := by omega
    have hst := HST.out.below QB.out
    have c0 := hst.sb.c0
    have hpi := HPG.out i hlt
    have e1i : ((1 + i : Nat) : Int) = 1 + (i : Int) := by omega
    rw [e1i] at hpi
    have hyi : inB0 (1 + (i : Int)) G.p = true := inB0_of (by omega)
    have HJ : Hid (joinZ R D (i + 1) = joinZ R D i ++ chunkZ R D i) := rfl
    have HCH : Hid ((chunkZ R D i).length = R) := chunkZ_len R D i
    have hdl : (joinZ R D i).length ≤ 4096 := by
      rw [hjl]
      have : i * R ≤ 64 * 64 := Nat.mul_le_mul (by omega) (by omega)
      omega
    clear qb hjl
    have hrd := drvRead_yes x (1 + (i : Int)) hxi (by unfold I64; omega) wr hst.db hst.chip hyi hu
    clear hst hyi
    have OW : Hid (wr.ownsRow B6 5 1 _ (joinZ R D i).length ((joinZ R D i).map (Value.int .u8))) := hown
    clear hown
    generalize hld : (joinZ R D i).length = ld at *
    have HLD : Hid ((joinZ R D i).length = ld) := hld
    clear hld
    go_wp2_with fail
    refine hrd.mono ?_
    clear hrd
    rintro e w8 ⟨X, k2, er, a8, c8, ⟨hR, hXB, hXn⟩, rfl, rX, q8⟩
    obtain ⟨rfl, rfl, hk2⟩ := hpi.read hR
    have HM2 : Hid ((∀ p, S.wr x p = fun _ => false) → max m k2 = 0) := fun e => by have h1 := HM.out e; have h2 := hk2 (e _); omega
    have QB8 : Hid (Below B6 w6 w8) := by
      have := btrans QB.out q8
      rw [hgx] at this
      exact this
    have hs8 := QB8.out.size
    rw [hgx] at hs8
    have OW8 : Hid (w8.ownsRow B6 5 1 _ ld ((joinZ R D i).map (Value.int .u8))) := owns_same (w' := w8) OW.out (fun b hb => q8.block b (owns_lt OW.out hb).2)
    rw [HCH.out] at rX
    rw [HCH.out]
    clear hR hXB hXn hpi hk2 HM OW QB q8 c0
    by_cases hmx : k2 ≤ m
    · have hmx1 : (k2 : Int) ≤ (m : Int) := by omega
      have HMX : Hid (max m k2 = m) := by show _ = _; omega
      go_wp2_with (at_builtin; refine wpList_append_row _ rfl _ _ 43 rfl B6 5 i0 (.int .u8 0) 1 Tryz.underlying43 hi0 hz0 hz1 hz2 rfl _ _ _ rfl OW8.out .u8 a8 R c8 (chunkZ R D i) rfl rX ?c1 ?c2 ?c3 ?_)
      case c1 => unfold maxLen; omega
      case c2 => omega
      case c3 => omega
      intro v9 w9 own9 grow9
      have HO9 : Hid (w9.ownsRow B6 5 1 v9 (joinZ R D (i + 1)).length ((joinZ R D (i + 1)).map (Value.int .u8))) := by
        show World.ownsRow _ _ _ _ _ _ _
        rw [HJ.out, List.length_append, HLD.out, HCH.out, List.map_append]
        exact own9
      have HQ9 : Hid (Below B6 w6 w9) := QB8.out.grown grow9 (by omega) (fun k hk => (owns_lt OW8.out hk).1)
      clear own9 grow9 OW8 QB8 rX
      rw [HMX.out] at HM2
      go_wp2_with fail
      go_roundw
      case rel => exact ⟨i + 1, m, by omega, by go_num, by rw [show max (m : Int) (k2 : Int) = (m : Int) by omega], HM2, HO9.out, HQ9.out⟩
      case measure => simp [RowKit.intOf]; omega
    · have hmx1 : (m : Int) ≤ (k2 : Int) := by omega
      have HMX : Hid (max m k2 = k2) := by show _ = _; omega
      go_wp2_with (at_builtin; refine wpList_append_row _ rfl _ _ 43 rfl B6 5 i0 (.int .u8 0) 1 Tryz.underlying43 hi0 hz0 hz1 hz2 rfl _ _ _ rfl OW8.out .u8 a8 R c8 (chunkZ R D i) rfl rX ?c1 ?c2 ?c3 ?_)
      case c1 => unfold maxLen; omega
      case c2 => omega
      case c3 => omega
      intro v9 w9 own9 grow9
      have HO9 : Hid (w9.ownsRow B6 5 1 v9 (joinZ R D (i + 1)).length ((joinZ R D (i + 1)).map (Value.int .u8))) := by
        show World.ownsRow _ _ _ _ _ _ _
        rw [HJ.out, List.length_append, HLD.out, HCH.out, List.map_append]
        exact own9
      have HQ9 : Hid (Below B6 w6 w9) := QB8.out.grown grow9 (by omega) (fun k hk => (owns_lt OW8.out hk).1)
      clear own9 grow9 OW8 QB8 rX
      rw [HMX.out] at HM2
      go_wp2_with fail
      go_roundw
      case rel => exact ⟨i + 1, k2, by omega, by go_num, by rw [show max (m : Int) (k2 : Int) = (k2 : Int) by omega], HM2, HO9.out, HQ9.out⟩
      case measure => simp [RowKit.intOf]; omega
theorem stRead_nil (j : Int) (w : World) : Calls Tryz.prog 32 #[.pointer none, .int .i64 j] w fun e w' => e = .returned (.tuple #[.slice none 0 0, .int .i64 0, .int .i64 3]) ∧ w = w' := by
  go_enter Tryz.func32, Tryz.ntmps32
  go_wp2_with fail
  refine (stReady_nil j _).mono ?_
  rintro e w1 ⟨rfl, rfl⟩
  go_wp2_with fail
  go_ret3
  exact ⟨rfl, rfl⟩
theorem stRead_no (j : Int) (w : World) (h : SBox w s d g st nu dn) (hr : rdyS dn st.length j ≠ 0) : Calls Tryz.prog 32 #[.pointer (some ⟨s, 0, none⟩), .int .i64 j] w fun e w' => e = .returned (.tuple #[.slice none 0 0, .int .i64 0, .int .i64 (rdyS dn st.length j)]) ∧ w = w' := by
  have hr' : (rdyS dn st.length j != 0) = true := by simp [hr]
  have hrd := stReady_any j w h
  clear h hr
  generalize rdyS dn st.length j = r at *
  go_enter Tryz.func32, Tryz.ntmps32
  go_wp2_with fail
  refine hrd.mono ?_
  rintro e w1 ⟨rfl, rfl⟩
  go_wp2_with fail
  go_ret3
  exact ⟨rfl, rfl⟩
theorem stRead_none (j : Nat) (w : World) (h : SBox w s d g st nu false) (hj : j < st.length) (hn : st[j]?.getD 0 = -1) : Calls Tryz.prog 32 #[.pointer (some ⟨s, 0, none⟩), .int .i64 (j : Int)] w fun e w' => e = .returned (.tuple #[.slice none 0 0, .int .i64 0, .int .i64 5]) ∧ w = w' := by
  have hrd := stReady_any (j : Int) w h
  rw [rdyS_in (by omega)] at hrd
  have c1 := h.c1
  have ca := h.at j hj
  rw [hn] at ca
  have hl := h.len
  clear h hn
  generalize st.length = L at *
  go_enter Tryz.func32, Tryz.ntmps32
  go_wp2_with fail
  refine hrd.mono ?_
  rintro e w1 ⟨rfl, rfl⟩
  clear hrd
  go_wp2_with fail
  go_ret3
  exact ⟨rfl, rfl⟩
set_option maxHeartbeats 800000 in
theorem stRead_yes (j : Nat) (D : List Int) (nn : Int) (w : World) (h : StAt G B F N S d s g st nu false w) (hj : j < st.length) (hup : S.up = true) (hx : 0 ≤ st[j]?.getD 0 ∧ st[j]?.getD 0 < G.b) (hbd : S.bd (st[j]?.getD 0) = false)
    (hk : BIs G (S.pg (st[j]?.getD 0)) (S.wr (st[j]?.getD 0)) (.copy j D nn)) :
    Calls Tryz.prog 32 #[.pointer (some ⟨s, 0, none⟩), .int .i64 (j : Int)] w fun e w' => ∃ a cap, ∃ k : Nat, ((0 < D.length → ∀ q : Addr, a = some q → w.heap.size ≤ q.block) ∧ ((∀ p, S.wr (st[j]?.getD 0) p = fun _ => false) → k = 0)) ∧ e = .returned (.tuple #[.slice a D.length cap, .int .i64 (k : Nat), .int .i64 0]) ∧ Row .u8 w' a D.length cap D ∧ Below w.heap.size w w' := by
  have hrd := stReady_any (j : Int) w h.sb
  rw [rdyS_in (by omega)] at hrd
  have c1 := h.sb.c1
  have ca := h.sb.at j hj
  have hl := h.sb.len
  have hby := bytes_any _ hx j D nn w h hup hbd hk
  have hne : (st[j]?.getD 0 == -1) = false := by simp; omega
  clear h hk
  generalize st[j]?.getD 0 = x at *
  generalize st.length = L at *
  generalize D.length = n at *
  go_enter Tryz.func32, Tryz.ntmps32
  go_wp2_with fail
  refine hrd.mono ?_
  rintro e w1 ⟨rfl, rfl⟩
  clear hrd
  go_wp2_with fail
  refine hby.mono ?_
  rintro e w2 ⟨a, cap, k, HH, rfl, hrow, q⟩
  clear hby
  have HH2 : Hid _ := HH
  clear HH
  go_wp2_with fail
  refine (stTell_no 0 (by decide) _).mono ?_
  rintro e w3 ⟨rfl, rfl⟩
  go_wp2_with fail
  go_ret3
  exact ⟨a, cap, k, HH2.out, rfl, hrow, q⟩
end
end Go.Proofs.YtbafkakhhelcmaaGreat
