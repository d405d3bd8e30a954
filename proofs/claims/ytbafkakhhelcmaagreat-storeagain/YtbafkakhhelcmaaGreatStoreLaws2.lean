/-
  Layer 11's laws: the walk of StoreAgain.
-/
import Derived.Test.YtbafkakhhelcmaaGreatStoreLaws
namespace Go.Proofs.YtbafkakhhelcmaaGreat
open Go.RowKit Go.Maps
set_option linter.unusedVariables false
set_option maxRecDepth 8192

section
variable {W w w' : World} {G : Geo} {B : CB} {N N' : Nat} {d s g : Nat} {D : Nat → List Int} {len k : Nat}
theorem FewAt.mono (h : FewAt W G B D len k N s w) (hN : N ≤ N') : FewAt W G B D len k N' s w := by
  obtain ⟨F, S, K, M, d, g, st, nu, h, h1⟩ := h
  exact ⟨F, S, K, M, d, g, st, nu, h.mono hN (by omega), h1⟩
theorem FewAt.less (h : FewAt W G B D len k N s w) {k' : Nat} (hk : k' ≤ k) : FewAt W G B D len k' N s w := by
  obtain ⟨F, S, K, M, d, g, st, nu, h, h1, h2, h3⟩ := h
  exact ⟨F, S, K, M, d, g, st, nu, h, h1, h2, ⟨fun j hj => h3.has j (by omega), h3.none⟩⟩
theorem FewAt.below (h : FewAt W G B D len k N s w) (q : Below w.heap.size w w') : FewAt W G B D len k N s w' := by
  obtain ⟨F, S, K, M, d, g, st, nu, h, h1⟩ := h
  exact ⟨F, S, K, M, d, g, st, nu, h.below q, h1⟩
theorem FewAt.opened (h : FewAt W G B D len k N s w) (h1 : 1 ≤ len) (h2 : len ≤ 64) :
    Calls Tryz.prog 13 #[.pointer (some ⟨B.c, 0, none⟩), .int .i64 (len : Int)] w fun e w' => ∃ s', e = .returned (.pointer (some ⟨s', 0, none⟩)) ∧ FewAt W G B D len k N s' w' := by
  obtain ⟨F, S, K, M, d, g, st, nu, h, hl, hc, hd⟩ := h
  refine (open11_any h.cl len h1 h2 hd.none).mono ?_
  rintro e w' ⟨d', s', g', st', nu', ⟨_, hl'⟩, rfl, h', _⟩
  exact ⟨s', rfl, F, _, K, M, d', g', st', nu', h', hl', ⟨hc.bd, hc.wk, hc.ah, hc.wr⟩, hd⟩
theorem FewAt.read (h : FewAt W G B D len k N s w) (j : Nat) (hj : j < k) (hk : k ≤ len) :
    Calls Tryz.prog 32 #[.pointer (some ⟨s, 0, none⟩), .int .i64 (j : Int)] w fun e w' => ∃ a cap, e = .returned (.tuple #[.slice a (D j).length cap, .int .i64 0, .int .i64 0]) ∧ Row .u8 w' a (D j).length cap (D j) ∧ Below w.heap.size w w' := by
  obtain ⟨F, S, K, M, d, g, st, nu, h, hl, hc, hd⟩ := h
  refine (h.read_some j (by omega) (hd.has j hj)).mono ?_
  rintro e w' ⟨a, cap, n, ⟨_, hn⟩, rfl, hr, q⟩
  rw [hn hc.wr]
  exact ⟨a, cap, rfl, hr, q⟩
end
set_option maxHeartbeats 12800000 in
set_option maxRecDepth 100000 in
theorem walk_storeAgain (b p s n f : Int) (a : Option Addr) (len cap : Nat) (D : Nat → List Int) (times : Int) (w : World) (hr : SRow w a len cap D) :
    Calls Tryz.prog 7 #[.agg #[.int .i64 b, .int .i64 p, .int .i64 s, .int .i64 n, .int .i64 f], .slice a len cap, .int .i64 times] w fun e w' => e = .returned (.bool true) ∧ Below w.heap.size w w' := by
  have hcp := hr.hcap
  have hm := hr.hmax
  unfold maxLen at hm
  cases hs : small11 b p s n f
  · go_enter Tryz.func7, Tryz.ntmps7
    go_wp2_with fail
    refine (small11_any b p s n f _).mono ?_
    rintro e w1 ⟨rfl, q1⟩
    rw [hs]
    go_wp2_with fail
    go_ret
    exact ⟨rfl, btrans (below_one _ _) q1⟩
  · obtain ⟨G, rfl, rfl, rfl, rfl, rfl, hb12, hp5, hR⟩ := geo11_ex hs
    by_cases hok : 1 ≤ len ∧ (len : Int) < G.b ∧ 1 ≤ times ∧ times ≤ 10
    · obtain ⟨hl1, hlb, hq1, hq2⟩ := hok
      obtain ⟨T, rfl⟩ := Int.eq_ofNat_of_zero_le (show 0 ≤ times by omega)
      obtain ⟨rb, off, rfl, hrb, hcell⟩ := hr.at_ (by omega)
      have HC : Hid (∀ i, i < len → w.cell? ⟨rb, off + i, none⟩ = some (.string (strOfNums (D i)))) := hcell
      have HB := hr.bs
      have HZ := hr.sz
      clear hcell hr
      go_enter Tryz.func7, Tryz.ntmps7
      go_wp2_with fail
      refine (small11_any _ _ _ _ _ _).mono ?_
      rintro e w1 ⟨rfl, q1⟩
      rw [hs]
      have hgb := (gbox_new w 23 G.b G.p G.s G.n G.f).below q1 (Nat.le_refl _)
      obtain ⟨_, c0, c1, c2, c3, c4⟩ := hgb
      have hgb := (gbox_new w 23 G.b G.p G.s G.n G.f).below q1 (Nat.le_refl _)
      have Q1 : Hid (Below w.heap.size w w1) := btrans (below_one _ _) q1
      have HC1 : Hid (∀ i, i < len → w1.cell? ⟨rb, off + i, none⟩ = some (.string (strOfNums (D i)))) := fun i hi => by
        rw [← HC.out i hi]; exact Q1.out.cell (p := ⟨rb, off + i, none⟩) hrb
      have hrb1 : rb < w1.heap.size := Nat.lt_of_lt_of_le hrb Q1.out.size
      clear q1 HC
      have hx1 : ¬ (len : Int) < 1 := by omega
      have hx2 : ¬ G.b ≤ (len : Int) := by omega
      have hx3 : ¬ (T : Int) < 1 := by omega
      have hx4 : ¬ (10 : Int) < (T : Int) := by omega
      go_wp2_with fail
      clear c0 c1 c2 c3 c4 hx1 hx2 hx3 hx4
      refine (chipNew_nil G w1).mono ?_
      rintro e w2 ⟨cc, rfl, hn⟩
      obtain ⟨B, F, ⟨rfl, hlim⟩, hh⟩ := newChip_lim (Below.refl _ _) hn
      have hcl := cl_new hh hlim
      clear hn hh
      have hop := open11_any hcl len hl1 (by omega) (fun _ _ => rfl)
      clear hcl
      go_wp2_with fail
      refine hop.mono ?_
      rintro e w3 ⟨d, s, g, st, nu, ⟨_, hl⟩, rfl, h3, _⟩
      have HF : Hid (FewAt w1 G B D len 0 0 s w3) := ⟨F, _, _, _, d, g, st, nu, h3, hl, ⟨fun _ => rfl, fun _ => rfl, rfl, fun _ _ => rfl⟩, ⟨fun j hj => by omega, fun _ _ => rfl⟩⟩
      clear hop h3 hlim hl
      go_wp2_with fail
      go_loopw [9, 10] (fun sv i wr => ∃ m s : Nat, m ≤ T ∧ sv = .pointer (some ⟨s, 0, none⟩) ∧ i = .int .i64 (m : Int) ∧ Hid (FewAt w1 G B D len 0 (m * 48000) s wr)) (fun _ i _ => T - (RowKit.intOf i).toNat)
      case atStart => exact ⟨0, s, by omega, rfl, rfl, HF⟩
      case round =>
        clear HF
        obtain ⟨m, s, hmT, rfl, rfl, HF⟩ := hrel
        by_cases hmlt : m < T
        · have hmlt' : (m : Int) < (T : Int) := by omega
          have HF0 : Hid (FewAt w1 G B D len 0 (m * 48000 + 0 * 4000) s wr) := by rw [Nat.zero_mul]; exact HF
          obtain ⟨wo, hwo⟩ : ∃ y, y = wr := ⟨_, rfl⟩
          subst hwo
          clear HF
          go_wp2_with fail
          go_loopw [11] (fun i wr => ∃ k : Nat, k ≤ len ∧ i = .int .i64 (k : Int) ∧ Hid (FewAt w1 G B D len k (m * 48000 + k * 4000) s wr)) (fun i _ => len - (RowKit.intOf i).toNat)
          case atStart => exact ⟨0, by omega, rfl, HF0⟩
          case round =>
            clear HF0
            obtain ⟨k, hk, rfl, HK⟩ := hrel
            have QW : Hid (Below w1.heap.size w1 wr) := HK.out.bel
            by_cases hlt : k < len
            · have hlt' : (k : Int) < (len : Int) := by omega
              have ck : ∀ w', Below wr.heap.size wr w' → w'.cell? ⟨rb, off + k, none⟩ = some (.string (strOfNums (D k))) := fun w' q => by
                rw [(btrans QW.out q).cell (p := ⟨rb, off + k, none⟩) hrb1]; exact HC1.out k hlt
              have hsz := strOfNums_size (D k)
              have hzk := HZ k
              unfold maxLen at hzk
              have hbk := HB k
              have HCH := fun hC w' a cap hr q hn => HK.out.change hlt hlb hb12 (by omega) hC hbk (w' := w') a cap hr q hn
              generalize D k = X at *
              go_wp2_with fail
              refine held_begin (by kernel_rfl) ?_
              refine held_reads (rs := [0, 1, 2, 3, 4, 5]) (fuel := 2) (by kernel_rfl) (fun c d v a w h => by cases d <;> exact h) (by kernel_rfl) (Since.drew _) (fun K hK => ?_)
              refine calm_move _ rfl (by rfl) rfl ?_
              go_simp
              refine calm_move _ rfl (by rfl) rfl ?_
              go_simp
              refine calm_do (.pointer (some ⟨rb, off + k, none⟩)) rfl (by rfl) (fun w' hw' => ?_) ?_
              · go_simp
              go_simp
              refine calm_do (.string (strOfNums X)) rfl (by rfl) (fun w' hw' => ?_) ?_
              · have c := ck w' hw'
                go_simp
              go_simp
              refine calm_do (.int .i64 (X.length : Nat)) rfl (by rfl) (fun w' hw' => ?_) ?_
              · go_simp
              go_simp
              refine calm_do (.agg #[.int .i64 G.b, .int .i64 G.p, .int .i64 ((G.s : Nat)), .int .i64 ((G.n : Nat)), .int .i64 ((G.f : Nat))]) rfl (by rfl) (fun w' hw' => ?_) ?_
              · obtain ⟨_, c0, c1, c2, c3, c4⟩ := hgb.below (btrans QW.out hw') (Nat.le_refl _)
                go_simp
              go_simp
              refine calm_nil (hK.out _ ?_)
              clear hK K
              refine held_call (i := 6) (fuel := 1) (by kernel_rfl) rfl (by rfl) (fun K hK => ?_)
              go_simp
              refine (refCap9_any G.gmay wr.drew).mono ?_
              rintro e w4 ⟨rfl, qq0⟩
              have q4 : Since wr w4 := Since.trans (Since.drew _) qq0
              refine hK _ _ q4 ?_
              clear hK K qq0
              refine held_reads (rs := [7]) (fuel := 0) (by kernel_rfl) (fun c d v a w h => by cases d <;> exact h) (by kernel_rfl) (Since.refl _) (fun K hK => ?_)
              go_simp
              refine calm_do (.bool (decide ((G.C : Int) < (X.length : Int)))) rfl (by rfl) (fun w' hw' => ?_) ?_
              · go_simp
              go_simp
              refine calm_nil (hK.out _ ?_)
              clear hK K
              refine wpAnyH_done (by kernel_rfl) ?_ _
              have HQ4 : Hid (Below w.heap.size w w4) := btrans Q1.out (btrans QW.out q4)
              by_cases hC : X.length ≤ G.C
              · have hC' : ¬ (G.C : Int) < (X.length : Int) := by omega
                have c4 := ck w4 q4
                have kc := Lib.run_convert_string_bytes (P := Tryz.prog) w4 9 43 5 (strOfNums X) Tryz.underlying9 Tryz.underlying43 Tryz.underlying5
                have hch := HCH hC _ _ _ (bytes_row w4 5 X hbk (by unfold maxLen; omega)) (btrans q4 (bytes_below w4 5 (strOfNums X))) (fun q hq => by cases hq; exact q4.size)
                rw [hsz] at kc hch
                generalize grownCap w4 X.length 0 5 = gc at *
                generalize Lib.bytesWorld w4 5 (strOfNums X) = w5 at *
                generalize w4.heap.size = bw at *
                go_wp2_with fail
                refine hch.mono ?_
                rintro e w6 ⟨rfl, h6⟩
                have H6 : Hid (FewAt w1 G B D len (k + 1) (m * 48000 + (k + 1) * 4000) s w6) := by rw [show m * 48000 + (k + 1) * 4000 = m * 48000 + k * 4000 + 4000 by omega]; exact h6
                clear hch kc c4 HCH ck h6
                go_wp2_with fail
                go_roundw
                case rel => exact ⟨k + 1, by omega, by go_num, H6⟩
                case measure => simp [RowKit.intOf]; omega
              · have hC' : (G.C : Int) < (X.length : Int) := by omega
                go_wp2_with fail
                go_ret
                exact ⟨rfl, HQ4.out⟩
            · obtain rfl : k = len := by omega
              have hge : ¬ (k : Int) < (k : Int) := by omega
              have HK2 : Hid (FewAt w1 G B D k k ((m + 1) * 48000) s wr) := HK.out.mono (by omega)
              obtain ⟨wo2, hwo⟩ : ∃ y, y = wr := ⟨_, rfl⟩
              subst hwo
              clear HK
              go_wp2_with fail
              go_loopw [9, 12] (fun sv i wr => ∃ j s : Nat, j ≤ 2 ∧ sv = .pointer (some ⟨s, 0, none⟩) ∧ i = .int .i64 (j : Int) ∧ Hid (FewAt w1 G B D k k ((m + 1) * 48000) s wr)) (fun _ i _ => 2 - (RowKit.intOf i).toNat)
              case atStart => exact ⟨0, s, by omega, rfl, rfl, HK2⟩
              case round =>
                clear HK2
                obtain ⟨j, s, hj2, rfl, rfl, HJ⟩ := hrel
                by_cases hj : j < 2
                · have hj' : (j : Int) < 2 := by omega
                  have hop := HJ.out.opened hl1 (by omega)
                  go_wp2_with fail
                  refine hop.mono ?_
                  rintro e w4 ⟨s4, rfl, h4⟩
                  have H4 : Hid _ := h4
                  clear hop HJ h4
                  go_wp2_with fail
                  go_loopw [13] (fun i wr => ∃ i' : Nat, i' ≤ k ∧ i = .int .i64 (i' : Int) ∧ Hid (FewAt w1 G B D k k ((m + 1) * 48000) s4 wr)) (fun i _ => k - (RowKit.intOf i).toNat)
                  case atStart => exact ⟨0, by omega, rfl, H4⟩
                  case round =>
                    clear H4
                    obtain ⟨i, hi, rfl, HI⟩ := hrel
                    by_cases hik : i < k
                    · have hik' : (i : Int) < (k : Int) := by omega
                      have hrd := HI.out.read i hik (Nat.le_refl _)
                      have HQ1 : Hid (Below w1.heap.size w1 wr) := HI.out.bel
                      go_wp2_with fail
                      refine hrd.mono ?_
                      rintro e w5 ⟨ra, rc, rfl, rw5, q5⟩
                      have c5 := HC1.out i hik
                      rw [← (btrans HQ1.out q5).cell (p := ⟨rb, off + i, none⟩) hrb1] at c5
                      have hrb5 : rb < w5.heap.size := by have := (btrans HQ1.out q5).size; omega
                      have HI5 : Hid (FewAt w1 G B D k k ((m + 1) * 48000) s4 w5.drew) := (HI.out.below q5).below ((Below.refl _ _).drew)
                      clear hrd HI
                      generalize D i = X at *
                      go_wp2_with fail
                      refine held_begin (by kernel_rfl) ?_
                      refine held_reads (rs := [0, 1, 2, 3, 4, 5, 6, 7, 8, 9, 10, 11, 12, 13, 14]) (fuel := 0) (by kernel_rfl) (fun c d v a w h => by cases d <;> exact h) (by kernel_rfl) (Since.drew _) (fun K hK => ?_)
                      refine calm_move _ rfl (by rfl) rfl ?_
                      go_simp
                      refine calm_do (.bool false) rfl (by rfl) (fun w' hw' => ?_) ?_
                      · go_simp
                      go_simp
                      refine calm_move _ rfl (by rfl) rfl ?_
                      go_simp
                      refine calm_move _ rfl (by rfl) rfl ?_
                      go_simp
                      refine calm_do (Value.string (strOfNums X)) rfl (by rfl) (fun w' hw' => ?_) ?_
                      · have kz := conv_row (P := Tryz.prog) Tryz.underlying43 Tryz.underlying5 Tryz.underlying9 (rw5.below hw' (Nat.le_refl _))
                        go_simp
                      go_simp
                      refine calm_move _ rfl (by rfl) rfl ?_
                      go_simp
                      refine calm_move _ rfl (by rfl) rfl ?_
                      go_simp
                      refine calm_do (.pointer (some ⟨rb, off + i, none⟩)) rfl (by rfl) (fun w' hw' => ?_) ?_
                      · go_simp
                      go_simp
                      refine calm_do (Value.string (strOfNums X)) rfl (by rfl) (fun w' hw' => ?_) ?_
                      · have cz := (show w'.cell? ⟨rb, off + i, none⟩ = _ from (hw'.cell (p := ⟨rb, off + i, none⟩) hrb5).trans c5)
                        go_simp
                      go_simp
                      refine calm_do (.bool false) rfl (by rfl) (fun w' hw' => ?_) ?_
                      · go_simp
                      go_simp
                      refine calm_do (.bool false) rfl (by rfl) (fun w' hw' => ?_) ?_
                      · go_simp
                      go_simp
                      refine calm_move _ rfl (by rfl) rfl ?_
                      go_simp
                      refine calm_move _ rfl (by rfl) rfl ?_
                      go_simp
                      refine calm_do (.bool false) rfl (by rfl) (fun w' hw' => ?_) ?_
                      · go_simp
                      go_simp
                      refine calm_do (.bool false) rfl (by rfl) (fun w' hw' => ?_) ?_
                      · go_simp
                      go_simp
                      refine calm_nil (hK.out _ ?_)
                      clear hK K
                      refine wpAnyH_done (by kernel_rfl) ?_ _
                      clear c5 rw5
                      generalize w5.drew = w6 at *
                      go_wp2_with fail
                      go_roundw
                      case rel => exact ⟨i + 1, by omega, by go_num, HI5⟩
                      case measure => simp [RowKit.intOf]; omega
                    · obtain rfl : i = k := by omega
                      have hge2 : ¬ (i : Int) < (i : Int) := by omega
                      go_wp2_with fail
                      go_roundw
                      case rel => exact ⟨j + 1, s4, by omega, rfl, by go_num, HI⟩
                      case measure => simp [RowKit.intOf]; omega
                · obtain rfl : j = 2 := by omega
                  have HJ0 : Hid (FewAt w1 G B D k 0 ((m + 1) * 48000) s wr) := HJ.out.less (by omega)
                  go_wp2_with fail
                  go_roundw
                  case rel => exact ⟨m + 1, s, by omega, rfl, by go_num, HJ0⟩
                  case measure => simp [RowKit.intOf]; omega
        · obtain rfl : m = T := by omega
          have hge2 : ¬ (m : Int) < (m : Int) := by omega
          have HQ : Hid (Below w.heap.size w wr) := btrans Q1.out HF.out.bel
          go_wp2_with fail
          refine (awake11_any _).mono ?_
          rintro e w5 ⟨rfl, q5⟩
          go_wp2_with fail
          go_ret
          exact ⟨rfl, btrans HQ.out q5⟩
    · go_enter Tryz.func7, Tryz.ntmps7
      go_wp2_with fail
      refine (small11_any _ _ _ _ _ _).mono ?_
      rintro e w1 ⟨rfl, q1⟩
      rw [hs]
      obtain ⟨_, c0, c1, c2, c3, c4⟩ := (gbox_new w 23 G.b G.p G.s G.n G.f).below q1 (Nat.le_refl _)
      have Q1 : Hid (Below w.heap.size w w1) := btrans (below_one _ _) q1
      clear q1
      go_wp2_with fail
      all_goals first | (exfalso; omega) | (go_ret; exact ⟨rfl, Q1.out⟩)
end Go.Proofs.YtbafkakhhelcmaaGreat
