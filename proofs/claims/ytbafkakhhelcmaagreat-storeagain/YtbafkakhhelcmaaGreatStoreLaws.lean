/-
  Layer 11's laws: the walk of StoreFew.
-/
import Derived.Test.YtbafkakhhelcmaaGreatStoreLaw2
namespace Go.Proofs.YtbafkakhhelcmaaGreat
open Go.RowKit Go.Maps
set_option linter.unusedVariables false
set_option maxRecDepth 8192

/-- The first k logical blocks have D's bytes; from len on there is none. -/
structure HasD (D : Nat → List Int) (len k : Nat) (M : Int → Option (List Int)) : Prop where
  has : ∀ j : Nat, j < k → M j = some (D j)
  none : ∀ i : Int, (len : Int) ≤ i → M i = none
theorem HasD.put {D : Nat → List Int} {len k : Nat} {M : Int → Option (List Int)} (h : HasD D len k M) (hk : k < len) : HasD D len (k + 1) (updM M k (some (D k))) := by
  refine ⟨fun j hj => ?_, fun i hi => ?_⟩
  · by_cases e : j = k
    · subst e; exact updM_at _ _ _
    · rw [updM_ne _ (by omega)]; exact h.has j (by omega)
  · rw [updM_ne _ (by omega)]; exact h.none i hi
/-- A store whose first k logical blocks have been changed. -/
def FewAt (W : World) (G : Geo) (B : CB) (D : Nat → List Int) (len k N : Nat) (s : Nat) (w : World) : Prop :=
  ∃ F S K M d g st nu, LS W G B F N S K M (N : Int) d s g st nu w ∧ st.length = len ∧ Calm S ∧ HasD D len k M
section
variable {W w w' : World} {G : Geo} {B : CB} {F F' : Nat → Prop} {N N' : Nat} {S S' : CS} {K K' : Int → BK} {M M' : Int → Option (List Int)} {c : Int} {d s g : Nat} {st st' : List Int} {nu nu' : Int} {D : Nat → List Int} {len k : Nat}
theorem LS.mono (h : LS W G B F N S K M c d s g st nu w) (hN : N ≤ N') {c' : Int} (hc : c ≤ c') : LS W G B F N' S K M c' d s g st nu w :=
  ⟨h.at_.mono hN, ⟨h.cl.chip.mono hN, h.cl.lim, h.cl.inv, h.cl.hold, fun y y0 y1 => by have := h.cl.le y y0 y1; omega, by have := h.cl.nn; omega, h.cl.low, h.cl.bel⟩, h.up, h.stok, h.num, by have := h.nu1; omega, h.rest, h.lows, h.lowg⟩
theorem FewAt.bel (h : FewAt W G B D len k N s w) : Below W.heap.size W w := by
  obtain ⟨F, S, K, M, d, g, st, nu, h, _⟩ := h
  exact h.bel
theorem FewAt.change (h : FewAt W G B D len k N s w) (hlt : k < len) (hlb : (len : Int) < G.b) (hb12 : G.b ≤ 12) (hN : N + 4400 < 1000000) (hC : (D k).length ≤ G.C) (hB : IsB (D k)) (a : Option Addr) (cap : Nat)
    (hr : Row .u8 w' a (D k).length cap (D k)) (q : Below w.heap.size w w') (hn : ∀ q : Addr, a = some q → w.heap.size ≤ q.block) :
    Calls Tryz.prog 19 #[.pointer (some ⟨s, 0, none⟩), .int .i64 (k : Int), .slice a (D k).length cap] w' fun e w2 => e = .returned (.int .i64 0) ∧ FewAt W G B D len (k + 1) (N + 4000) s w2 := by
  obtain ⟨F, S, K, M, d, g, st, nu, h, hl, hcm, hd⟩ := h
  have ho := h.new hr (fun _ => hn)
  refine ((h.below q).change k (by omega) (D k) a _ cap ho hB hC (by omega) (by omega)).mono ?_
  rintro e w2 ⟨r, rfl, hc⟩
  obtain ⟨rfl, F1, S1, K1, st1, nu1, h1, hst, hc1⟩ := chg_calm hc hcm (by omega)
  exact ⟨rfl, F1, S1, K1, _, d, g, st1, nu1, h1.mono (by omega) (by omega), by omega, hc1, hd.put hlt⟩
end
/-- A store that is read, of a chip whose logical blocks have D's bytes. -/
def ReadAt (W : World) (G : Geo) (B : CB) (D : Nat → List Int) (len L : Nat) (s : Nat) (w : World) : Prop :=
  ∃ F N S K M c d g st nu, LR W G B F N S K M c d s g st nu w ∧ st.length = L ∧ HasD D len len M
theorem ReadAt.bel {W w : World} {G : Geo} {B : CB} {D : Nat → List Int} {len L s : Nat} (h : ReadAt W G B D len L s w) : Below W.heap.size W w := by
  obtain ⟨F, N, S, K, M, c, d, g, st, nu, h, _⟩ := h
  exact h.cl.bel
theorem ReadAt.below {W w w' : World} {G : Geo} {B : CB} {D : Nat → List Int} {len L s : Nat} (h : ReadAt W G B D len L s w) (q : Below w.heap.size w w') : ReadAt W G B D len L s w' := by
  obtain ⟨F, N, S, K, M, c, d, g, st, nu, h, h1⟩ := h
  exact ⟨F, N, S, K, M, c, d, g, st, nu, h.below q, h1⟩
set_option maxHeartbeats 6400000 in
set_option maxRecDepth 100000 in
theorem walk_storeFew (b p s n f : Int) (a : Option Addr) (len cap : Nat) (D : Nat → List Int) (lebs : Int) (w : World) (hr : SRow w a len cap D) :
    Calls Tryz.prog 8 #[.agg #[.int .i64 b, .int .i64 p, .int .i64 s, .int .i64 n, .int .i64 f], .slice a len cap, .int .i64 lebs] w fun e w' => e = .returned (.bool true) ∧ Below w.heap.size w w' := by
  have hcp := hr.hcap
  have hm := hr.hmax
  unfold maxLen at hm
  cases hs : small11 b p s n f
  · go_enter Tryz.func8, Tryz.ntmps8
    go_wp2_with fail
    refine (small11_any b p s n f _).mono ?_
    rintro e w1 ⟨rfl, q1⟩
    rw [hs]
    go_wp2_with fail
    go_ret
    exact ⟨rfl, btrans (below_one _ _) q1⟩
  · obtain ⟨G, rfl, rfl, rfl, rfl, rfl, hb12, hp5, hR⟩ := geo11_ex hs
    by_cases hok : 1 ≤ len ∧ (len : Int) < G.b ∧ 1 ≤ lebs ∧ lebs ≤ 12
    · obtain ⟨hl1, hlb, hq1, hq2⟩ := hok
      obtain ⟨L, rfl⟩ := Int.eq_ofNat_of_zero_le (show 0 ≤ lebs by omega)
      obtain ⟨rb, off, rfl, hrb, hcell⟩ := hr.at_ (by omega)
      have HC : Hid (∀ i, i < len → w.cell? ⟨rb, off + i, none⟩ = some (.string (strOfNums (D i)))) := hcell
      have HB := hr.bs
      have HZ := hr.sz
      clear hcell hr
      go_enter Tryz.func8, Tryz.ntmps8
      go_wp2_with fail
      refine (small11_any _ _ _ _ _ _).mono ?_
      rintro e w1 ⟨rfl, q1⟩
      rw [hs]
      have hgb := (gbox_new w 23 G.b G.p G.s G.n G.f).below q1 (Nat.le_refl _)
      obtain ⟨_, c0, c1, c2, c3, c4⟩ := hgb
      have hgb := (gbox_new w 23 G.b G.p G.s G.n G.f).below q1 (Nat.le_refl _)
      have Q1 : Hid (Below w.heap.size w w1) := btrans (below_one _ _) q1
      have HC1 : Hid (∀ i, i < len → w1.cell? ⟨rb, off + i, none⟩ = some (.string (strOfNums (D i)))) := fun i hi => by
        rw [← HC.out i hi]; exact Q1.out.cell (p := ⟨rb, off + i, none⟩) hrb
      have hrb1 : rb < w1.heap.size := Nat.lt_of_lt_of_le hrb Q1.out.size
      clear q1 HC
      have hx1 : ¬ (len : Int) < 1 := by omega
      have hx2 : ¬ G.b ≤ (len : Int) := by omega
      have hx3 : ¬ (L : Int) < 1 := by omega
      have hx4 : ¬ (12 : Int) < (L : Int) := by omega
      go_wp2_with fail
      clear c0 c1 c2 c3 c4 hx1 hx2 hx3 hx4
      refine (chipNew_nil G w1).mono ?_
      rintro e w2 ⟨cc, rfl, hn⟩
      obtain ⟨B, F, ⟨rfl, hlim⟩, hh⟩ := newChip_lim (Below.refl _ _) hn
      have hcl := cl_new hh hlim
      clear hn hh
      have hop := open11_any hcl len hl1 (by omega) (fun _ _ => rfl)
      clear hcl
      go_wp2_with fail
      refine hop.mono ?_
      rintro e w3 ⟨d, s, g, st, nu, ⟨_, hl⟩, rfl, h3, _⟩
      have HF : Hid (FewAt w1 G B D len 0 0 s w3) := ⟨F, _, _, _, d, g, st, nu, h3, hl, ⟨fun _ => rfl, fun _ => rfl, rfl, fun _ _ => rfl⟩, ⟨fun j hj => by omega, fun _ _ => rfl⟩⟩
      clear hop h3 hlim hl
      go_wp2_with fail
      go_loopw [10] (fun i wr => ∃ k : Nat, k ≤ len ∧ i = .int .i64 (k : Int) ∧ Hid (FewAt w1 G B D len k (k * 4000) s wr)) (fun i _ => len - (RowKit.intOf i).toNat)
      case atStart => exact ⟨0, by omega, rfl, HF⟩
      case round =>
        obtain ⟨k, hk, rfl, HK⟩ := hrel
        have QW : Hid (Below w1.heap.size w1 wr) := HK.out.bel
        by_cases hlt : k < len
        · have hlt' : (k : Int) < (len : Int) := by omega
          have ck : ∀ w', Below wr.heap.size wr w' → w'.cell? ⟨rb, off + k, none⟩ = some (.string (strOfNums (D k))) := fun w' q => by
            rw [(btrans QW.out q).cell (p := ⟨rb, off + k, none⟩) hrb1]; exact HC1.out k hlt
          have hsz := strOfNums_size (D k)
          have hzk := HZ k
          unfold maxLen at hzk
          have hbk := HB k
          have HCH := fun hC w' a cap hr q hn => HK.out.change hlt hlb hb12 (by omega) hC hbk (w' := w') a cap hr q hn
          generalize D k = X at *
          go_wp2_with fail
          refine held_begin (by kernel_rfl) ?_
          refine held_reads (rs := [0, 1, 2, 3, 4, 5]) (fuel := 2) (by kernel_rfl) (fun c d v a w h => by cases d <;> exact h) (by kernel_rfl) (Since.drew _) (fun K hK => ?_)
          refine calm_move _ rfl (by rfl) rfl ?_
          go_simp
          refine calm_move _ rfl (by rfl) rfl ?_
          go_simp
          refine calm_do (.pointer (some ⟨rb, off + k, none⟩)) rfl (by rfl) (fun w' hw' => ?_) ?_
          · go_simp
          go_simp
          refine calm_do (.string (strOfNums X)) rfl (by rfl) (fun w' hw' => ?_) ?_
          · have c := ck w' hw'
            go_simp
          go_simp
          refine calm_do (.int .i64 (X.length : Nat)) rfl (by rfl) (fun w' hw' => ?_) ?_
          · go_simp
          go_simp
          refine calm_do (.agg #[.int .i64 G.b, .int .i64 G.p, .int .i64 ((G.s : Nat)), .int .i64 ((G.n : Nat)), .int .i64 ((G.f : Nat))]) rfl (by rfl) (fun w' hw' => ?_) ?_
          · obtain ⟨_, c0, c1, c2, c3, c4⟩ := hgb.below (btrans QW.out hw') (Nat.le_refl _)
            go_simp
          go_simp
          refine calm_nil (hK.out _ ?_)
          clear hK K
          refine held_call (i := 6) (fuel := 1) (by kernel_rfl) rfl (by rfl) (fun K hK => ?_)
          go_simp
          refine (refCap9_any G.gmay wr.drew).mono ?_
          rintro e w4 ⟨rfl, qq0⟩
          have q4 : Since wr w4 := Since.trans (Since.drew _) qq0
          refine hK _ _ q4 ?_
          clear hK K qq0
          refine held_reads (rs := [7]) (fuel := 0) (by kernel_rfl) (fun c d v a w h => by cases d <;> exact h) (by kernel_rfl) (Since.refl _) (fun K hK => ?_)
          go_simp
          refine calm_do (.bool (decide ((G.C : Int) < (X.length : Int)))) rfl (by rfl) (fun w' hw' => ?_) ?_
          · go_simp
          go_simp
          refine calm_nil (hK.out _ ?_)
          clear hK K
          refine wpAnyH_done (by kernel_rfl) ?_ _
          have HQ4 : Hid (Below w.heap.size w w4) := btrans Q1.out (btrans QW.out q4)
          by_cases hC : X.length ≤ G.C
          · have hC' : ¬ (G.C : Int) < (X.length : Int) := by omega
            have c4 := ck w4 q4
            have kc := Lib.run_convert_string_bytes (P := Tryz.prog) w4 9 43 5 (strOfNums X) Tryz.underlying9 Tryz.underlying43 Tryz.underlying5
            have hch := HCH hC _ _ _ (bytes_row w4 5 X hbk (by unfold maxLen; omega)) (btrans q4 (bytes_below w4 5 (strOfNums X))) (fun q hq => by cases hq; exact q4.size)
            rw [hsz] at kc hch
            generalize grownCap w4 X.length 0 5 = gc at *
            generalize Lib.bytesWorld w4 5 (strOfNums X) = w5 at *
            generalize w4.heap.size = bw at *
            go_wp2_with fail
            refine hch.mono ?_
            rintro e w6 ⟨rfl, h6⟩
            have H6 : Hid (FewAt w1 G B D len (k + 1) ((k + 1) * 4000) s w6) := by rw [show (k + 1) * 4000 = k * 4000 + 4000 by omega]; exact h6
            clear hch kc c4 HCH ck h6
            go_wp2_with fail
            go_roundw
            case rel => exact ⟨k + 1, by omega, by go_num, H6⟩
            case measure => simp [RowKit.intOf]; omega
          · have hC' : (G.C : Int) < (X.length : Int) := by omega
            go_wp2_with fail
            go_ret
            exact ⟨rfl, HQ4.out⟩
        · obtain rfl : k = len := by omega
          have hge : ¬ (k : Int) < (k : Int) := by omega
          obtain ⟨F, S, K, M, d, g, st, nu, h, hl, hcm, hd⟩ := HK.out
          have hop := open11_read h.cl L (by omega) (by omega)
          have HD : Hid (HasD D k k M) := hd
          clear h hd hcm
          go_wp2_with fail
          refine hop.mono ?_
          rintro e w4 ⟨d, s2, g2, st2, nu2, hl2, rfl, h4⟩
          have hle := stLebs_any w4 h4.at_.sb
          have HR : Hid (ReadAt w1 G B D k L s2 w4) := ⟨_, _, _, _, _, _, _, _, _, _, h4, hl2, HD.out⟩
          clear hop h4
          rw [hl2] at hle
          go_wp2_with fail
          refine hle.mono ?_
          rintro e w5 ⟨rfl, rfl⟩
          clear hle HK HF HD
          go_wp2_with fail
          go_loopw [12] (fun i wr => ∃ m : Nat, m ≤ L ∧ i = .int .i64 (m : Int) ∧ Hid (ReadAt w1 G B D k L s2 wr)) (fun i _ => L - (RowKit.intOf i).toNat)
          case atStart => exact ⟨0, by omega, rfl, HR⟩
          case round =>
            obtain ⟨m, hm, rfl, HM⟩ := hrel
            have HQ : Hid (Below w.heap.size w wr) := btrans Q1.out HM.out.bel
            by_cases hml : m < L
            · have hml' : (m : Int) < (L : Int) := by omega
              by_cases hmk : m < k
              · have hmk' : (m : Int) < (k : Int) := by omega
                obtain ⟨F, N, S, K, M, c, d, g, st, nu, h, hl, hd⟩ := HM.out
                have hrd := h.read_some m (by omega) (hd.has m hmk)
                have HQ1 : Hid (Below w1.heap.size w1 wr) := h.cl.bel
                clear h hd
                go_wp2_with fail
                refine hrd.mono ?_
                rintro e w5 ⟨ra, rc, rk, rfl, rw5, q5⟩
                have HR5 : Hid (ReadAt w1 G B D k L s2 w5) := HM.out.below q5
                have c5 := HC1.out m hmk
                rw [← (btrans HQ1.out q5).cell (p := ⟨rb, off + m, none⟩) hrb1] at c5
                have hrb5 : rb < w5.heap.size := by have := (btrans HQ1.out q5).size; omega
                have HQ5 : Hid (Below w.heap.size w w5.drew) := (btrans HQ.out q5).drew
                have HR6 : Hid (ReadAt w1 G B D k L s2 w5.drew) := HR5.out.below ((Below.refl _ _).drew)
                clear hrd HM HR5
                generalize D m = X at *
                go_wp2_with fail
                refine held_begin (by kernel_rfl) ?_
                refine held_reads (rs := [0, 1, 2, 3, 4, 5, 6, 7, 8, 9, 10, 11, 12, 13, 14, 15, 16, 17, 18, 19, 20, 21, 22, 23, 24, 25, 26]) (fuel := 0) (by kernel_rfl) (fun c d v a w h => by cases d <;> exact h) (by kernel_rfl) (Since.drew _) (fun K hK => ?_)
                refine calm_move _ rfl (by rfl) rfl ?_
                go_simp
                refine calm_move _ rfl (by rfl) rfl ?_
                go_simp
                refine calm_do (.int .i64 (k : Int)) rfl (by rfl) (fun w' hw' => ?_) ?_
                · go_simp
                go_simp
                refine calm_do (.bool true) rfl (by rfl) (fun w' hw' => ?_) ?_
                · go_simp
                go_simp
                refine calm_move _ rfl (by rfl) rfl ?_
                go_simp
                refine calm_move _ rfl (by rfl) rfl ?_
                go_simp
                refine calm_do (.bool false) rfl (by rfl) (fun w' hw' => ?_) ?_
                · go_simp
                go_simp
                refine calm_move _ rfl (by rfl) rfl ?_
                go_simp
                refine calm_move _ rfl (by rfl) rfl ?_
                go_simp
                refine calm_do (Value.string (strOfNums X)) rfl (by rfl) (fun w' hw' => ?_) ?_
                · have kz := conv_row (P := Tryz.prog) Tryz.underlying43 Tryz.underlying5 Tryz.underlying9 (rw5.below hw' (Nat.le_refl _))
                  go_simp
                go_simp
                refine calm_move _ rfl (by rfl) rfl ?_
                go_simp
                refine calm_move _ rfl (by rfl) rfl ?_
                go_simp
                refine calm_do (.pointer (some ⟨rb, off + m, none⟩)) rfl (by rfl) (fun w' hw' => ?_) ?_
                · go_simp
                go_simp
                refine calm_do (Value.string (strOfNums X)) rfl (by rfl) (fun w' hw' => ?_) ?_
                · have cz := (show w'.cell? ⟨rb, off + m, none⟩ = _ from (hw'.cell (p := ⟨rb, off + m, none⟩) hrb5).trans c5)
                  go_simp
                go_simp
                refine calm_do (.bool false) rfl (by rfl) (fun w' hw' => ?_) ?_
                · go_simp
                go_simp
                refine calm_do (.bool false) rfl (by rfl) (fun w' hw' => ?_) ?_
                · go_simp
                go_simp
                refine calm_do (.bool false) rfl (by rfl) (fun w' hw' => ?_) ?_
                · go_simp
                go_simp
                refine calm_move _ rfl (by rfl) rfl ?_
                go_simp
                refine calm_move _ rfl (by rfl) rfl ?_
                go_simp
                refine calm_move _ rfl (by rfl) rfl ?_
                go_simp
                refine calm_do (.int .i64 (k : Int)) rfl (by rfl) (fun w' hw' => ?_) ?_
                · go_simp
                go_simp
                refine calm_do (.bool false) rfl (by rfl) (fun w' hw' => ?_) ?_
                · go_simp
                go_simp
                refine calm_move _ rfl (by rfl) rfl ?_
                go_simp
                refine calm_skip rfl (by rfl) ?_
                go_simp
                refine calm_skip rfl (by rfl) ?_
                go_simp
                refine calm_do (.bool false) rfl (by rfl) (fun w' hw' => ?_) ?_
                · go_simp
                go_simp
                refine calm_do (.bool false) rfl (by rfl) (fun w' hw' => ?_) ?_
                · go_simp
                go_simp
                refine calm_nil (hK.out _ ?_)
                clear hK K
                refine wpAnyH_done (by kernel_rfl) ?_ _
                clear c5 rw5
                generalize w5.drew = w6 at *
                go_wp2_with fail
                go_roundw
                case rel => exact ⟨m + 1, by omega, by go_num, HR6⟩
                case measure => simp [RowKit.intOf]; omega
              · have hmk' : ¬ (m : Int) < (k : Int) := by omega
                have hge3 : (k : Int) ≤ (m : Int) := by omega
                obtain ⟨F, N, S, K, M, c, d, g, st, nu, h, hl, hd⟩ := HM.out
                have hrd := h.read_none m (by omega) (hd.none m (by omega))
                have HR6 : Hid (ReadAt w1 G B D k L s2 wr.drew) := HM.out.below ((Below.refl _ _).drew)
                clear h hd
                go_wp2_with fail
                refine hrd.mono ?_
                rintro e w5 ⟨rfl, rfl⟩
                clear hrd HM
                go_wp2_with fail
                refine held_begin (by kernel_rfl) ?_
                refine held_reads (rs := [0, 1, 2, 3, 4, 5, 6, 7, 8, 9, 10, 11, 12, 13, 14, 15, 16, 17, 18, 19, 20, 21, 22, 23, 24, 25, 26]) (fuel := 0) (by kernel_rfl) (fun c d v a w h => by cases d <;> exact h) (by kernel_rfl) (Since.drew _) (fun K hK => ?_)
                refine calm_move _ rfl (by rfl) rfl ?_
                go_simp
                refine calm_move _ rfl (by rfl) rfl ?_
                go_simp
                refine calm_do (.int .i64 (k : Int)) rfl (by rfl) (fun w' hw' => ?_) ?_
                · go_simp
                go_simp
                refine calm_do (.bool false) rfl (by rfl) (fun w' hw' => ?_) ?_
                · go_simp
                go_simp
                refine calm_move _ rfl (by rfl) rfl ?_
                go_simp
                refine calm_skip rfl (by rfl) ?_
                go_simp
                refine calm_skip rfl (by rfl) ?_
                go_simp
                refine calm_skip rfl (by rfl) ?_
                go_simp
                refine calm_skip rfl (by rfl) ?_
                go_simp
                refine calm_skip rfl (by rfl) ?_
                go_simp
                refine calm_skip rfl (by rfl) ?_
                go_simp
                refine calm_skip rfl (by rfl) ?_
                go_simp
                refine calm_skip rfl (by rfl) ?_
                go_simp
                refine calm_skip rfl (by rfl) ?_
                go_simp
                refine calm_skip rfl (by rfl) ?_
                go_simp
                refine calm_skip rfl (by rfl) ?_
                go_simp
                refine calm_do (.bool false) rfl (by rfl) (fun w' hw' => ?_) ?_
                · go_simp
                go_simp
                refine calm_move _ rfl (by rfl) rfl ?_
                go_simp
                refine calm_move _ rfl (by rfl) rfl ?_
                go_simp
                refine calm_move _ rfl (by rfl) rfl ?_
                go_simp
                refine calm_do (.int .i64 (k : Int)) rfl (by rfl) (fun w' hw' => ?_) ?_
                · go_simp
                go_simp
                refine calm_do (.bool true) rfl (by rfl) (fun w' hw' => ?_) ?_
                · go_simp
                go_simp
                refine calm_move _ rfl (by rfl) rfl ?_
                go_simp
                refine calm_move _ rfl (by rfl) rfl ?_
                go_simp
                refine calm_do (.bool false) rfl (by rfl) (fun w' hw' => ?_) ?_
                · go_simp
                go_simp
                refine calm_do (.bool false) rfl (by rfl) (fun w' hw' => ?_) ?_
                · go_simp
                go_simp
                refine calm_do (.bool false) rfl (by rfl) (fun w' hw' => ?_) ?_
                · go_simp
                go_simp
                refine calm_nil (hK.out _ ?_)
                clear hK K
                refine wpAnyH_done (by kernel_rfl) ?_ _
                generalize wr.drew = w6 at *
                go_wp2_with fail
                go_roundw
                case rel => exact ⟨m + 1, by omega, by go_num, HR6⟩
                case measure => simp [RowKit.intOf]; omega
            · obtain rfl : m = L := by omega
              have hge2 : ¬ (m : Int) < (m : Int) := by omega
              go_wp2_with fail
              refine (awake11_any _).mono ?_
              rintro e w5 ⟨rfl, q5⟩
              go_wp2_with fail
              go_ret
              exact ⟨rfl, btrans HQ.out q5⟩
    · go_enter Tryz.func8, Tryz.ntmps8
      go_wp2_with fail
      refine (small11_any _ _ _ _ _ _).mono ?_
      rintro e w1 ⟨rfl, q1⟩
      rw [hs]
      obtain ⟨_, c0, c1, c2, c3, c4⟩ := (gbox_new w 23 G.b G.p G.s G.n G.f).below q1 (Nat.le_refl _)
      have Q1 : Hid (Below w.heap.size w w1) := btrans (below_one _ _) q1
      clear q1
      go_wp2_with fail
      all_goals first | (exfalso; omega) | (go_ret; exact ⟨rfl, Q1.out⟩)
end Go.Proofs.YtbafkakhhelcmaaGreat
