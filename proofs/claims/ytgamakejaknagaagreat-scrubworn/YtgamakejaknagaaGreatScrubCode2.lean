/-
  The code of layer 12 (scrub), as it landed: All.
-/
import Derived.Test.YtgamakejaknagaaGreatScrubCode
import Derived.Defers
namespace Go.Proofs.YtgamakejaknagaaGreat
open Go.RowKit Go.Maps
set_option linter.unusedVariables false
set_option maxRecDepth 8192

theorem allEnd_any (b6 b7 b4 : Nat) (a : Option Addr) (len cap k : Nat) (v4 : Value) (u : FrameMode) (w : World) (h6 : w.cell? ⟨b6, 0, none⟩ = some (.slice a len cap)) (h7 : w.cell? ⟨b7, 0, none⟩ = some (.int .i64 (k : Int))) (h4 : w.cell? ⟨b4, 0, none⟩ = some v4) (z4 : w.frozen? ⟨b4, 0, none⟩ = false) (hk : k ≤ len) (hlc : len ≤ cap) (hcm : cap ≤ maxLen) :
    CallsD Tryz.prog 33 #[.pointer (some ⟨b6, 0, none⟩), .pointer (some ⟨b7, 0, none⟩), .pointer (some ⟨b4, 0, none⟩)] u w fun e u' w' => u' = u ∧ (e = .returned (.tuple #[]) ∧ w' = w.setCell ⟨b4, 0, none⟩ (.slice a k cap)) := by
  unfold maxLen at hcm
  have hkc : k ≤ cap := by omega
  go_enter_d Tryz.func33, Tryz.ntmps33
  go_wp2
  go_end0
  first | exact ⟨rfl, rfl⟩ | simp
section
variable {W w w' w1 : World} {G : Geo} {B : CB} {F F' : Nat → Prop} {N N' : Nat} {S S' S1 : CS} {K K' : Int → BK} {M M' : Int → Option (List Int)} {c : Int} {d s g : Nat} {st st' st1 : List Int} {nu nu' : Int}
/-- What All leaves, where no block is marked or weak: all that were worn are moved; or the power went. -/
inductive AllIs (W : World) (G : Geo) (B : CB) (F : Nat → Prop) (N : Nat) (S : CS) (M : Int → Option (List Int)) (c : Int) (d s g : Nat) (st : List Int) (L : List Int) (w : World) (r : Int) (a : Option Addr) (k cap : Nat) (w' : World) : Prop
  | ok (F1 : Nat → Prop) (S1 : CS) (K1 : Int → BK) (st1 : List Int) (nu1 : Int) (hr : r = 0) (row : Row .i64 w' a k cap L) (hl : LS W G B F1 (N + 50000) S1 K1 M (c + 70) d s g st1 nu1 w') (mv : MvI G S st M L S1 st1) (q : SDoes F s g w F1 w')
  | down (F1 : Nat → Prop) (S1 : CS) (K1 : Int → BK) (hr : r = 70) (hl : CL W G B F1 (N + 50000) S1 K1 M (c + 70) w') (hw : Well S1) (db : DBox w' d B.c) (fd : ¬ F1 d) (hah : S.ah ≠ 0)
/-- What All's loop keeps. -/
structure AllI (W : World) (G : Geo) (B : CB) (F : Nat → Prop) (N : Nat) (S : CS) (M : Int → Option (List Int)) (c : Int) (d s g : Nat) (st L : List Int) (a : Option Addr) (n cap b4 b6 b7 : Nat) (w : World) (k : Nat) (w' : World) : Prop where
  ex : ∃ F1 S1 K1 st1 nu1, (LS W G B F1 (N + 4000 * k) S1 K1 M (c + k) d s g st1 nu1 w' ∧ MvI G S st M (L.take k) S1 st1 ∧ SDoes F s g w F1 w') ∧ OffS F1 s g .i64 w' a n cap L ∧ (∃ v, Box1 W F1 d s g b4 32 v w') ∧ Box1 W F1 d s g b6 32 (.slice a n cap) w' ∧ Box1 W F1 d s g b7 3 (.int .i64 (k : Int)) w'
  apart : (b4 ≠ b6 ∧ b4 ≠ b7 ∧ b6 ≠ b7) ∧ (0 < n → ∀ q : Addr, a = some q → q.block ≠ b4 ∧ q.block ≠ b6 ∧ q.block ≠ b7)
theorem SDoes.put {b : Nat} (h : SDoes F s g w F' w') (hb : w.heap.size ≤ b) (u : Value) : SDoes F s g w F' (w'.setCell ⟨b, 0, none⟩ u) := ⟨h.tn.setCell (.inr hb) u, h.nw⟩
variable {L : List Int} {a : Option Addr} {n cap b4 b6 b7 k : Nat}
theorem AllI.c4 (h : AllI W G B F N S M c d s g st L a n cap b4 b6 b7 w k w') : ∃ v, w'.cell? ⟨b4, 0, none⟩ = some v ∧ w'.frozen? ⟨b4, 0, none⟩ = false := by
  obtain ⟨F1, S1, K1, st1, nu1, _, _, ⟨v, h4⟩, _⟩ := h.ex
  exact ⟨v, h4.cell, h4.soft⟩
theorem AllI.c6 (h : AllI W G B F N S M c d s g st L a n cap b4 b6 b7 w k w') : w'.cell? ⟨b6, 0, none⟩ = some (.slice a n cap) := by
  obtain ⟨F1, S1, K1, st1, nu1, _, _, _, h6, _⟩ := h.ex
  exact h6.cell
theorem AllI.c7 (h : AllI W G B F N S M c d s g st L a n cap b4 b6 b7 w k w') : w'.cell? ⟨b7, 0, none⟩ = some (.int .i64 (k : Int)) ∧ w'.frozen? ⟨b7, 0, none⟩ = false := by
  obtain ⟨F1, S1, K1, st1, nu1, _, _, _, _, h7⟩ := h.ex
  exact ⟨h7.cell, h7.soft⟩
theorem AllI.row (h : AllI W G B F N S M c d s g st L a n cap b4 b6 b7 w k w') : Row .i64 w' a n cap L := by
  obtain ⟨F1, S1, K1, st1, nu1, _, ho, _⟩ := h.ex
  exact ho.row
/-- One is moved; or the power went. -/
inductive MovIs (W : World) (G : Geo) (B : CB) (F : Nat → Prop) (N : Nat) (S : CS) (M : Int → Option (List Int)) (c : Int) (d s g : Nat) (st L : List Int) (a : Option Addr) (n cap b4 b6 b7 : Nat) (w : World) (k : Nat) (r : Int) (w' : World) : Prop
  | ok (hr : r = 0) (h : AllI W G B F N S M c d s g st L a n cap b4 b6 b7 w (k + 1) (w'.setCell ⟨b7, 0, none⟩ (.int .i64 ((k + 1 : Nat) : Int)))) (c7 : w'.cell? ⟨b7, 0, none⟩ = some (.int .i64 (k : Int)) ∧ w'.frozen? ⟨b7, 0, none⟩ = false)
  | down (hr : r = 70) (h6 : w'.cell? ⟨b6, 0, none⟩ = some (.slice a n cap)) (h7 : w'.cell? ⟨b7, 0, none⟩ = some (.int .i64 (k : Int))) (h4 : ∃ v, w'.cell? ⟨b4, 0, none⟩ = some v ∧ w'.frozen? ⟨b4, 0, none⟩ = false) (hd : ∀ v u : Value, AllIs W G B F N S M c d s g st L w 70 a k cap ((w'.setCell ⟨b4, 0, none⟩ v).setCell ⟨b4, 0, none⟩ u))
theorem AllI.move {C : Nat → Bool} (h : AllI W G B F N S M c d s g st L a n cap b4 b6 b7 w k w') (hk : k < n) (hL : L = wornTo C st.length) (hC : ∀ j : Nat, C j = true → (M j).isSome = true) (hlb : (st.length : Int) < G.b) (hb12 : G.b ≤ 12) (hN : N + 60000 < 100000000) (hc : c + 70 ≤ 1000000000) (hb7 : w.heap.size ≤ b7) (hn : n ≤ 12) :
    ∃ j : Nat, L[k]?.getD 0 = (j : Int) ∧ Calls Tryz.prog 21 #[.pointer (some ⟨s, 0, none⟩), .int .i64 (j : Int)] w' fun e w2 => ∃ r, e = .returned (.int .i64 r) ∧ MovIs W G B F N S M c d s g st L a n cap b4 b6 b7 w k r w2 := by
  obtain ⟨⟨F1, S1, K1, st1, nu1, ⟨hl, mv, q⟩, ho, ⟨v4, h4⟩, h6, h7⟩, ⟨a46, a47, a67⟩, aa⟩ := h
  have hnl := ho.row.hlen
  obtain ⟨j, hje, hjl, hCj⟩ := mem_wornTo.1 (by rw [← hL]; exact mem_getD L k (by omega))
  obtain ⟨D, hD⟩ := Option.isSome_iff_exists.1 (hC j hCj)
  have hj1 : j < st1.length := by rw [mv.len]; exact hjl
  refine ⟨j, hje, (move_any hl j hj1 hD (by omega) (by omega)).mono ?_⟩
  rintro e w2 ⟨r, rfl, hDC, hch⟩
  refine ⟨r, rfl, ?_⟩
  obtain ⟨y, hy, hys⟩ := free_of st1 G.b (by rw [mv.len]; exact hlb)
  have hub : updM M (j : Int) (some D) = M := updM_self hD
  cases hch with
  | ok F2 S2 K2 st2 nu2 hr hl2 hst q2 wk ah cl mono only wrs new =>
    rw [hub] at hl2
    have b4' := h4.step q2
    have b6' := h6.step q2
    have b7' := h7.step q2
    have o2 := ho.step q2
    have hl3 := hl2.mono (N' := N + 4000 * (k + 1)) (by omega) (c' := c + ((k + 1 : Nat) : Int)) (by omega)
    refine .ok hr ⟨⟨F2, S2, K2, st2, nu2, ⟨b7'.ls hl3 _, ?_, (q.trans q2).put hb7 _⟩, b7'.off o2 (fun h0 x hx => (aa h0 x hx).2.2) _, ⟨v4, b4'.far a47 _⟩, b6'.far a67 _, b7'.put _⟩, ⟨a46, a47, a67⟩, aa⟩ ⟨b7'.cell, b7'.soft⟩
    rw [take_snocB L k (by omega), hje]
    exact mv.step hD hDC hjl wk ah only wrs new
  | full F2 S2 K2 nu2 hr hl2 q2 wk ah cl mono only all =>
    rcases only y (all y hy.1 hy.2 hys) with e | e
    · rw [mv.well.bd] at e; cases e
    · rw [mv.well.wk] at e; cases e
  | down F2 S2 K2 M2 nu2 hr hl2 hm hs q2 hah wk only =>
    have hM2 : M2 = M := by rcases hm with e | e; exact e; rw [e]; exact hub
    subst hM2
    have b4' := h4.step q2
    have b6' := h6.step q2
    have b7' := h7.step q2
    refine .down hr b6'.cell b7'.cell ⟨v4, b4'.cell, b4'.soft⟩ fun v u => ?_
    have hcl : CL W G B F2 (N + 50000) S2 K2 M2 (c + 70) w2 := ⟨hl2.chip.mono (by omega), hl2.lim, hl2.inv, hl2.hold, fun y y0 y1 => by have := hl2.le y y0 y1; omega, by have := hl2.nn; omega, hl2.low, hl2.bel⟩
    exact .down F2 S2 K2 rfl ((b4'.put v).cl (b4'.cl hcl v) u) (mv.well.next wk only) ((b4'.put v).db (b4'.db hs.db v) u) hs.fd (fun e => hah (mv.ah e))
theorem AllI.done (h : AllI W G B F N S M c d s g st L a n cap b4 b6 b7 w n w') (hb4 : w.heap.size ≤ b4) (hn : n ≤ 12) (v u : Value) : AllIs W G B F N S M c d s g st L w 0 a n cap ((w'.setCell ⟨b4, 0, none⟩ v).setCell ⟨b4, 0, none⟩ u) := by
  obtain ⟨⟨F1, S1, K1, st1, nu1, ⟨hl, mv, q⟩, ho, ⟨v4, h4⟩, h6, h7⟩, ⟨a46, a47, a67⟩, aa⟩ := h
  have hnl := ho.row.hlen
  rw [List.take_of_length_le (by omega)] at mv
  have hl2 := hl.mono (N' := N + 50000) (by omega) (c' := c + 70) (by omega)
  exact .ok F1 S1 K1 st1 nu1 rfl (((h4.put v).off (h4.off ho (fun h0 x hx => (aa h0 x hx).1) v) (fun h0 x hx => (aa h0 x hx).1) u).row) ((h4.put v).ls (h4.ls hl2 v) u) mv ((q.put hb4 v).put hb4 u)
set_option maxHeartbeats 1600000 in
theorem all_well (h : LS W G B F N S K M c d s g st nu w) (t : Int) (ht : 1 ≤ t) (hw : Well S) (hlb : (st.length : Int) < G.b) (hb12 : G.b ≤ 12) (hN : N + 60000 < 100000000) (hc : c + 70 ≤ 1000000000) :
    Calls Tryz.prog 16 #[.pointer (some ⟨s, 0, none⟩), .int .i64 t] w fun e w' => ∃ r a k cap, e = .returned (.tuple #[.slice a k cap, .int .i64 r]) ∧ AllIs W G B F N S M c d s g st (wornTo (wornB G S st M t) st.length) w r a k cap w' := by
  have hmf : ∀ (fn : Fn) (first cap : Array Value) (w : World), (Instr.makeFunc fn first cap).run Tryz.prog w = .ok (.func fn first cap) w := fun _ _ _ _ => rfl
  have q0 := below_one w (.cells #[.slice none 0 0] 32)
  have h0 := h.below q0
  have B4 := Box1.new h 32 (.slice none 0 0)
  have hwn := worn_any h0 t ht
  have hwl := wornTo_len (wornB G S st M t) st.length
  obtain ⟨L, hL⟩ : ∃ L, L = wornTo (wornB G S st M t) st.length := ⟨_, rfl⟩
  have HL : Hid (L = wornTo (wornB G S st M t) st.length) := hL
  rw [← hL] at hwn hwl ⊢
  clear hL
  have HC : Hid (∀ j : Nat, wornB G S st M t j = true → (M j).isSome = true) := fun j hj => by unfold wornB at hj; rw [Bool.and_eq_true] at hj; exact hj.1
  generalize hnn : L.length = n at *
  have HNN : Hid (L.length = n) := hnn
  clear hnn
  have H0 : Hid _ := h0
  have HB4 : Hid _ := B4
  have HW0 : Hid (Below w.heap.size w (w.alloc (.cells #[.slice none 0 0] 32))) := q0
  have HWL : Hid (Well S) := hw
  clear h h0 q0 B4 hw
  have hn12 : n ≤ 12 := by omega
  go_enter_defers Tryz.func16, Tryz.ntmps16
  go_wp2_with fail
  refine hwn.mono ?_
  rintro e w1 ⟨v, rfl, own, q1⟩
  clear hwn
  obtain ⟨a, cap, rfl, r1⟩ := row_of_owns own
  have hrc := r1.hcap
  have hrm := r1.hmax
  have hls1 := LS.below H0.out q1
  have BX4 := Box1.below HB4.out q1
  have hn1 : 0 < n → ∀ q : Addr, a = some q → w.heap.size < q.block ∧ q.block < w1.heap.size := fun h0 q hq => by
    obtain ⟨g', hg1, hg2⟩ := owns_head own h0
    have hlt := r1.blk_lt h0 q hq
    rw [hg2] at hq
    cases hq
    simp only [World.size_alloc] at hg1
    exact ⟨by show w.heap.size < g'; omega, hlt⟩
  have ho1 : OffS F s g .i64 w1 a n cap L := LS.new H0.out r1 (fun h0 q hq => by have := (hn1 h0 q hq).1; simp only [World.size_alloc]; omega)
  have q2 := below_one w1 (.cells #[.slice a n cap] 32)
  have hls2 := hls1.below q2
  have B6 := Box1.new hls1 32 (.slice a n cap)
  have q3 := below_one (w1.alloc (.cells #[.slice a n cap] 32)) (.cells #[.int .i64 0] 3)
  have B7 := Box1.new hls2 3 (.int .i64 0)
  have s1 := (btrans HW0.out q1).size
  have s0 : w.heap.size < w1.heap.size := by have := q1.size; simp only [World.size_alloc] at this; omega
  have HI : Hid (AllI W G B F N S M c d s g st L a n cap w.heap.size w1.heap.size (w1.heap.size + 1) w 0 ((w1.alloc (.cells #[.slice a n cap] 32)).alloc (.cells #[.int .i64 0] 3))) := by
    refine ⟨⟨F, S, K, st, nu, ⟨?_, ?_, SDoes.of_below (btrans (btrans (btrans HW0.out q1) q2) q3)⟩, (ho1.step (SDoes.of_below q2)).step (SDoes.of_below q3), ⟨_, (BX4.below q2).below q3⟩, B6.below q3, ?_⟩, ⟨by omega, by omega, by omega⟩, fun h0 q hq => ?_⟩
    · exact (hls2.below q3).mono (by omega) (by omega)
    · rw [List.take_zero]; exact MvI.refl HWL.out
    · have := B7
      simp only [World.size_alloc] at this
      exact this
    · have := hn1 h0 q hq
      omega
  have HAP : Hid (w.heap.size ≠ w1.heap.size ∧ w.heap.size ≠ w1.heap.size + 1 ∧ w1.heap.size ≠ w1.heap.size + 1) := ⟨by omega, by omega, by omega⟩
  generalize hb4e : w.heap.size = b4 at HI HAP
  have HB4E : Hid (w.heap.size = b4) := hb4e
  generalize hb7e : w1.heap.size + 1 = b7 at HI HAP
  have HB7E : Hid (w.heap.size ≤ b7) := by show _ ≤ _; omega
  clear hls1 hls2 BX4 B6 B7 q1 q2 q3 ho1 own r1 hn1 HB4 H0 HW0 HWL
  go_wp2_with fail
  generalize (w1.alloc (.cells #[.slice a n cap] 32)).alloc (.cells #[.int .i64 0] 3) = w3 at *
  generalize w1.heap.size = b6 at *
  go_loopw [23] (fun i wr => ∃ k : Nat, k ≤ n ∧ i = .int .i64 (k : Int) ∧ Hid (AllI W G B F N S M c d s g st L a n cap b4 b6 b7 w k wr)) (fun i _ => n - (RowKit.intOf i).toNat)
  case atStart => exact ⟨0, by omega, rfl, HI⟩
  case round =>
    clear HI
    obtain ⟨k, hk, rfl, HK⟩ := hrel
    by_cases hlt : k < n
    · have hlt' : (k : Int) < (n : Int) := by omega
      obtain ⟨bb, off, rfl, _, hcc⟩ := HK.out.row.hcell (by omega)
      have ca := hcc k hlt
      obtain ⟨j, hje, hmv⟩ := HK.out.move hlt HL.out HC.out hlb hb12 hN hc HB7E.out hn12
      rw [hje] at ca
      clear hcc hje HK
      go_wp2_with fail
      refine hmv.mono ?_
      rintro e w2 ⟨r, rfl, hm⟩
      clear hmv
      cases hm with
      | ok hr h c7 =>
        subst hr
        have HK2 : Hid (AllI W G B F N S M c d s g st L (some ⟨bb, off, none⟩) n cap b4 b6 b7 w (k + 1) (w2.setCell ⟨b7, 0, none⟩ (.int .i64 ((k : Int) + 1)))) := by
          show AllI _ _ _ _ _ _ _ _ _ _ _ _ _ _ _ _ _ _ _ _ _ _
          rw [show (k : Int) + 1 = ((k + 1 : Nat) : Int) by omega]
          exact h
        obtain ⟨d7, f7⟩ := c7
        clear h ca
        go_wp2_with fail
        go_roundw
        case rel => exact ⟨k + 1, by omega, by go_num, HK2⟩
        case measure => simp [RowKit.intOf]; omega
      | down hr h6 h7 h4 hd =>
        subst hr
        obtain ⟨v4, d4, f4⟩ := h4
        have HD : Hid _ := hd
        have HC6 : Hid (w2.cell? ⟨b6, 0, none⟩ = _) := h6
        have HC7 : Hid (w2.cell? ⟨b7, 0, none⟩ = _) := h7
        clear hd ca h6 h7
        go_wp2_with fail
        refine leaves_cons (f := 33) (args := #[.pointer (some ⟨b6, 0, none⟩), .pointer (some ⟨b7, 0, none⟩), .pointer (some ⟨b4, 0, none⟩)]) (by simp) (by simp [go_sem]) ?_
        refine (allEnd_any b6 b7 b4 (some ⟨bb, off, none⟩) n cap k (.slice none 0 0) .returning _ (((turned_put w2 b4 _).cell (p := ⟨b6, 0, none⟩) (lt_of_cell HC6.out) (Ne.symm HAP.out.1)).trans HC6.out) (((turned_put w2 b4 _).cell (p := ⟨b7, 0, none⟩) (lt_of_cell HC7.out) (Ne.symm HAP.out.2.1)).trans HC7.out) (World.cell?_setCell_same _ _ _ d4) ((World.frozen?_setCell _ _ _ _).trans f4) hk hrc hrm).mono ?_
        rintro e u' w'' ⟨rfl, rfl, rfl⟩
        refine ⟨.tuple #[.slice (some ⟨bb, off, none⟩) k cap, .int .i64 70], ?_, 70, _, k, cap, rfl, HD.out _ _⟩
        simp [results, Tryz.results16, go_sem, d4]
    · obtain rfl : k = n := by omega
      have hge : ¬ (k : Int) < (k : Int) := by omega
      obtain ⟨v4, d4, f4⟩ := HK.out.c4
      have HC6 : Hid _ := HK.out.c6
      have HC7 : Hid _ := HK.out.c7.1
      have HD : Hid _ := HK.out.done (Nat.le_of_eq HB4E.out) hn12
      clear HK
      go_wp2_with fail
      refine leaves_cons (f := 33) (args := #[.pointer (some ⟨b6, 0, none⟩), .pointer (some ⟨b7, 0, none⟩), .pointer (some ⟨b4, 0, none⟩)]) (by simp) (by simp [go_sem]) ?_
      refine (allEnd_any b6 b7 b4 a k cap k (.slice none 0 0) .returning _ (((turned_put wr b4 _).cell (p := ⟨b6, 0, none⟩) (lt_of_cell HC6.out) (Ne.symm HAP.out.1)).trans HC6.out) (((turned_put wr b4 _).cell (p := ⟨b7, 0, none⟩) (lt_of_cell HC7.out) (Ne.symm HAP.out.2.1)).trans HC7.out) (World.cell?_setCell_same _ _ _ d4) ((World.frozen?_setCell _ _ _ _).trans f4) (Nat.le_refl _) hrc hrm).mono ?_
      rintro e u' w'' ⟨rfl, rfl, rfl⟩
      refine ⟨.tuple #[.slice a k cap, .int .i64 0], ?_, 0, _, k, cap, rfl, HD.out _ _⟩
      simp [results, Tryz.results16, go_sem, d4]
end
end Go.Proofs.YtgamakejaknagaaGreat
