/-
  The code of layer 11 (store), as it landed: Change, walked.
-/
import Derived.Test.YtbafkakhhelcmaaGreatStoreCode7
namespace Go.Proofs.YtbafkakhhelcmaaGreat
open Go.RowKit Go.Maps Go.Shelf
set_option linter.unusedVariables false
set_option maxRecDepth 8192
attribute [local go_sem] Oper.semAt_some

section
variable {G : Geo} {B : CB} {F F' : Nat → Prop} {N N' : Nat} {S S' : CS} {d s g : Nat} {st st' : List Int} {nu nu' : Int} {dn dn' : Bool} {w w' : World} {k : Nat}
theorem LAt.after (h : LAt G B k F N S d s g st nu dn w) (h' : StAt G B F' N' S' d s g st' nu' dn' w') (q : SDoes F s g w F' w') : ∃ F'', LAt G B k F'' N' S' d s g st' nu' dn' w' ∧ SDoes F s g w F'' w' ∧ KeepsFrom k w w' := by
  refine ⟨trimF F' k w', ⟨⟨h'.chip.trim h.lm h.all, h'.db, h'.sb, fun e => h'.fd e.1, fun e => h'.fs e.1, fun e => h'.fg e.1, h'.sd, h'.gd⟩, fun x hx => hx.2, h.all, h.lm⟩, ⟨q.tn, fun x hx => q.nw x hx.1⟩, q.tn.size, fun j o hj ho hc => ?_⟩
  rw [q.tn.block j (Array.getElem?_eq_some_iff.1 ho).1 (fun hf => ?_)]
  · exact ho
  · have hcl : CellsAt w j → False := fun ⟨o', h1, h2⟩ => by rw [ho] at h1; cases h1; rw [hc] at h2; cases h2
    rcases hf with hf | rfl | rfl
    · rcases h.tr j hf with h1 | h1
      · omega
      · exact hcl h1
    · exact hcl h.at_.sb.cells.1
    · exact hcl h.at_.sb.cells.2
/-- Change, behind the blocks pre. -/
structure ChgI (G : Geo) (B : CB) (F : Nat → Prop) (N : Nat) (S : CS) (K : Int → BK) (d s g : Nat) (st : List Int) (nu : Int) (j : Nat) (D : List Int) (a : Option Addr) (len cap : Nat) (w : World) (k : Nat) (pre : List (Sp G.b.toNat st)) (W : World) : Prop where
  ex : ∃ F1 S1, (LAt G B k F1 (N + 300 * pre.length) S1 d s g st nu false W ∧ CInv G S1 K ∧ Tried S S1 st (pre.map (fun c => ((c.1 : Nat) : Int)))) ∧ (∀ y, F1 y → F y ∨ k ≤ y) ∧ SDoes F s g w F1 W ∧ OffS F1 s g .u8 W a len cap D
  c0 : W.cell? ⟨w.heap.size, 0, none⟩ = some (.pointer (some ⟨s, 0, none⟩))
  c1 : W.cell? ⟨w.heap.size + 1, 0, none⟩ = some (.int .i64 (j : Int))
  c2 : W.cell? ⟨w.heap.size + 1 + 1, 0, none⟩ = some (.slice a len cap)
  c3 : W.cell? ⟨w.heap.size + 1 + 1 + 1, 0, none⟩ = some (.int .i64 0)
  f3 : W.frozen? ⟨w.heap.size + 1 + 1 + 1, 0, none⟩ = false
  sz : k ≤ W.heap.size
theorem ChgI.own {K : Int → BK} {j : Nat} {D : List Int} {a : Option Addr} {len cap : Nat} {w : World} {k : Nat} (hk : w.heap.size ≤ k) : OwnFrom k (ChgI G B F N S K d s g st nu j D a len cap w k) := by
  intro pre W W' row h hg hr
  have hr2 : ∀ r, row = some r → ∃ o : Obj, W.heap[r]? = some o ∧ o.isCells = false := fun r e => (hr r e).2
  obtain ⟨⟨F1, S1, ⟨h1, h2, h3⟩, h4, h5, h6⟩, c0, c1, c2, c3, f3, sz⟩ := h
  exact ⟨⟨F1, S1, ⟨h1.own hg hr, h2, h3⟩, h4, h5.own hg (fun r e => by have := (hr r e).1; omega), h6.own hg hr2⟩, cell_kept c0 hg hr2, cell_kept c1 hg hr2, cell_kept c2 hg hr2, cell_kept c3 hg hr2, (frozen_kept c3 hg hr2).trans f3, Nat.le_trans sz hg.size⟩
/-- Change, left at the last of pre. -/
structure ChgX (G : Geo) (B : CB) (F : Nat → Prop) (N : Nat) (S : CS) (K : Int → BK) (d s g : Nat) (st : List Int) (nu : Int) (j : Nat) (D : List Int) (w : World) (k : Nat) (c : Code) (pre : List (Sp G.b.toNat st)) (W : World) : Prop where
  ret : c = .ret
  ex : ∃ r F1 S1 K1 st1 nu1 dn1, (LAt G B k F1 (N + 300 * pre.length) S1 d s g st1 nu1 dn1 W ∧ ChgRes G S K st nu j D r S1 K1 st1 nu1 dn1) ∧ SDoes F s g w F1 W ∧ W.cell? ⟨w.heap.size + 1 + 1 + 1, 0, none⟩ = some (.int .i64 r)
  len : pre.length ≤ G.b.toNat
theorem ChgX.own {K : Int → BK} {j : Nat} {D : List Int} {w : World} {k : Nat} (hk : w.heap.size ≤ k) (c : Code) : OwnFrom k (ChgX G B F N S K d s g st nu j D w k c) := by
  intro pre W W' row h hg hr
  have hr2 : ∀ r, row = some r → ∃ o : Obj, W.heap[r]? = some o ∧ o.isCells = false := fun r e => (hr r e).2
  obtain ⟨h0, ⟨r, F1, S1, K1, st1, nu1, dn1, ⟨h1, h2⟩, h5, c3⟩, hl⟩ := h
  exact ⟨h0, ⟨r, F1, S1, K1, st1, nu1, dn1, ⟨h1.own hg hr, h2⟩, h5.own hg (fun r e => by have := (hr r e).1; omega), cell_kept c3 hg hr2⟩, hl⟩
theorem stChange_nil (j : Int) (a : Option Addr) (len cap : Nat) (w : World) : Calls Tryz.prog 19 #[.pointer none, .int .i64 j, .slice a len cap] w fun e w' => e = .returned (.int .i64 3) ∧ Below w.heap.size w w' := by
  go_enter Tryz.func19, Tryz.ntmps19
  go_wp2_with fail
  refine (stReady_nil j _).mono ?_
  rintro e w1 ⟨rfl, rfl⟩
  go_wp2_with fail
  refine bodyPost_ret (v := .int .i64 3) (by simp [results, Tryz.results19, go_sem]) rfl ?_
  exact ⟨rfl, below_four _ _ _ _ _⟩
theorem stChange_no (j : Int) (a : Option Addr) (len cap : Nat) (w : World) (h : SBox w s d g st nu dn) (hr : rdyS dn st.length j ≠ 0) : Calls Tryz.prog 19 #[.pointer (some ⟨s, 0, none⟩), .int .i64 j, .slice a len cap] w fun e w' => e = .returned (.int .i64 (rdyS dn st.length j)) ∧ Below w.heap.size w w' := by
  have hr' : (rdyS dn st.length j != 0) = true := by simp [hr]
  have hrd := stReady_any j _ (h.below (below_four w (.cells #[.pointer (some ⟨s, 0, none⟩)] 33) (.cells #[.int .i64 j] 3) (.cells #[.slice a len cap] 43) (.cells #[.int .i64 0] 29)) (Nat.le_refl _))
  clear h hr
  generalize rdyS dn st.length j = r at *
  go_enter Tryz.func19, Tryz.ntmps19
  go_wp2_with fail
  refine hrd.mono ?_
  rintro e w1 ⟨rfl, rfl⟩
  go_wp2_with fail
  refine bodyPost_ret (v := .int .i64 r) (by simp [results, Tryz.results19, go_sem]) rfl ?_
  exact ⟨rfl, below_four _ _ _ _ _⟩
/-- Change's boxes. -/
structure ChgB (s : Nat) (j : Int) (a : Option Addr) (len cap : Nat) (w W : World) : Prop where
  c0 : W.cell? ⟨w.heap.size, 0, none⟩ = some (.pointer (some ⟨s, 0, none⟩))
  c1 : W.cell? ⟨w.heap.size + 1, 0, none⟩ = some (.int .i64 j)
  c2 : W.cell? ⟨w.heap.size + 1 + 1, 0, none⟩ = some (.slice a len cap)
  c3 : W.cell? ⟨w.heap.size + 1 + 1 + 1, 0, none⟩ = some (.int .i64 0)
  f3 : W.frozen? ⟨w.heap.size + 1 + 1 + 1, 0, none⟩ = false
theorem ChgB.below {j : Int} {a : Option Addr} {len cap : Nat} {w W W' : World} (h : ChgB s j a len cap w W) (q : Below W.heap.size W W') : ChgB s j a len cap w W' :=
  ⟨(q.cell (lt_of_cell h.c0)).trans h.c0, (q.cell (lt_of_cell h.c1)).trans h.c1, (q.cell (lt_of_cell h.c2)).trans h.c2, (q.cell (lt_of_cell h.c3)).trans h.c3, (q.frozen (lt_of_cell h.c3)).trans h.f3⟩
theorem chgB_new (s : Nat) (j : Int) (a : Option Addr) (len cap : Nat) (w : World) : ChgB s j a len cap w ((((w.alloc (.cells #[.pointer (some ⟨s, 0, none⟩)] 33)).alloc (.cells #[.int .i64 j] 3)).alloc (.cells #[.slice a len cap] 43)).alloc (.cells #[.int .i64 0] 29)) := by
  have c0 := cell_up (cell_up (cell_up (new_cell1 w (.pointer (some ⟨s, 0, none⟩)) 33).1 (.cells #[.int .i64 j] 3)) (.cells #[.slice a len cap] 43)) (.cells #[.int .i64 0] 29)
  have c1 := cell_up (cell_up (new_cell1 (w.alloc (.cells #[.pointer (some ⟨s, 0, none⟩)] 33)) (.int .i64 j) 3).1 (.cells #[.slice a len cap] 43)) (.cells #[.int .i64 0] 29)
  have c2 := cell_up (new_cell1 ((w.alloc (.cells #[.pointer (some ⟨s, 0, none⟩)] 33)).alloc (.cells #[.int .i64 j] 3)) (.slice a len cap) 43).1 (.cells #[.int .i64 0] 29)
  have n3 := new_cell1 (((w.alloc (.cells #[.pointer (some ⟨s, 0, none⟩)] 33)).alloc (.cells #[.int .i64 j] 3)).alloc (.cells #[.slice a len cap] 43)) (.int .i64 0) 29
  have c3 := n3.1
  have f3 := n3.2
  simp only [World.size_alloc] at c1 c2 c3 f3
  exact ⟨c0, c1, c2, c3, f3⟩
set_option maxHeartbeats 1600000 in
theorem stChange_long (j : Nat) (a : Option Addr) (len cap : Nat) (w : World) (h : StAt G B F N S d s g st nu false w) (hj : j < st.length) (hl : G.C < len) (hlm : len ≤ maxLen) : Calls Tryz.prog 19 #[.pointer (some ⟨s, 0, none⟩), .int .i64 (j : Int), .slice a len cap] w fun e w' => e = .returned (.int .i64 2) ∧ Below w.heap.size w w' := by
  have hlm' : (len : Int) ≤ 9223372036854775807 := by unfold maxLen at hlm; omega
  have hb := chgB_new s (j : Int) a len cap w
  have q0 := below_four w (.cells #[.pointer (some ⟨s, 0, none⟩)] 33) (.cells #[.int .i64 j] 3) (.cells #[.slice a len cap] 43) (.cells #[.int .i64 0] 29)
  have hrd := stReady_any (j : Int) _ (h.sb.below q0 (Nat.le_refl _))
  rw [rdyS_in (by omega)] at hrd
  replace h := h.below q0
  go_enter Tryz.func19, Tryz.ntmps19
  go_wp2_with fail
  refine hrd.mono ?_
  rintro e w1 ⟨rfl, rfl⟩
  generalize (((w.alloc (.cells #[.pointer (some ⟨s, 0, none⟩)] 33)).alloc (.cells #[.int .i64 j] 3)).alloc (.cells #[.slice a len cap] 43)).alloc (.cells #[.int .i64 0] 29) = w0 at *
  clear hrd
  go_wp2_with fail
  refine held_begin (by kernel_rfl) ?_
  refine held_reads (rs := [0, 1, 2]) (fuel := 2) (by kernel_rfl) (fun c d v a w h => by cases d <;> exact h) (by kernel_rfl) (Since.drew _) (fun K hK => ?_)
  refine calm_do (.slice a len cap) rfl (by rfl) (fun w' hw' => ?_) ?_
  · have c2 := (hb.below hw').c2
    go_simp
  go_simp
  refine calm_do (.int .i64 (len : Int)) rfl (by rfl) (fun w' hw' => ?_) ?_
  · go_simp
  go_simp
  refine calm_do (.pointer (some ⟨s, 0, none⟩)) rfl (by rfl) (fun w' hw' => ?_) ?_
  · have c0 := (hb.below hw').c0
    go_simp
  go_simp
  refine calm_nil (hK.out _ ?_)
  clear hK K
  refine held_call (i := 3) (fuel := 1) (by kernel_rfl) rfl (by rfl) (fun K hK => ?_)
  go_simp
  refine (stCap_any w0.drew h.drew).mono ?_
  rintro e w2 ⟨rfl, qq0⟩
  have q1 : Since w0 w2 := Since.trans (Since.drew _) qq0
  refine hK _ _ q1 ?_
  clear hK K qq0
  replace hb := hb.below q1
  have HQ : Hid (Below w.heap.size w w2) := btrans q0 q1
  clear q0 q1 h
  have hgt : (G.C : Int) < (len : Int) := by omega
  generalize G.C = C at *
  refine held_reads (rs := [4]) (fuel := 0) (by kernel_rfl) (fun c d v a w h => by cases d <;> exact h) (by kernel_rfl) (Since.refl _) (fun K hK => ?_)
  go_simp
  refine calm_do (.bool true) rfl (by rfl) (fun w' hw' => ?_) ?_
  · go_simp
  go_simp
  refine calm_nil (hK.out _ ?_)
  clear hK K
  refine wpAnyH_done (by kernel_rfl) ?_ _
  have c3 := hb.c3
  have f3 := hb.f3
  go_wp2_with fail
  have c9 := World.cell?_setCell_same' w2 ⟨w.heap.size + 1 + 1 + 1, 0, none⟩ (.int .i64 2) (by rw [c3]; rfl)
  refine bodyPost_ret (v := .int .i64 2) (by simp [results, Tryz.results19, go_sem, c9]) rfl ?_
  exact ⟨rfl, HQ.out.setCell (p := ⟨w.heap.size + 1 + 1 + 1, 0, none⟩) (by dsimp only; omega) _⟩
set_option maxHeartbeats 3200000 in
set_option maxRecDepth 100000 in
theorem stChange_any (j : Nat) (D : List Int) (a : Option Addr) (len cap : Nat) (w : World) (h : StAt G B F N S d s g st nu false w) (hlim : B.lim ≤ w.heap.size) (hN : N + 300 * G.b.toNat + 700 < 1000000) (hup : S.up = true) (K : Int → BK) (hK : CInv G S K) (hr : OffS F s g .u8 w a len cap D) (hD : IsB D) (hj : j < st.length) (hC : len ≤ G.C) (hnu : 1 ≤ nu ∧ nu ≤ 1000000000) :
    Calls Tryz.prog 19 #[.pointer (some ⟨s, 0, none⟩), .int .i64 (j : Int), .slice a len cap] w fun e w' => ∃ r F1 S1 K1 st1 nu1 dn1, (e = .returned (.int .i64 r) ∧ StAt G B F1 (N + 300 * G.b.toNat) S1 d s g st1 nu1 dn1 w' ∧ SDoes F s g w F1 w') ∧ ChgRes G S K st nu j D r S1 K1 st1 nu1 dn1 := by
  have hDl := hr.row.hlen
  have hls := h.sb.len
  have hmay : mayH G.C (j : Int) (len : Nat) nu = true := by unfold mayH; rw [decide_eq_true_iff]; omega
  have hlm : len ≤ maxLen := Nat.le_trans hr.row.hcap hr.row.hmax
  have hlm' : (len : Int) ≤ 9223372036854775807 := by unfold maxLen at hlm; omega
  have hGb := G.ok.hb
  have hb := chgB_new s (j : Int) a len cap w
  have q0 := below_four w (.cells #[.pointer (some ⟨s, 0, none⟩)] 33) (.cells #[.int .i64 j] 3) (.cells #[.slice a len cap] 43) (.cells #[.int .i64 0] 29)
  have hsz0 : w.heap.size + 4 = ((((w.alloc (.cells #[.pointer (some ⟨s, 0, none⟩)] 33)).alloc (.cells #[.int .i64 j] 3)).alloc (.cells #[.slice a len cap] 43)).alloc (.cells #[.int .i64 0] 29)).heap.size := by simp
  have hrd := stReady_any (j : Int) _ (h.sb.below q0 (Nat.le_refl _))
  rw [rdyS_in (by omega)] at hrd
  have HFR : Hid (∀ y, F y → y < w.heap.size) := h.chip.fresh
  have HRL : Hid (0 < len → ∀ y, a = some y → y.block < w.heap.size) := fun h0 y hy => hr.row.blk_lt h0 y hy
  have hsl := h.sb.slt
  have hgl := h.sb.glt
  have hdl := h.db.lt
  replace h := h.below q0
  replace hr := hr.step (SDoes.of_below q0)
  refine (callsIn_wide (n := 3)).1 ?_
  refine callsIn_of_wp_marks Tryz.func19 rfl trivial ?_ rfl
  simp only [Tryz.ntmps19, List.size_toArray, List.length_cons, List.length_nil, Nat.reduceAdd, Nat.reduceSub, Array.replicate_succ, Array.replicate_zero, List.push_toArray, List.append_toArray, List.nil_append, List.cons_append]
  gi_wp2_with (refine ⟨trivial, ?_⟩; gi_at_call 48; refine (callsIn_wide.2 hrd).mono ?_; rintro e w1 ⟨rfl, rfl⟩)
  generalize (((w.alloc (.cells #[.pointer (some ⟨s, 0, none⟩)] 33)).alloc (.cells #[.int .i64 j] 3)).alloc (.cells #[.slice a len cap] 43)).alloc (.cells #[.int .i64 0] 29) = w0 at *
  clear hrd
  refine wpIn_calm (wpIn_wide.2 ?_)
  refine held_begin (by kernel_rfl) ?_
  refine held_reads (rs := [0, 1, 2]) (fuel := 2) (by kernel_rfl) (fun c d v a w h => by cases h.1) (by kernel_rfl) (Since.drew _) (fun K hK => ?_)
  refine calm_do (.slice a len cap) rfl (by rfl) (fun w' hw' => ?_) ?_
  · have c2 := (hb.below hw').c2
    go_simp
  go_simp
  refine calm_do (.int .i64 (len : Int)) rfl (by rfl) (fun w' hw' => ?_) ?_
  · go_simp
  go_simp
  refine calm_do (.pointer (some ⟨s, 0, none⟩)) rfl (by rfl) (fun w' hw' => ?_) ?_
  · have c0 := (hb.below hw').c0
    go_simp
  go_simp
  refine calm_nil (hK.out _ ?_)
  clear hK K
  refine held_call (i := 3) (fuel := 1) (by kernel_rfl) rfl (by rfl) (fun K hK => ?_)
  go_simp
  refine (stCap_any w0.drew h.drew).mono ?_
  rintro e w2 ⟨rfl, qq0⟩
  have q1 : Since w0 w2 := Since.trans (Since.drew _) qq0
  refine hK _ _ q1 ?_
  clear hK K qq0
  have hsz2 := Below.size q1
  replace hb := hb.below q1
  replace h := h.below q1
  replace hr := hr.step (SDoes.of_below q1)
  have q2 : Below w.heap.size w w2 := btrans q0 q1
  clear q0 q1
  have hgt : ¬ (G.C : Int) < (len : Int) := by omega
  obtain ⟨CC, hCC⟩ : ∃ CC, CC = G.C := ⟨_, rfl⟩
  rw [← hCC] at hgt ⊢
  clear hCC
  refine held_reads (rs := [4]) (fuel := 0) (by kernel_rfl) (fun c d v a w h => by cases h.1) (by kernel_rfl) (Since.refl _) (fun K hK => ?_)
  go_simp
  refine calm_do (.bool false) rfl (by rfl) (fun w' hw' => ?_) ?_
  · go_simp
  go_simp
  refine calm_nil (hK.out _ ?_)
  clear hK K
  refine wpAnyH_done (by kernel_rfl) ⟨rfl, ?_⟩ _
  have c0 := hb.c0
  gi_wp2_with (refine ⟨trivial, ?_⟩; gi_at_call 49; refine (callsIn_wide.2 (spare_any (s := s) _)).mono ?_; rintro e w3 ⟨rfl, rfl⟩)
  have q3 := below_one w2 (.cells #[.pointer (some ⟨s, 0, none⟩)] 33)
  have cb := (new_cell1 w2 (.pointer (some ⟨s, 0, none⟩)) 33).1
  have hsz3 : (w2.alloc (.cells #[.pointer (some ⟨s, 0, none⟩)] 33)).heap.size = w2.heap.size + 1 := by simp
  replace hb := hb.below q3
  replace h := h.below q3
  replace hr := hr.step (SDoes.of_below q3)
  replace q2 := btrans q2 q3
  generalize w2.alloc (.cells #[.pointer (some ⟨s, 0, none⟩)] 33) = w3 at *
  clear q3 c0
  obtain ⟨B', hlat, hback⟩ := lat_of h (Nat.le_trans hlim q2.size)
  have hstops := spare_stops (3 - 1) (by omega) w2.heap.size w3 h (by omega) cb
  have hI0 : ChgI G B' F N S K d s g st nu j D a len cap w w3.heap.size [] w3 := ⟨⟨F, S, ⟨hlat, hK, Tried.refl hup⟩, fun y hy => .inl hy, SDoes.of_below q2, hr⟩, hb.c0, hb.c1, hb.c2, hb.c3, hb.f3, Nat.le_refl _⟩
  clear hlat hr hb q2 h
  generalize hbxe : w2.heap.size = bx at *
  refine wpIn_rangeFunc_ownG rfl (by omega) (gf := 63) (lb := #[.pointer (some ⟨bx, 0, none⟩)]) rfl trivial (enters_of Tryz.func63 (by kernel_rfl) rfl)
    hstops keepsS_t keepsS_b (Below.refl _ _) (fun _ => rfl)
    (ChgI G B' F N S K d s g st nu j D a len cap w w3.heap.size) (ChgX G B' F N S K d s g st nu j D w w3.heap.size)
    (ChgI.own (by omega)) (ChgX.own (by omega)) hI0
    (fun c => { tmps := #[.pointer (some ⟨s, 0, none⟩), .int .i64 (j : Int), .slice a len cap, .pointer (some ⟨w.heap.size, 0, none⟩), .pointer (some ⟨w.heap.size + 1, 0, none⟩), .pointer (some ⟨w.heap.size + 1 + 1, 0, none⟩), .pointer (some ⟨w.heap.size + 1 + 1 + 1, 0, none⟩), .int .i64 0, .int .i64 (c.1 : Nat), undef,
      .pointer (some ⟨s, 0, none⟩), .int .i64 (j : Int), .int .i64 0, .int .i64 0, .bool false, undef, .slice a len cap, .int .i64 (len : Int), .pointer (some ⟨s, 0, none⟩), .int .i64 (CC : Int), .bool false, .pointer (some ⟨s, 0, none⟩), .func (.func 63) #[] #[.pointer (some ⟨bx, 0, none⟩)], .int .i64 (c.1 : Nat),
      undef, undef, undef, undef, undef, undef, undef, undef, undef, undef, undef, undef, undef, undef, undef, undef, undef, undef, undef, undef, undef], defers := [] }) ?assign ?body ?done ?stop
  case assign =>
    intro l c W K hK
    gi_wp2
    exact hK
  case body =>
    rintro l pre c W hI hlen
    obtain ⟨⟨F1, S1, ⟨hl, hCI, htr⟩, hnw, hsd1, hof⟩, c0, c1, c2, c3, f3, hWs⟩ := hI
    obtain ⟨⟨x, hxb, hxs⟩, rfl⟩ : ∃ c' : Sp G.b.toNat st, c' = c := ⟨c, rfl⟩
    have hx : 0 ≤ ((x : Nat) : Int) ∧ ((x : Nat) : Int) < G.b := by omega
    have hfl := fill_any (x : Int) hx (j : Int) D a len cap W hl.at_ (by have := hl.lm; omega) (by have : 300 * pre.length ≤ 300 * G.b.toNat := Nat.mul_le_mul_left _ (by omega); omega) htr.up K hCI hof hD hmay
    have HFL : Hid _ := hfl
    clear hfl
    have HL : Hid _ := hl
    have HTR : Hid _ := htr
    have HNW : Hid _ := hnw
    have HSD : Hid _ := hsd1
    have HOF : Hid _ := hof
    clear hl htr hnw hsd1 hof hI0 hstops
    dsimp only
    gi_wp2_with fail
    refine ⟨trivial, ?_⟩
    refine (CallsIn.inRound l (callsIn_wide.2 HFL.out)).mono ?_
    rintro e V ⟨r, F2, S2, nu2, ⟨rfl, h2, sd2⟩, hfk⟩
    obtain ⟨F3, hl3, sd3, kf3⟩ := LAt.after HL.out h2 sd2
    have hnF : ∀ y, w.heap.size ≤ y → y < w3.heap.size → ¬ SetF F1 s g y := fun y h1 h2 hf1 => by
      rcases hf1 with hf1 | hf1 | hf1
      · rcases HNW.out y hf1 with h3 | h3
        · have := HFR.out y h3; omega
        · omega
      · omega
      · omega
    have hnF3 : ∀ y, w.heap.size ≤ y → y < w3.heap.size → ¬ F3 y := fun y h1 h2 hf2 => by
      rcases sd3.nw y hf2 with h3 | h3
      · exact hnF y h1 h2 (.inl h3)
      · omega
    have cV : ∀ (y : Nat) (v : Value), w.heap.size ≤ y → y < w3.heap.size → W.cell? ⟨y, 0, none⟩ = some v → V.cell? ⟨y, 0, none⟩ = some v := fun y v h1 h2 hv => by
      rw [sd2.tn.cell (p := ⟨y, 0, none⟩) (lt_of_cell hv) (hnF y h1 h2)]; exact hv
    have v0 := cV _ _ (Nat.le_refl _) (by omega) c0
    have v1 := cV _ _ (by omega) (by omega) c1
    have v2 := cV _ _ (by omega) (by omega) c2
    have v3 := cV _ _ (by omega) (by omega) c3
    have g3 : V.frozen? ⟨w.heap.size + 1 + 1 + 1, 0, none⟩ = false := (World.frozen?_of_block (sd2.tn.block (w.heap.size + 1 + 1 + 1) (lt_of_cell c3) (hnF _ (by omega) (by omega)))).trans f3
    have nw3 : ∀ y, F3 y → F y ∨ w3.heap.size ≤ y := fun y hy => by
      rcases sd3.nw y hy with h3 | h3
      · exact HNW.out y h3
      · exact .inr (by omega)
    have sdV : SDoes F s g w F3 V := SDoes.trans HSD.out sd3
    have ofV : OffS F3 s g .u8 V a len cap D := OffS.step HOF.out sd3
    have hszV : w3.heap.size ≤ V.heap.size := by have := sd2.tn.size; omega
    have kS : KeepsS bx s g W V := fun p v hp hv => by
      rcases hp with rfl | rfl | hp
      · exact cV _ _ (by omega) (by omega) hv
      · have h1 := (LAt.at_ HL.out).sb.c1
        rw [h1] at hv
        rw [← hv]
        exact h2.sb.c1
      · have h1 : V.heap[p.block]? = W.heap[p.block]? := by rw [hp]; exact h2.sb.row.trans (LAt.at_ HL.out).sb.row.symm
        rw [World.cell?_of_block h1]; exact hv
    clear h2 sd2 HOF HFL c0 c1 c2 c3 f3
    have hN3 : N + 300 * pre.length + 300 = N + 300 * (pre ++ [(⟨x, hxb, hxs⟩ : Sp G.b.toNat st)]).length := by rw [List.length_append, List.length_singleton]; omega
    rw [hN3] at hl3
    have hpl : (pre ++ [(⟨x, hxb, hxs⟩ : Sp G.b.toNat st)]).length ≤ G.b.toNat := by rw [List.length_append, List.length_singleton]; omega
    rcases fillK_code hfk with rfl | rfl | hr7
    · obtain ⟨K1, hres⟩ := chg_ok hfk HTR.out hxs hx
      have s1 := hl3.at_.sb.c1
      have sj := hl3.at_.sb.at j hj
      have sf := hl3.at_.sb.softg j
      have hsg := hl3.at_.sb.ne
      have hb4 := LAt.setCell (hl3.below ((Below.refl _ _).drew)) (p := ⟨g, j, none⟩) (.inr rfl) (.int .i64 (x : Int)) ((hl3.at_.sb.below ((Below.refl _ V).drew) (Nat.le_refl _)).setAt j (x : Int))
      have HFIN : Hid (KeepsFrom w3.heap.size W ((V.drew.setCell ⟨g, j, none⟩ (.int .i64 (x : Int))).setCell ⟨w.heap.size + 1 + 1 + 1, 0, none⟩ (.int .i64 0)) ∧ ChgX G B' F N S K d s g st nu j D w w3.heap.size .ret (pre ++ [⟨x, hxb, hxs⟩]) ((V.drew.setCell ⟨g, j, none⟩ (.int .i64 (x : Int))).setCell ⟨w.heap.size + 1 + 1 + 1, 0, none⟩ (.int .i64 0))) := by
        refine ⟨((kf3.trans ((keeps_of_below ((Below.refl _ V).drew)).from _)).trans ((KeepsOthers.setCell _ _ _).from _)).trans ((KeepsOthers.setCell _ _ _).from _), rfl, ⟨0, F3, S2, K1, _, nu2, false, ⟨?_, hres⟩, ?_, ?_⟩, hpl⟩
        · exact hb4.1.setOff (hnF3 (w.heap.size + 1 + 1 + 1) (by omega) (by omega)) (by dsimp only; omega) (by dsimp only; omega) (by dsimp only; omega) _
        · exact (((sdV.trans (SDoes.of_below ((Below.refl _ V).drew))).trans hb4.2).setNew (by dsimp only; omega) _)
        · exact World.cell?_setCell_same' _ _ _ (by rw [cellFar (by dsimp only; omega)]; show (V.cell? _).isSome = true; rw [v3]; rfl)
      have w4c : (V.drew.setCell ⟨g, j, none⟩ (.int .i64 (x : Int))).cell? ⟨w.heap.size + 1 + 1 + 1, 0, none⟩ = some (.int .i64 0) := by rw [cellFar (by dsimp only; omega)]; exact v3
      have w4f : (V.drew.setCell ⟨g, j, none⟩ (.int .i64 (x : Int))).frozen? ⟨w.heap.size + 1 + 1 + 1, 0, none⟩ = false := by rw [World.frozen?_setCell]; exact g3
      clear hb4 hfk hl3 sd3 kf3 hnF hnF3 cV nw3 sdV ofV kS hres HL HTR HNW HSD
      have hjl : (j : Int) < (st.length : Int) := by omega
      generalize st.length = L at *
      generalize st[j]?.getD 0 = oldv at *
      gi_wp2_with fail
      refine region_round (S := fun w' => w'.cell? ⟨w.heap.size, 0, none⟩ = some (.pointer (some ⟨s, 0, none⟩)) ∧ w'.cell? ⟨s, 1, none⟩ = some (.slice (some ⟨g, 0, none⟩) L L) ∧ w'.cell? ⟨w.heap.size + 1, 0, none⟩ = some (.int .i64 (j : Int)))
        (by kernel_rfl) (fun ⟨_, _, h⟩ => h) (by kernel_rfl) ?_
      refine held_reads (rs := [0, 1, 2, 3, 4, 5, 6]) (fuel := 1) (by kernel_rfl) (fun c d v a w h => by cases d <;> exact h) (by kernel_rfl) ⟨v0, s1, v1⟩ (fun K hK => ?_)
      refine calm_do (.pointer (some ⟨s, 0, none⟩)) rfl (by rfl) (fun w' hw' => ?_) ?_
      · obtain ⟨h0, h1, h2⟩ := hw'
        go_simp
      go_simp
      refine calm_do (.pointer (some ⟨s, 0, none⟩)) rfl (by rfl) (fun w' hw' => ?_) ?_
      · obtain ⟨h0, h1, h2⟩ := hw'
        go_simp
      go_simp
      refine calm_do (.pointer (some ⟨s, 1, none⟩)) rfl (by rfl) (fun w' hw' => ?_) ?_
      · go_simp
      go_simp
      refine calm_do (.slice (some ⟨g, 0, none⟩) L L) rfl (by rfl) (fun w' hw' => ?_) ?_
      · obtain ⟨h0, h1, h2⟩ := hw'
        go_simp
      go_simp
      refine calm_do (.int .i64 (j : Int)) rfl (by rfl) (fun w' hw' => ?_) ?_
      · obtain ⟨h0, h1, h2⟩ := hw'
        go_simp
      go_simp
      refine calm_move _ rfl (by rfl) rfl ?_
      go_simp
      refine calm_do (.pointer (some ⟨g, j, none⟩)) rfl (by rfl) (fun w' hw' => ?_) ?_
      · go_simp
      go_simp
      refine calm_nil (hK.out _ ?_)
      clear hK K
      refine heldA_op (i := 7) (fuel := 0) (by kernel_rfl) rfl (by rfl) (fun K hK => ?_)
      go_simp
      rw [show (V.setCell ⟨g, j, none⟩ (.int .i64 (x : Int))).drew = V.drew.setCell ⟨g, j, none⟩ (.int .i64 (x : Int)) from rfl]
      refine hK _ _ ⟨by rw [cellFar (by dsimp only; omega)]; exact v0, by rw [cellFar (by dsimp only; omega)]; exact s1, by rw [cellFar (by dsimp only; omega)]; exact v1⟩ ?_
      clear hK K v0 s1 v1 sj sf v3 g3
      generalize V.drew.setCell ⟨g, j, none⟩ (.int .i64 (x : Int)) = V4 at *
      refine wpAnyH_done (by kernel_rfl) ?_ _
      gi_wp2_with fail
      exact HFIN.out
    · obtain ⟨K1, hres⟩ := chg_down hfk HTR.out hxs hx
      have htl := stTell_yes V hl3.at_
      have HTL : Hid _ := htl
      have HL3 : Hid _ := hl3
      have HRES : Hid _ := hres
      have HF3 : Hid (∀ y, w.heap.size ≤ y → y < w3.heap.size → ¬ SetF F3 s g y) := fun y h1 h2 hf => by
        rcases hf with hf | hf | hf
        · exact hnF3 y h1 h2 hf
        · omega
        · omega
      have HSDV : Hid _ := sdV
      have HKF : Hid _ := kf3
      clear htl hl3 hres hfk sd3 kf3 hnF hnF3 cV nw3 sdV ofV kS HL HTR HNW HSD
      gi_wp2_with fail
      refine ⟨trivial, ?_⟩
      refine (CallsIn.inRound l (callsIn_wide.2 HTL.out)).mono ?_
      rintro e V4 ⟨rfl, h4, sd4⟩
      obtain ⟨F4, hl4, sd5, kf4⟩ := LAt.after HL3.out h4 sd4
      have w3c : V4.cell? ⟨w.heap.size + 1 + 1 + 1, 0, none⟩ = some (.int .i64 0) := by
        rw [sd4.tn.cell (p := ⟨w.heap.size + 1 + 1 + 1, 0, none⟩) (lt_of_cell v3) (HF3.out (w.heap.size + 1 + 1 + 1) (by omega) (by omega))]; exact v3
      have w3f : V4.frozen? ⟨w.heap.size + 1 + 1 + 1, 0, none⟩ = false := (World.frozen?_of_block (sd4.tn.block (w.heap.size + 1 + 1 + 1) (lt_of_cell v3) (HF3.out (w.heap.size + 1 + 1 + 1) (by omega) (by omega)))).trans g3
      have HFIN : Hid (KeepsFrom w3.heap.size W (V4.setCell ⟨w.heap.size + 1 + 1 + 1, 0, none⟩ (.int .i64 70)) ∧ ChgX G B' F N S K d s g st nu j D w w3.heap.size .ret (pre ++ [⟨x, hxb, hxs⟩]) (V4.setCell ⟨w.heap.size + 1 + 1 + 1, 0, none⟩ (.int .i64 70))) := by
        refine ⟨(KeepsFrom.trans HKF.out kf4).trans ((KeepsOthers.setCell _ _ _).from _), rfl, ⟨70, F4, S2, K1, st, nu2, true, ⟨?_, HRES.out⟩, ?_, ?_⟩, hpl⟩
        · refine hl4.setOff (fun hf => ?_) (by dsimp only; omega) (by dsimp only; omega) (by dsimp only; omega) _
          rcases sd5.nw _ hf with h5 | h5
          · exact HF3.out (w.heap.size + 1 + 1 + 1) (by omega) (by omega) (.inl h5)
          · dsimp only at h5; omega
        · exact (SDoes.trans HSDV.out sd5).setNew (by dsimp only; omega) _
        · exact World.cell?_setCell_same' _ _ _ (by rw [w3c]; rfl)
      clear h4 sd4 hl4 sd5 kf4 HTL HL3 HRES HF3 HSDV HKF v3 g3
      gi_wp2_with fail
      exact HFIN.out
    · obtain ⟨hCI2, htr2, rfl⟩ := fillK_on hfk HTR.out hxs hr7
      have HFIN : Hid (KeepsFrom w3.heap.size W V ∧ KeepsS bx s g W V ∧ ChgI G B' F N S K d s g st nu2 j D a len cap w w3.heap.size (pre ++ [⟨x, hxb, hxs⟩]) V) := by
        refine ⟨kf3, kS, ⟨F3, S2, ⟨hl3, hCI2, ?_⟩, nw3, sdV, ofV⟩, v0, v1, v2, v3, g3, hszV⟩
        rw [List.map_append]
        exact htr2
      clear hfk hl3 sd3 kf3 hnF hnF3 cV nw3 sdV ofV kS HL HTR HNW HSD hCI2 htr2 v0 v1 v2 v3 g3
      rcases hr7 with rfl | rfl
      · gi_wp2_with fail
        exact HFIN.out
      · gi_wp2_with fail
        exact HFIN.out
  case done =>
    rintro D' xs W hD hS hI hK'
    obtain ⟨⟨F1, S1, ⟨hl, hCI, htr⟩, hnw, hsd1, hof⟩, c0, c1, c2, c3, f3, hWs⟩ := hI
    have hxl : xs.length ≤ G.b.toNat := by
      have h1 := congrArg List.length hS
      rw [List.length_map] at h1
      have h2 := spareL_len st G.b.toNat
      omega
    have hall : ∀ y, 0 ≤ y → y < G.b → y ∉ st → y ∈ xs.map (fun c => ((c.1 : Nat) : Int)) := fun y h0 h1 h2 => by
      obtain ⟨i, rfl⟩ := Int.eq_ofNat_of_zero_le h0
      have : i ∈ spareL st G.b.toNat := by
        unfold spareL
        rw [List.mem_filter, List.mem_range]
        exact ⟨by omega, by simpa using h2⟩
      rw [← hS, List.mem_map] at this
      obtain ⟨c, hc, e⟩ := this
      exact List.mem_map.2 ⟨c, hc, by rw [e]⟩
    have hnF : ¬ F1 (w.heap.size + 1 + 1 + 1) := fun hf1 => by
      rcases hnw _ hf1 with h3 | h3
      · have := HFR.out _ h3; omega
      · omega
    have hK2 := (KeepsOthers.setCell W ⟨w.heap.size + 1 + 1 + 1, 0, none⟩ (.int .i64 6)).same D' _ hK' rfl
    have hl3 := (hl.setOff (p := ⟨w.heap.size + 1 + 1 + 1, 0, none⟩) hnF (by dsimp only; omega) (by dsimp only; omega) (by dsimp only; omega) (.int .i64 6)).own (grownBy_putObj' _ D' (.deferred none)) (fun r e => by cases e; exact ⟨hD, _, hK2, rfl⟩)
    have sd3 := (hsd1.setNew (p := ⟨w.heap.size + 1 + 1 + 1, 0, none⟩) (by dsimp only; omega) (.int .i64 6)).own (grownBy_putObj' _ D' (.deferred none)) (fun r e => by cases e; omega)
    have hc5 := cell_kept (World.cell?_setCell_same' W ⟨w.heap.size + 1 + 1 + 1, 0, none⟩ (.int .i64 6) (by rw [c3]; rfl)) (grownBy_putObj' _ D' (.deferred none)) (fun r e => by cases e; exact ⟨_, hK2, rfl⟩)
    have HFIN : Hid (∃ r F1 S1 K1 st1 nu1 dn1, ((Ending.returned (.int .i64 6)) = .returned (.int .i64 r) ∧ StAt G B F1 (N + 300 * G.b.toNat) S1 d s g st1 nu1 dn1 ((W.setCell ⟨w.heap.size + 1 + 1 + 1, 0, none⟩ (.int .i64 6)).putObj D' (.deferred none)) ∧ SDoes F s g w F1 ((W.setCell ⟨w.heap.size + 1 + 1 + 1, 0, none⟩ (.int .i64 6)).putObj D' (.deferred none))) ∧ ChgRes G S K st nu j D r S1 K1 st1 nu1 dn1) :=
      ⟨6, F1, S1, K, st, nu, false, ⟨rfl, (hback _ _ _ _ _ _ _ hl3.at_).mono (by have : 300 * xs.length ≤ 300 * G.b.toNat := Nat.mul_le_mul_left _ hxl; omega), sd3⟩, chg_full hCI htr hall⟩
    clear hl3 sd3 hl hCI htr hnw hsd1 hof hI0 hS hall hstops
    gi_wp2
    refine ⟨by simp, .inl ⟨_, _, rfl, run_takeDeferred hK2, ?_⟩⟩
    refine ⟨.int .i64 6, ?_, HFIN.out⟩
    simp [results, Tryz.results19, go_sem, hc5]
  case stop =>
    rintro D' cc pre W hD _ hX hK'
    obtain ⟨rfl, ⟨r, F1, S1, K1, st1, nu1, dn1, ⟨hl, hres⟩, hsd1, c3⟩, hpl⟩ := hX
    have hl3 := hl.own (grownBy_putObj' _ D' (.deferred none)) (fun r e => by cases e; exact ⟨hD, _, hK', rfl⟩)
    have sd3 := hsd1.own (grownBy_putObj' _ D' (.deferred none)) (fun r e => by cases e; omega)
    have hc5 := cell_kept c3 (grownBy_putObj' _ D' (.deferred none)) (fun r e => by cases e; exact ⟨_, hK', rfl⟩)
    have HFIN : Hid (∃ r' F1 S1 K1 st1 nu1 dn1, ((Ending.returned (.int .i64 r)) = .returned (.int .i64 r') ∧ StAt G B F1 (N + 300 * G.b.toNat) S1 d s g st1 nu1 dn1 (W.putObj D' (.deferred none)) ∧ SDoes F s g w F1 (W.putObj D' (.deferred none))) ∧ ChgRes G S K st nu j D r' S1 K1 st1 nu1 dn1) :=
      ⟨r, F1, S1, K1, st1, nu1, dn1, ⟨rfl, (hback _ _ _ _ _ _ _ hl3.at_).mono (by have : 300 * pre.length ≤ 300 * G.b.toNat := Nat.mul_le_mul_left _ hpl; omega), sd3⟩, hres⟩
    clear hl3 sd3 hl hres hsd1 hI0 hstops
    gi_wp2
    refine ⟨by simp, .inl ⟨_, _, rfl, run_takeDeferred hK', ?_⟩⟩
    refine ⟨.int .i64 r, ?_, HFIN.out⟩
    simp [results, Tryz.results19, go_sem, hc5]
end
end Go.Proofs.YtbafkakhhelcmaaGreat
