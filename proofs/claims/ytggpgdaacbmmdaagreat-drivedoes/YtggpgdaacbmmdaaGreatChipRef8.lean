/-
  The document's answer of layer 7 (casemateref07): New. (Written by tools/gen/chip_ref8.py.)
-/
import Derived.Test.YtggpgdaacbmmdaaGreatChipRef7
namespace Go.Proofs.YtggpgdaacbmmdaaGreat
open Go Go.RowKit Go.Maps
set_option linter.unusedVariables false
set_option maxRecDepth 8192

section
variable {P : Program} {ops : Array Oper} {Q : Exit → Act → World → Prop} {md : Region.Mode} {S : World → Prop}
/-- Two operations may come up. -/
theorem held_op2 {i j : Nat} {oi oj : Oper} {fuel : Nat} {listed : Array Bool} {a : Act} {w : World} (hr : Region.ready md ops listed = [i, j]) (hoi : ops[i]? = some oi)
    (hwi : Region.wanted oi (yielded ops a.tmps) = true) (hoj : ops[j]? = some oj) (hwj : Region.wanted oj (yielded ops a.tmps) = true)
    (hi : ∀ K' : Act → World → Prop, (∀ a w1, S w1 → wpAnyH P md ops Q S fuel (listed.setIfInBounds i true) a w1 → K' a w1) → Oper.wp P oi a w K' Q)
    (hj : ∀ K' : Act → World → Prop, (∀ a w1, S w1 → wpAnyH P md ops Q S fuel (listed.setIfInBounds j true) a w1 → K' a w1) → Oper.wp P oj a w K' Q) :
    wpAnyH P md ops Q S (fuel + 1) listed a w := by
  refine wpAnyH_all hr (by simp) fun k hk => ?_
  simp only [List.mem_cons, List.not_mem_nil, or_false] at hk
  rcases hk with rfl | rfl
  · refine wpOp_step hoi fun K' hK => ?_
    rw [if_pos hwi]
    exact hi K' fun a w1 hs hh => hK a w1 ⟨hs, hh⟩
  · refine wpOp_step hoj fun K' hK => ?_
    rw [if_pos hwj]
    exact hj K' fun a w1 hs hh => hK a w1 ⟨hs, hh⟩
end
theorem infoPage : (Tryz.prog.info? 81).map (fun i => (i.zero, i.size, i.bytes)) = some (some (.agg #[.slice none 0 0, .slice none 0 0]), 2, 48) := by kernel_rfl
theorem infoBlock : (Tryz.prog.info? 79).map (fun i => (i.zero, i.size, i.bytes)) = some (some (.agg #[.slice none 0 0, .int .i64 0, .bool false, .bool false]), 4, 40) := by kernel_rfl
theorem cells_new2 (w : World) (x y : Value) (t : TypeId) : ∀ j u, ([x, y] : List Value)[j]? = some u → (w.alloc (.cells #[x, y] t)).cell? ((⟨w.heap.size, 0, none⟩ : Addr).add j) = some u := by
  intro j u hj
  have hadd : (⟨w.heap.size, 0, none⟩ : Addr).add j = ⟨w.heap.size, j, none⟩ := by unfold Addr.add; split <;> simp_all
  rw [hadd, cell_of_row _ _ _ _ _ _ (MapKept.heap_alloc w _).1]
  simpa using hj
theorem cells_new4 (w : World) (x y z v : Value) (t : TypeId) : ∀ j u, ([x, y, z, v] : List Value)[j]? = some u → (w.alloc (.cells #[x, y, z, v] t)).cell? ((⟨w.heap.size, 0, none⟩ : Addr).add j) = some u := by
  intro j u hj
  have hadd : (⟨w.heap.size, 0, none⟩ : Addr).add j = ⟨w.heap.size, j, none⟩ := by unfold Addr.add; split <;> simp_all
  rw [hadd, cell_of_row _ _ _ _ _ _ (MapKept.heap_alloc w _).1]
  simpa using hj

theorem ref7New_no (b p s n f : Int) (a : Option Addr) (len cap : Nat) (w : World) (hm : mayG b p s n f = false) :
    Calls Tryz.prog 13 #[.agg #[.int .i64 b, .int .i64 p, .int .i64 s, .int .i64 n, .int .i64 f], .slice a len cap] w fun e w' => e = .returned (.tuple #[.pointer none, .bool false]) ∧ Below w.heap.size w w' := by
  obtain ⟨_, c0, c1, c2, c3, c4⟩ := gbox_new w 23 b p s n f
  go_enter Tryz.func13, Tryz.ntmps13
  go_wp2_with fail
  refine (refMay_any b p s n f _).mono ?_
  rintro e w1 ⟨rfl, q1⟩
  rw [hm]
  clear c0 c1 c2 c3 c4
  go_wp2_with fail
  go_ret2
  exact ⟨rfl, btrans (below_one _ _) q1⟩

theorem owns_since2 {e : TypeId} {sz : Nat} {w w' : World} {base n : Nat} {v : Value} {xs : List Value} (h : w.ownsRow base e sz v n xs) (q : Below w.heap.size w w') : w'.ownsRow base e sz v n xs :=
  h.kept (row := none) ⟨q.os, q.tape, q.output, q.size, fun k hk _ => q.block k hk⟩ (by cases hv : v.ownBlock <;> simp)
theorem NewIs.done' {G : Geo} {c : Nat} {v : Value} {pb pcap : Nat → Nat} {D : Nat → Prop} {w : World} (h : NewIs G c G.b.toNat v pb pcap D w) (ps : List Int) :
    ∃ (R : RB) (F : Nat → Prop), R.c = c ∧ .slice (some ⟨R.bb, 0, none⟩) G.b.toNat R.bcap = v ∧ RefAt G R F (CS.fresh G.L ps 0) w ∧ ∀ x, F x → c ≤ x := by
  obtain ⟨bb, bcap, h1, h2, h3⟩ := h.done ps
  exact ⟨_, _, rfl, h1.symm, h2, h3⟩
/-- What the round of a block has left of the older ones. -/
theorem owns_below7 {e : TypeId} {sz : Nat} {w w' : World} {base B n : Nat} {v : Value} {xs : List Value} (h : w.ownsRow base e sz v n xs) (q : Below B w w') (hB : w.heap.size ≤ B) : w'.ownsRow base e sz v n xs := owns_since2 h (q.mono hB)

set_option maxHeartbeats 12800000 in
theorem ref7New_any (G : Geo) (a : Option Addr) (len cap : Nat) (ps : List Int) (w : World) (hr : Row .i64 w a len cap ps) (hlen : len ≤ 100000) :
    Calls Tryz.prog 13 #[.agg #[.int .i64 G.b, .int .i64 G.p, .int .i64 ((G.s : Nat)), .int .i64 ((G.n : Nat)), .int .i64 ((G.f : Nat))], .slice a len cap] w fun e w' =>
      ((∀ x ∈ ps, inB0 x G.b = true) ∧ ∃ R F, e = .returned (.tuple #[.pointer (some ⟨R.c, 0, none⟩), .bool true]) ∧ RefAt G R F (CS.fresh G.L ps ps.length) w' ∧ (∀ x, F x → w.heap.size ≤ x) ∧ Below w.heap.size w w') ∨
      ((∃ x ∈ ps, inB0 x G.b = false) ∧ e = .returned (.tuple #[.pointer none, .bool false]) ∧ Below w.heap.size w w') := by
  have hmay := G.ok.may
  obtain ⟨ip, hip, hip0, hip1, hip2⟩ := info_parts infoPage
  obtain ⟨ib, hib, hib0, hib1, hib2⟩ := info_parts infoBlock
  have hL := G.ok.L2
  have hb7 := G.ok.hb
  have hp7 := G.ok.hp
  have HL : Hid (ps.length = len) := hr.hlen
  have gb := gbox_new w 23 G.b G.p G.s G.n G.f
  have q0 := below_one w (.cells #[.int .i64 G.b, .int .i64 G.p, .int .i64 G.s, .int .i64 G.n, .int .i64 G.f] 23)
  go_enter Tryz.func13, Tryz.ntmps13
  obtain ⟨_, c0, c1, c2, c3, c4⟩ := id gb
  go_wp2_with fail
  clear c0 c1 c2 c3 c4
  refine (refMay_any G.b G.p G.s G.n G.f _).mono ?_
  rintro e w1 ⟨rfl, q1⟩
  rw [hmay]
  replace gb := gb.below q1 (Nat.le_refl _)
  have HQ1 : Hid (Below w.heap.size w w1) := btrans q0 q1
  have HGB := gb
  have hgl : w.heap.size < w1.heap.size := by have := q1.size; simp at this; omega
  have HR1 : Hid (Row .i64 w1 a len cap ps) := hr.below HQ1.out (Nat.le_refl _)
  have HAB0 : Hid (0 < len → ∀ x, a = some x → x.block < w.heap.size) := fun h0 x hx => hr.blk_lt h0 x hx
  clear hr q0 q1
  obtain ⟨_, c0, c1, c2, c3, c4⟩ := id gb
  go_wp2_with fail
  have HG : Hid (∀ w', Below w1.heap.size w1 w' → w'.cell? ⟨w.heap.size, 0, none⟩ = some (.int .i64 G.b) ∧ w'.cell? ⟨w.heap.size, 1, none⟩ = some (.int .i64 G.p) ∧ w'.cell? ⟨w.heap.size, 2, none⟩ = some (.int .i64 G.s) ∧ w'.cell? ⟨w.heap.size, 3, none⟩ = some (.int .i64 G.n) ∧ w'.cell? ⟨w.heap.size, 4, none⟩ = some (.int .i64 G.f)) := fun w' hw' => by
    obtain ⟨_, d0, d1, d2, d3, d4⟩ := gb.below hw' (Nat.le_refl _)
    exact ⟨d0, d1, d2, d3, d4⟩
  have HN0 : Hid (∃ v pb pcap D, NewIs G w1.heap.size 0 v pb pcap D (w1.alloc (.cells #[.int .i64 G.b, .int .i64 G.p, .int .i64 G.s, .int .i64 G.n, .int .i64 G.f, .slice none 0 0, .int .i64 0, .bool true, .int .i64 0, .int .i64 0] 76))) := ⟨_, _, _, _, NewIs.start G w1⟩
  have HB0 : Hid (Below w1.heap.size w1 (w1.alloc (.cells #[.int .i64 G.b, .int .i64 G.p, .int .i64 G.s, .int .i64 G.n, .int .i64 G.f, .slice none 0 0, .int .i64 0, .bool true, .int .i64 0, .int .i64 0] 76))) := below_one _ _
  clear c0 c1 c2 c3 c4 gb HGB hmay
  generalize w1.alloc (.cells #[.int .i64 G.b, .int .i64 G.p, .int .i64 G.s, .int .i64 G.n, .int .i64 G.f, .slice none 0 0, .int .i64 0, .bool true, .int .i64 0, .int .i64 0] 76) = w2 at *
  generalize hcc : w1.heap.size = c at *
  have HCC : Hid (w1.heap.size = c) := hcc
  have HAB := HAB0
  clear HAB0
  generalize hgk : w.heap.size = gk at HG hgl HAB ⊢
  have HGK : Hid (w.heap.size = gk) := hgk
  clear hcc hgk
  go_loopw [7] (fun ii wr => ∃ n : Nat, n ≤ G.b.toNat ∧ ii = .int .i64 (n : Int) ∧ Hid (∃ v pb pcap D, NewIs G c n v pb pcap D wr) ∧ Hid (Below c w1 wr)) (fun ii _ => G.b.toNat - (RowKit.intOf ii).toNat)
  case atStart => exact ⟨0, Nat.zero_le _, rfl, HN0, HB0⟩
  case round =>
    clear HN0 HB0
    obtain ⟨no, hno, rfl, HN, HBO⟩ := hrel
    obtain ⟨e0, e1, e2, e3, e4⟩ := HG.out wr HBO.out
    by_cases hlt : no < G.b.toNat
    · have hlt' : (no : Int) < G.b := by omega
      go_wp2_with fail
      have HP0 : Hid (∃ pv g, PagesIn G.L wr.heap.size 0 wr pv g (wr.alloc (.cells #[.slice none 0 0, .int .i64 0, .bool false, .bool false] 79))) := ⟨_, _, PagesIn.start G.L wr⟩
      clear e0 e1 e2 e3 e4
      generalize wr.alloc (.cells #[.slice none 0 0, .int .i64 0, .bool false, .bool false] 79) = w3 at *
      generalize hbx : wr.heap.size = bx at HP0 ⊢
      have HBX : Hid (wr.heap.size = bx) := hbx
      have HWO : ∃ x, x = wr := ⟨_, rfl⟩
      obtain ⟨wo, hwo⟩ := HWO
      subst hwo
      clear hbx
      go_loopw [9] (fun kk wr => ∃ n : Nat, n ≤ G.p.toNat ∧ kk = .int .i64 (n : Int) ∧ Hid (∃ pv g, PagesIn G.L bx n wo pv g wr)) (fun kk _ => G.p.toNat - (RowKit.intOf kk).toNat)
      case atStart => exact ⟨0, Nat.zero_le _, rfl, HP0⟩
      case round =>
        clear HP0
        obtain ⟨n, hn, rfl, HPI⟩ := hrel
        obtain ⟨pv, g, hp⟩ := HPI.out
        clear HPI
        have hbl := hp.lt
        have hown := hp.2.1
        have p5 := hp.2.2.2.2
        have hbc0 : c < bx := by obtain ⟨_, _, _, _, hN⟩ := HN.out; have := hN.lt; have := HBX.out; omega
        have HC : Hid (∀ w', Turned (fun k => k = bx ∨ pv.ownBlock = some k) wr w' → w'.cell? ⟨gk, 0, none⟩ = some (.int .i64 G.b) ∧ w'.cell? ⟨gk, 1, none⟩ = some (.int .i64 G.p) ∧ w'.cell? ⟨gk, 2, none⟩ = some (.int .i64 G.s) ∧ w'.cell? ⟨gk, 3, none⟩ = some (.int .i64 G.n) ∧ w'.cell? ⟨gk, 4, none⟩ = some (.int .i64 G.f)) := fun w' hw' => by
          obtain ⟨d0, d1, d2, d3, d4⟩ := HG.out wr (HBO.out.trans (p5.mono (by omega)))
          have hk := hw'.block gk (by omega) (by rintro (e | e); omega; have := (hown.lt gk e).1; omega)
          exact ⟨(cell_same hk _).trans d0, (cell_same hk _).trans d1, (cell_same hk _).trans d2, (cell_same hk _).trans d3, (cell_same hk _).trans d4⟩
        by_cases hlt2 : n < G.p.toNat
        · have hlt2' : (n : Int) < G.p := by omega
          have HB0 : Hid (∀ W, Below wr.heap.size wr W → W.cell? ⟨bx, 0, none⟩ = some pv) := fun W q => by
            have := (q.block bx hbl).trans hp.1
            simp [World.cell?, this]
          obtain ⟨e0, e1, e2, e3, e4⟩ := HC.out wr (Turned.refl _ _)
          · go_wp2_with fail
            clear e0 e1 e2 e3 e4
            refine held_open (Turned (fun k => k = bx ∨ pv.ownBlock = some k) wr) (by kernel_rfl) ?_
            refine held_reads (rs := [0, 2]) (fuel := 7) (by kernel_rfl) (fun c d v a w h => by cases d <;> exact h) (by kernel_rfl) ((Turned.refl _ _).drew) (fun K hK => ?_)
            refine calm_do (.pointer (some ⟨bx, 0, none⟩)) rfl (by rfl) (fun w' hw' => ?_) ?_
            · go_simp
            go_simp
            refine calm_do (.agg #[.int .i64 G.b, .int .i64 G.p, .int .i64 ((G.s : Nat)), .int .i64 ((G.n : Nat)), .int .i64 ((G.f : Nat))]) rfl (by rfl) (fun w' hw' => ?_) ?_
            · obtain ⟨c0, c1, c2, c3, c4⟩ := HC.out w' hw'
              go_simp
            go_simp
            refine calm_nil (hK.out _ ?_)
            clear hK K
            refine held_op2 (i := 1) (j := 3) (fuel := 6) (by kernel_rfl) rfl (by rfl) rfl (by rfl) (fun K hK => ?_) (fun K hK => ?_)
            · have hb0 := HB0.out _ (Below.refl _ _)
              go_simp
              refine hK _ _ ((Turned.refl _ _).drew) ?_
              clear hK K hb0
              refine held_op (i := 3) (fuel := 5) (by kernel_rfl) rfl (by rfl) (fun K hK => ?_)
              go_simp
              refine (refRaw_any G.ok _).mono ?_
              rintro e v2 ⟨rfl, q2⟩
              replace q2 : Below wr.heap.size wr v2 := btrans (Below.refl _ _).drew q2
              have s2 : Turned (fun k => k = bx ∨ pv.ownBlock = some k) wr v2 := Turned.of_below _ q2
              refine hK _ _ s2 ?_
              clear hK K
              refine held_op (i := 4) (fuel := 4) (by kernel_rfl) rfl (by rfl) (fun K hK => ?_)
              go_simp
              refine (ref7Blank_any G.L (by omega) _).mono ?_
              rintro e v3 ⟨q, hq, rfl, hbq, q3⟩
              replace hq : wr.heap.size ≤ q := Nat.le_trans q2.size hq
              replace q3 := btrans q2 q3
              have s3 : Turned (fun k => k = bx ∨ pv.ownBlock = some k) wr v3 := Turned.of_below _ q3
              refine hK _ _ s3 ?_
              clear hK K
              refine held_op (i := 5) (fuel := 3) (by kernel_rfl) rfl (by rfl) (fun K hK => ?_)
              have q4 := btrans q3 (below_one v3 (.cells #[.slice (some ⟨q, 0, none⟩) G.L G.L, .slice none 0 0] 81))
              have s4 : Turned (fun k => k = bx ∨ pv.ownBlock = some k) wr (v3.alloc (.cells #[.slice (some ⟨q, 0, none⟩) G.L G.L, .slice none 0 0] 81)) := Turned.of_below _ q4
              go_simp
              refine hK _ _ s4 ?_
              clear hK K
              refine held_op (i := 6) (fuel := 2) (by kernel_rfl) rfl (by rfl) (fun K hK => ?_)
              have own4 := owns_since2 hown q4
              have hsz4 := q4.size
              refine wp_append_lies _ (.tmp 30) (.tmp 34) 77 (by rfl) (bx + 1) 81 ip (.agg #[.slice none 0 0, .slice none 0 0]) 2 48 Tryz.underlying77 hip hip0 hip1 hip2 (by rfl) (by omega) pv n (pageCells g G.L n) (by rfl) own4 ⟨v3.heap.size, 0, none⟩ 1 1 [.slice (some ⟨q, 0, none⟩) G.L G.L, .slice none 0 0] (by rfl) (by rfl) (cells_new2 _ _ _ _) ?o1 (by omega) ?o2 ?o3 ?o4 (v3.heap.size + 1) (by simp) ?_
              case o1 => intro u hu; simp at hu; rcases hu with rfl | rfl <;> rfl
              case o2 => unfold maxLen; omega
              case o3 => omega
              case o4 => omega
              intro gg cp w5 own5 hg5 hat5 hlt5
              have s5 : Turned (fun k => k = bx ∨ pv.ownBlock = some k) wr w5 := s4.grown hg5 (fun k hk => .inl (.inr hk))
              have HP := hp.step q3 hq hbq own5 hg5 hat5
              have b5 : w5.heap[bx]? = some (.cells #[pv, .int .i64 0, .bool false, .bool false] 79 (0, 0)) := (grown_block hg5 (by omega) (fun e => by have := (hown.lt bx e).1; omega)).trans ((q4.block bx hbl).trans hp.1)
              have hb5 : w5.cell? ⟨bx, 0, none⟩ = some pv := by simp [World.cell?, b5]
              have hf5 : w5.frozen? ⟨bx, 0, none⟩ = false := by simp [World.frozen?, b5]
              have HP2 : Hid (∃ pv g, PagesIn G.L bx (n + 1) wo pv g (w5.setCell ⟨bx, 0, none⟩ (.slice (some ⟨gg, 0, none⟩) (n + 1) cp))) := ⟨_, _, HP⟩
              clear HP b5 own5 own4 hat5 hg5
              refine hK _ _ s5 ?_
              clear hK K
              refine held_reads (rs := [7]) (fuel := 1) (by kernel_rfl) (fun c d v a w h => by cases d <;> exact h) (by kernel_rfl) (s5) (fun K hK => ?_)
              go_simp
              refine calm_do (.pointer (some ⟨bx, 0, none⟩)) rfl (by rfl) (fun w' hw' => ?_) ?_
              · go_simp
              go_simp
              refine calm_nil (hK.out _ ?_)
              clear hK K
              refine held_op (i := 8) (fuel := 0) (by kernel_rfl) rfl (by rfl) (fun K hK => ?_)
              have s6 : Turned (fun k => k = bx ∨ pv.ownBlock = some k) wr (w5.setCell ⟨bx, 0, none⟩ (.slice (some ⟨gg, 0, none⟩) (n + 1) cp)) := s5.setCell (p := ⟨bx, 0, none⟩) (.inl (.inl rfl)) _
              go_simp
              refine hK _ _ s6 ?_
              clear hK K
              refine wpAnyH_done (by kernel_rfl) ?_ _
              go_wp2_with fail
              go_roundw
              case rel => exact ⟨n + 1, by omega, by go_num, HP2⟩
              case measure => simp [RowKit.intOf]; omega
            · go_simp
              refine (refRaw_any G.ok _).mono ?_
              rintro e v2 ⟨rfl, q2⟩
              replace q2 : Below wr.heap.size wr v2 := btrans (Below.refl _ _).drew q2
              have s2 : Turned (fun k => k = bx ∨ pv.ownBlock = some k) wr v2 := Turned.of_below _ q2
              refine hK _ _ s2 ?_
              clear hK K
              refine held_op2 (i := 1) (j := 4) (fuel := 5) (by kernel_rfl) rfl (by rfl) rfl (by rfl) (fun K hK => ?_) (fun K hK => ?_)
              · have hb0 := HB0.out _ (q2)
                go_simp
                refine hK _ _ (s2) ?_
                clear hK K hb0
                refine held_op (i := 4) (fuel := 4) (by kernel_rfl) rfl (by rfl) (fun K hK => ?_)
                go_simp
                refine (ref7Blank_any G.L (by omega) _).mono ?_
                rintro e v3 ⟨q, hq, rfl, hbq, q3⟩
                replace hq : wr.heap.size ≤ q := Nat.le_trans q2.size hq
                replace q3 := btrans q2 q3
                have s3 : Turned (fun k => k = bx ∨ pv.ownBlock = some k) wr v3 := Turned.of_below _ q3
                refine hK _ _ s3 ?_
                clear hK K
                refine held_op (i := 5) (fuel := 3) (by kernel_rfl) rfl (by rfl) (fun K hK => ?_)
                have q4 := btrans q3 (below_one v3 (.cells #[.slice (some ⟨q, 0, none⟩) G.L G.L, .slice none 0 0] 81))
                have s4 : Turned (fun k => k = bx ∨ pv.ownBlock = some k) wr (v3.alloc (.cells #[.slice (some ⟨q, 0, none⟩) G.L G.L, .slice none 0 0] 81)) := Turned.of_below _ q4
                go_simp
                refine hK _ _ s4 ?_
                clear hK K
                refine held_op (i := 6) (fuel := 2) (by kernel_rfl) rfl (by rfl) (fun K hK => ?_)
                have own4 := owns_since2 hown q4
                have hsz4 := q4.size
                refine wp_append_lies _ (.tmp 30) (.tmp 34) 77 (by rfl) (bx + 1) 81 ip (.agg #[.slice none 0 0, .slice none 0 0]) 2 48 Tryz.underlying77 hip hip0 hip1 hip2 (by rfl) (by omega) pv n (pageCells g G.L n) (by rfl) own4 ⟨v3.heap.size, 0, none⟩ 1 1 [.slice (some ⟨q, 0, none⟩) G.L G.L, .slice none 0 0] (by rfl) (by rfl) (cells_new2 _ _ _ _) ?o1 (by omega) ?o2 ?o3 ?o4 (v3.heap.size + 1) (by simp) ?_
                case o1 => intro u hu; simp at hu; rcases hu with rfl | rfl <;> rfl
                case o2 => unfold maxLen; omega
                case o3 => omega
                case o4 => omega
                intro gg cp w5 own5 hg5 hat5 hlt5
                have s5 : Turned (fun k => k = bx ∨ pv.ownBlock = some k) wr w5 := s4.grown hg5 (fun k hk => .inl (.inr hk))
                have HP := hp.step q3 hq hbq own5 hg5 hat5
                have b5 : w5.heap[bx]? = some (.cells #[pv, .int .i64 0, .bool false, .bool false] 79 (0, 0)) := (grown_block hg5 (by omega) (fun e => by have := (hown.lt bx e).1; omega)).trans ((q4.block bx hbl).trans hp.1)
                have hb5 : w5.cell? ⟨bx, 0, none⟩ = some pv := by simp [World.cell?, b5]
                have hf5 : w5.frozen? ⟨bx, 0, none⟩ = false := by simp [World.frozen?, b5]
                have HP2 : Hid (∃ pv g, PagesIn G.L bx (n + 1) wo pv g (w5.setCell ⟨bx, 0, none⟩ (.slice (some ⟨gg, 0, none⟩) (n + 1) cp))) := ⟨_, _, HP⟩
                clear HP b5 own5 own4 hat5 hg5
                refine hK _ _ s5 ?_
                clear hK K
                refine held_reads (rs := [7]) (fuel := 1) (by kernel_rfl) (fun c d v a w h => by cases d <;> exact h) (by kernel_rfl) (s5) (fun K hK => ?_)
                go_simp
                refine calm_do (.pointer (some ⟨bx, 0, none⟩)) rfl (by rfl) (fun w' hw' => ?_) ?_
                · go_simp
                go_simp
                refine calm_nil (hK.out _ ?_)
                clear hK K
                refine held_op (i := 8) (fuel := 0) (by kernel_rfl) rfl (by rfl) (fun K hK => ?_)
                have s6 : Turned (fun k => k = bx ∨ pv.ownBlock = some k) wr (w5.setCell ⟨bx, 0, none⟩ (.slice (some ⟨gg, 0, none⟩) (n + 1) cp)) := s5.setCell (p := ⟨bx, 0, none⟩) (.inl (.inl rfl)) _
                go_simp
                refine hK _ _ s6 ?_
                clear hK K
                refine wpAnyH_done (by kernel_rfl) ?_ _
                go_wp2_with fail
                go_roundw
                case rel => exact ⟨n + 1, by omega, by go_num, HP2⟩
                case measure => simp [RowKit.intOf]; omega
              · go_simp
                refine (ref7Blank_any G.L (by omega) _).mono ?_
                rintro e v3 ⟨q, hq, rfl, hbq, q3⟩
                replace hq : wr.heap.size ≤ q := Nat.le_trans q2.size hq
                replace q3 := btrans q2 q3
                have s3 : Turned (fun k => k = bx ∨ pv.ownBlock = some k) wr v3 := Turned.of_below _ q3
                refine hK _ _ s3 ?_
                clear hK K
                refine held_op2 (i := 1) (j := 5) (fuel := 4) (by kernel_rfl) rfl (by rfl) rfl (by rfl) (fun K hK => ?_) (fun K hK => ?_)
                · have hb0 := HB0.out _ (q3)
                  go_simp
                  refine hK _ _ (s3) ?_
                  clear hK K hb0
                  refine held_op (i := 5) (fuel := 3) (by kernel_rfl) rfl (by rfl) (fun K hK => ?_)
                  have q4 := btrans q3 (below_one v3 (.cells #[.slice (some ⟨q, 0, none⟩) G.L G.L, .slice none 0 0] 81))
                  have s4 : Turned (fun k => k = bx ∨ pv.ownBlock = some k) wr (v3.alloc (.cells #[.slice (some ⟨q, 0, none⟩) G.L G.L, .slice none 0 0] 81)) := Turned.of_below _ q4
                  go_simp
                  refine hK _ _ s4 ?_
                  clear hK K
                  refine held_op (i := 6) (fuel := 2) (by kernel_rfl) rfl (by rfl) (fun K hK => ?_)
                  have own4 := owns_since2 hown q4
                  have hsz4 := q4.size
                  refine wp_append_lies _ (.tmp 30) (.tmp 34) 77 (by rfl) (bx + 1) 81 ip (.agg #[.slice none 0 0, .slice none 0 0]) 2 48 Tryz.underlying77 hip hip0 hip1 hip2 (by rfl) (by omega) pv n (pageCells g G.L n) (by rfl) own4 ⟨v3.heap.size, 0, none⟩ 1 1 [.slice (some ⟨q, 0, none⟩) G.L G.L, .slice none 0 0] (by rfl) (by rfl) (cells_new2 _ _ _ _) ?o1 (by omega) ?o2 ?o3 ?o4 (v3.heap.size + 1) (by simp) ?_
                  case o1 => intro u hu; simp at hu; rcases hu with rfl | rfl <;> rfl
                  case o2 => unfold maxLen; omega
                  case o3 => omega
                  case o4 => omega
                  intro gg cp w5 own5 hg5 hat5 hlt5
                  have s5 : Turned (fun k => k = bx ∨ pv.ownBlock = some k) wr w5 := s4.grown hg5 (fun k hk => .inl (.inr hk))
                  have HP := hp.step q3 hq hbq own5 hg5 hat5
                  have b5 : w5.heap[bx]? = some (.cells #[pv, .int .i64 0, .bool false, .bool false] 79 (0, 0)) := (grown_block hg5 (by omega) (fun e => by have := (hown.lt bx e).1; omega)).trans ((q4.block bx hbl).trans hp.1)
                  have hb5 : w5.cell? ⟨bx, 0, none⟩ = some pv := by simp [World.cell?, b5]
                  have hf5 : w5.frozen? ⟨bx, 0, none⟩ = false := by simp [World.frozen?, b5]
                  have HP2 : Hid (∃ pv g, PagesIn G.L bx (n + 1) wo pv g (w5.setCell ⟨bx, 0, none⟩ (.slice (some ⟨gg, 0, none⟩) (n + 1) cp))) := ⟨_, _, HP⟩
                  clear HP b5 own5 own4 hat5 hg5
                  refine hK _ _ s5 ?_
                  clear hK K
                  refine held_reads (rs := [7]) (fuel := 1) (by kernel_rfl) (fun c d v a w h => by cases d <;> exact h) (by kernel_rfl) (s5) (fun K hK => ?_)
                  go_simp
                  refine calm_do (.pointer (some ⟨bx, 0, none⟩)) rfl (by rfl) (fun w' hw' => ?_) ?_
                  · go_simp
                  go_simp
                  refine calm_nil (hK.out _ ?_)
                  clear hK K
                  refine held_op (i := 8) (fuel := 0) (by kernel_rfl) rfl (by rfl) (fun K hK => ?_)
                  have s6 : Turned (fun k => k = bx ∨ pv.ownBlock = some k) wr (w5.setCell ⟨bx, 0, none⟩ (.slice (some ⟨gg, 0, none⟩) (n + 1) cp)) := s5.setCell (p := ⟨bx, 0, none⟩) (.inl (.inl rfl)) _
                  go_simp
                  refine hK _ _ s6 ?_
                  clear hK K
                  refine wpAnyH_done (by kernel_rfl) ?_ _
                  go_wp2_with fail
                  go_roundw
                  case rel => exact ⟨n + 1, by omega, by go_num, HP2⟩
                  case measure => simp [RowKit.intOf]; omega
                · have q4 := btrans q3 (below_one v3 (.cells #[.slice (some ⟨q, 0, none⟩) G.L G.L, .slice none 0 0] 81))
                  have s4 : Turned (fun k => k = bx ∨ pv.ownBlock = some k) wr (v3.alloc (.cells #[.slice (some ⟨q, 0, none⟩) G.L G.L, .slice none 0 0] 81)) := Turned.of_below _ q4
                  go_simp
                  refine hK _ _ s4 ?_
                  clear hK K
                  refine held_op (i := 1) (fuel := 3) (by kernel_rfl) rfl (by rfl) (fun K hK => ?_)
                  have hb0 := HB0.out _ (q4)
                  have hb1 := HB0.out _ (q3)
                  go_simp
                  refine hK _ _ (s4) ?_
                  clear hK K hb0 hb1
                  refine held_op (i := 6) (fuel := 2) (by kernel_rfl) rfl (by rfl) (fun K hK => ?_)
                  have own4 := owns_since2 hown q4
                  have hsz4 := q4.size
                  refine wp_append_lies _ (.tmp 30) (.tmp 34) 77 (by rfl) (bx + 1) 81 ip (.agg #[.slice none 0 0, .slice none 0 0]) 2 48 Tryz.underlying77 hip hip0 hip1 hip2 (by rfl) (by omega) pv n (pageCells g G.L n) (by rfl) own4 ⟨v3.heap.size, 0, none⟩ 1 1 [.slice (some ⟨q, 0, none⟩) G.L G.L, .slice none 0 0] (by rfl) (by rfl) (cells_new2 _ _ _ _) ?o1 (by omega) ?o2 ?o3 ?o4 (v3.heap.size + 1) (by simp) ?_
                  case o1 => intro u hu; simp at hu; rcases hu with rfl | rfl <;> rfl
                  case o2 => unfold maxLen; omega
                  case o3 => omega
                  case o4 => omega
                  intro gg cp w5 own5 hg5 hat5 hlt5
                  have s5 : Turned (fun k => k = bx ∨ pv.ownBlock = some k) wr w5 := s4.grown hg5 (fun k hk => .inl (.inr hk))
                  have HP := hp.step q3 hq hbq own5 hg5 hat5
                  have b5 : w5.heap[bx]? = some (.cells #[pv, .int .i64 0, .bool false, .bool false] 79 (0, 0)) := (grown_block hg5 (by omega) (fun e => by have := (hown.lt bx e).1; omega)).trans ((q4.block bx hbl).trans hp.1)
                  have hb5 : w5.cell? ⟨bx, 0, none⟩ = some pv := by simp [World.cell?, b5]
                  have hf5 : w5.frozen? ⟨bx, 0, none⟩ = false := by simp [World.frozen?, b5]
                  have HP2 : Hid (∃ pv g, PagesIn G.L bx (n + 1) wo pv g (w5.setCell ⟨bx, 0, none⟩ (.slice (some ⟨gg, 0, none⟩) (n + 1) cp))) := ⟨_, _, HP⟩
                  clear HP b5 own5 own4 hat5 hg5
                  refine hK _ _ s5 ?_
                  clear hK K
                  refine held_reads (rs := [7]) (fuel := 1) (by kernel_rfl) (fun c d v a w h => by cases d <;> exact h) (by kernel_rfl) (s5) (fun K hK => ?_)
                  go_simp
                  refine calm_do (.pointer (some ⟨bx, 0, none⟩)) rfl (by rfl) (fun w' hw' => ?_) ?_
                  · go_simp
                  go_simp
                  refine calm_nil (hK.out _ ?_)
                  clear hK K
                  refine held_op (i := 8) (fuel := 0) (by kernel_rfl) rfl (by rfl) (fun K hK => ?_)
                  have s6 : Turned (fun k => k = bx ∨ pv.ownBlock = some k) wr (w5.setCell ⟨bx, 0, none⟩ (.slice (some ⟨gg, 0, none⟩) (n + 1) cp)) := s5.setCell (p := ⟨bx, 0, none⟩) (.inl (.inl rfl)) _
                  go_simp
                  refine hK _ _ s6 ?_
                  clear hK K
                  refine wpAnyH_done (by kernel_rfl) ?_ _
                  go_wp2_with fail
                  go_roundw
                  case rel => exact ⟨n + 1, by omega, by go_num, HP2⟩
                  case measure => simp [RowKit.intOf]; omega
        · have e : n = G.p.toNat := by omega
          have hge : ¬ (n : Int) < G.p := by omega
          subst e
          obtain ⟨pbn, pcn, rfl, hpg, hpl⟩ := hown.form (by omega)
          obtain ⟨v, pb, pcap, D, hN⟩ := HN.out
          have hcb : wo.heap.size ≤ bx := by rw [HBX.out]; exact Nat.le_refl _
          have hcw := hN.lt
          have hbc := (p5.block c (by omega)).trans hN.cell
          have HB5 : Hid (∀ W, Below wr.heap.size wr W → W.cell? ⟨c, 5, none⟩ = some v) := fun W q => by
            have := (q.block c (by omega)).trans hbc
            simp [World.cell?, this]
          have HX : Hid (∀ w', Turned (fun k => k = c ∨ v.ownBlock = some k) wr w' → w'.cell? ⟨bx, 0, none⟩ = some (.slice (some ⟨pbn, 0, none⟩) G.p.toNat pcn) ∧ w'.cell? ⟨bx, 1, none⟩ = some (.int .i64 0) ∧ w'.cell? ⟨bx, 2, none⟩ = some (.bool false) ∧ w'.cell? ⟨bx, 3, none⟩ = some (.bool false)) := fun w' hw' => by
            have := (hw'.block bx hbl (by rintro (e | e); omega; have := (hN.own.lt bx e).2; omega)).trans hp.1
            simp [World.cell?, this]
          obtain ⟨e0, e1, e2, e3, e4⟩ := HC.out wr (Turned.refl _ _)
          go_wp2_with fail
          clear e0 e1 e2 e3 e4 HC
          refine held_open (Turned (fun k => k = c ∨ v.ownBlock = some k) wr) (by kernel_rfl) ?_
          refine held_reads (rs := [0, 1, 2, 3, 5]) (fuel := 6) (by kernel_rfl) (fun c d v a w h => by cases d <;> exact h) (by kernel_rfl) ((Turned.refl _ _).drew) (fun K hK => ?_)
          refine calm_move _ rfl (by rfl) rfl ?_
          go_simp
          refine calm_move _ rfl (by rfl) rfl ?_
          go_simp
          refine calm_do (.pointer (some ⟨c, 0, none⟩)) rfl (by rfl) (fun w' hw' => ?_) ?_
          · go_simp
          go_simp
          refine calm_do (.pointer (some ⟨c, 5, none⟩)) rfl (by rfl) (fun w' hw' => ?_) ?_
          · go_simp
          go_simp
          refine calm_do (.agg #[.slice (some ⟨pbn, 0, none⟩) G.p.toNat pcn, .int .i64 0, .bool false, .bool false]) rfl (by rfl) (fun w' hw' => ?_) ?_
          · obtain ⟨x0, x1, x2, x3⟩ := HX.out w' hw'
            go_simp
          go_simp
          refine calm_nil (hK.out _ ?_)
          clear hK K
          refine held_op2 (i := 4) (j := 6) (fuel := 5) (by kernel_rfl) rfl (by rfl) rfl (by rfl) (fun K hK => ?_) (fun K hK => ?_)
          · have hb0 := HB5.out _ (Below.refl _ _)
            go_simp
            refine hK _ _ ((Turned.refl _ _).drew) ?_
            clear hK K hb0
            refine held_op (i := 6) (fuel := 4) (by kernel_rfl) rfl (by rfl) (fun K hK => ?_)
            have q4 := below_one wr (.cells #[.slice (some ⟨pbn, 0, none⟩) G.p.toNat pcn, .int .i64 0, .bool false, .bool false] 79)
            have s4 : Turned (fun k => k = c ∨ v.ownBlock = some k) wr (wr.alloc (.cells #[.slice (some ⟨pbn, 0, none⟩) G.p.toNat pcn, .int .i64 0, .bool false, .bool false] 79)).drew := (Turned.of_below _ q4).drew
            go_simp
            refine hK _ _ s4 ?_
            clear hK K
            refine held_op (i := 7) (fuel := 3) (by kernel_rfl) rfl (by rfl) (fun K hK => ?_)
            have own4 := (owns_below7 hN.own p5 hcb).alloc (.cells #[.slice (some ⟨pbn, 0, none⟩) G.p.toNat pcn, .int .i64 0, .bool false, .bool false] 79) |>.drew
            have hsz4 := q4.size
            refine wp_append_lies _ (.tmp 41) (.tmp 43) 74 (by rfl) (c + 1) 79 ib (.agg #[.slice none 0 0, .int .i64 0, .bool false, .bool false]) 4 40 Tryz.underlying74 hib hib0 hib1 hib2 (by rfl) (by omega) v no (blockCells pb pcap G.p.toNat no) (by rfl) own4 ⟨wr.heap.size, 0, none⟩ 1 1 [.slice (some ⟨pbn, 0, none⟩) G.p.toNat pcn, .int .i64 0, .bool false, .bool false] (by rfl) (by rfl) (cells_new4 _ _ _ _ _ _) ?o1 (by omega) ?o2 ?o3 ?o4 (wr.heap.size + 1) ?o5 ?_
            case o1 => intro u hu; simp at hu; rcases hu with rfl | rfl | rfl <;> rfl
            case o2 => unfold maxLen; omega
            case o3 => omega
            case o4 => show c + 1 ≤ (wr.alloc _).heap.size; simp; omega
            case o5 => show (wr.alloc _).heap.size = _; simp
            intro gg cp w5 own5 hg5 hat5 hlt5
            replace hg5 : (wr.alloc (.cells #[.slice (some ⟨pbn, 0, none⟩) G.p.toNat pcn, .int .i64 0, .bool false, .bool false] 79)).grownBy w5 v.ownBlock := ⟨hg5.os, hg5.tape, hg5.output, hg5.size, hg5.block⟩
            have s5 : Turned (fun k => k = c ∨ v.ownBlock = some k) wr w5 := (Turned.of_below _ q4).grown hg5 (fun k hk => .inl (.inr hk))
            have HP := hN.step hp own5 hg5 hat5
            have b5 : w5.heap[c]? = some (.cells #[.int .i64 G.b, .int .i64 G.p, .int .i64 G.s, .int .i64 G.n, .int .i64 G.f, v, .int .i64 0, .bool true, .int .i64 0, .int .i64 0] 76 (0, 0)) := (grown_block hg5 (by omega) (fun e => by have := (hN.own.lt c e).1; omega)).trans ((q4.block c (by omega)).trans hbc)
            have hb5 : w5.cell? ⟨c, 5, none⟩ = some v := by simp [World.cell?, b5]
            have hf5 : w5.frozen? ⟨c, 5, none⟩ = false := by simp [World.frozen?, b5]
            have hc5 := hN.lt
            have bl5 : Below c w1 (w5.setCell ⟨c, 5, none⟩ (.slice (some ⟨gg, 0, none⟩) (no + 1) cp)) := (((HBO.out.trans (p5.mono (by omega))).trans (q4.mono (by omega))).trans ((Below.refl _ _).grown hg5 (by omega) (fun k hk => by have := (hN.own.lt k hk).1; omega))).setCell (p := ⟨c, 5, none⟩) (Nat.le_refl _) _
            have HP2 : Hid (∃ v pb pcap D, NewIs G c (no + 1) v pb pcap D (w5.setCell ⟨c, 5, none⟩ (.slice (some ⟨gg, 0, none⟩) (no + 1) cp))) := ⟨_, _, _, _, HP⟩
            have HBL : Hid (Below c w1 (w5.setCell ⟨c, 5, none⟩ (.slice (some ⟨gg, 0, none⟩) (no + 1) cp))) := bl5
            clear HP b5 own5 own4 hat5 hg5 bl5
            refine hK _ _ s5 ?_
            clear hK K
            refine held_reads (rs := [8, 9]) (fuel := 1) (by kernel_rfl) (fun c d v a w h => by cases d <;> exact h) (by kernel_rfl) (s5) (fun K hK => ?_)
            go_simp
            refine calm_do (.pointer (some ⟨c, 0, none⟩)) rfl (by rfl) (fun w' hw' => ?_) ?_
            · go_simp
            go_simp
            refine calm_do (.pointer (some ⟨c, 5, none⟩)) rfl (by rfl) (fun w' hw' => ?_) ?_
            · go_simp
            go_simp
            refine calm_nil (hK.out _ ?_)
            clear hK K
            refine held_op (i := 10) (fuel := 0) (by kernel_rfl) rfl (by rfl) (fun K hK => ?_)
            have s6 : Turned (fun k => k = c ∨ v.ownBlock = some k) wr (w5.setCell ⟨c, 5, none⟩ (.slice (some ⟨gg, 0, none⟩) (no + 1) cp)) := s5.setCell (p := ⟨c, 5, none⟩) (.inl (.inl rfl)) _
            go_simp
            refine hK _ _ s6 ?_
            clear hK K
            refine wpAnyH_done (by kernel_rfl) ?_ _
            go_wp2_with fail
            go_roundw
            case rel => exact ⟨no + 1, by omega, by go_num, HP2, HBL⟩
            case measure => simp [RowKit.intOf]; omega
          · have q4 := below_one wr (.cells #[.slice (some ⟨pbn, 0, none⟩) G.p.toNat pcn, .int .i64 0, .bool false, .bool false] 79)
            have s4 : Turned (fun k => k = c ∨ v.ownBlock = some k) wr (wr.alloc (.cells #[.slice (some ⟨pbn, 0, none⟩) G.p.toNat pcn, .int .i64 0, .bool false, .bool false] 79)).drew := (Turned.of_below _ q4).drew
            go_simp
            refine hK _ _ s4 ?_
            clear hK K
            refine held_op (i := 4) (fuel := 4) (by kernel_rfl) rfl (by rfl) (fun K hK => ?_)
            have hb0 := HB5.out _ (q4)
            have hb1 := HB5.out _ (Below.refl _ _)
            go_simp
            refine hK _ _ (s4) ?_
            clear hK K hb0 hb1
            refine held_op (i := 7) (fuel := 3) (by kernel_rfl) rfl (by rfl) (fun K hK => ?_)
            have own4 := (owns_below7 hN.own p5 hcb).alloc (.cells #[.slice (some ⟨pbn, 0, none⟩) G.p.toNat pcn, .int .i64 0, .bool false, .bool false] 79) |>.drew
            have hsz4 := q4.size
            refine wp_append_lies _ (.tmp 41) (.tmp 43) 74 (by rfl) (c + 1) 79 ib (.agg #[.slice none 0 0, .int .i64 0, .bool false, .bool false]) 4 40 Tryz.underlying74 hib hib0 hib1 hib2 (by rfl) (by omega) v no (blockCells pb pcap G.p.toNat no) (by rfl) own4 ⟨wr.heap.size, 0, none⟩ 1 1 [.slice (some ⟨pbn, 0, none⟩) G.p.toNat pcn, .int .i64 0, .bool false, .bool false] (by rfl) (by rfl) (cells_new4 _ _ _ _ _ _) ?o1 (by omega) ?o2 ?o3 ?o4 (wr.heap.size + 1) ?o5 ?_
            case o1 => intro u hu; simp at hu; rcases hu with rfl | rfl | rfl <;> rfl
            case o2 => unfold maxLen; omega
            case o3 => omega
            case o4 => show c + 1 ≤ (wr.alloc _).heap.size; simp; omega
            case o5 => show (wr.alloc _).heap.size = _; simp
            intro gg cp w5 own5 hg5 hat5 hlt5
            replace hg5 : (wr.alloc (.cells #[.slice (some ⟨pbn, 0, none⟩) G.p.toNat pcn, .int .i64 0, .bool false, .bool false] 79)).grownBy w5 v.ownBlock := ⟨hg5.os, hg5.tape, hg5.output, hg5.size, hg5.block⟩
            have s5 : Turned (fun k => k = c ∨ v.ownBlock = some k) wr w5 := (Turned.of_below _ q4).grown hg5 (fun k hk => .inl (.inr hk))
            have HP := hN.step hp own5 hg5 hat5
            have b5 : w5.heap[c]? = some (.cells #[.int .i64 G.b, .int .i64 G.p, .int .i64 G.s, .int .i64 G.n, .int .i64 G.f, v, .int .i64 0, .bool true, .int .i64 0, .int .i64 0] 76 (0, 0)) := (grown_block hg5 (by omega) (fun e => by have := (hN.own.lt c e).1; omega)).trans ((q4.block c (by omega)).trans hbc)
            have hb5 : w5.cell? ⟨c, 5, none⟩ = some v := by simp [World.cell?, b5]
            have hf5 : w5.frozen? ⟨c, 5, none⟩ = false := by simp [World.frozen?, b5]
            have hc5 := hN.lt
            have bl5 : Below c w1 (w5.setCell ⟨c, 5, none⟩ (.slice (some ⟨gg, 0, none⟩) (no + 1) cp)) := (((HBO.out.trans (p5.mono (by omega))).trans (q4.mono (by omega))).trans ((Below.refl _ _).grown hg5 (by omega) (fun k hk => by have := (hN.own.lt k hk).1; omega))).setCell (p := ⟨c, 5, none⟩) (Nat.le_refl _) _
            have HP2 : Hid (∃ v pb pcap D, NewIs G c (no + 1) v pb pcap D (w5.setCell ⟨c, 5, none⟩ (.slice (some ⟨gg, 0, none⟩) (no + 1) cp))) := ⟨_, _, _, _, HP⟩
            have HBL : Hid (Below c w1 (w5.setCell ⟨c, 5, none⟩ (.slice (some ⟨gg, 0, none⟩) (no + 1) cp))) := bl5
            clear HP b5 own5 own4 hat5 hg5 bl5
            refine hK _ _ s5 ?_
            clear hK K
            refine held_reads (rs := [8, 9]) (fuel := 1) (by kernel_rfl) (fun c d v a w h => by cases d <;> exact h) (by kernel_rfl) (s5) (fun K hK => ?_)
            go_simp
            refine calm_do (.pointer (some ⟨c, 0, none⟩)) rfl (by rfl) (fun w' hw' => ?_) ?_
            · go_simp
            go_simp
            refine calm_do (.pointer (some ⟨c, 5, none⟩)) rfl (by rfl) (fun w' hw' => ?_) ?_
            · go_simp
            go_simp
            refine calm_nil (hK.out _ ?_)
            clear hK K
            refine held_op (i := 10) (fuel := 0) (by kernel_rfl) rfl (by rfl) (fun K hK => ?_)
            have s6 : Turned (fun k => k = c ∨ v.ownBlock = some k) wr (w5.setCell ⟨c, 5, none⟩ (.slice (some ⟨gg, 0, none⟩) (no + 1) cp)) := s5.setCell (p := ⟨c, 5, none⟩) (.inl (.inl rfl)) _
            go_simp
            refine hK _ _ s6 ?_
            clear hK K
            refine wpAnyH_done (by kernel_rfl) ?_ _
            go_wp2_with fail
            go_roundw
            case rel => exact ⟨no + 1, by omega, by go_num, HP2, HBL⟩
            case measure => simp [RowKit.intOf]; omega
    · have e : no = G.b.toNat := by omega
      have hge : ¬ (no : Int) < G.b := by omega
      obtain ⟨v, pb, pcap, D, hN⟩ := HN.out
      rw [e] at hN
      obtain ⟨R, F, rfl, rfl, hR0, hF0⟩ := hN.done' ps
      have HF0 : Hid (∀ x, F x → gk ≤ x) := fun x hx => by have := hF0 x hx; omega
      have HQ3 : Hid (Below gk w wr) := by show Below _ _ _; rw [← HGK.out]; exact HQ1.out.trans (HBO.out.mono (by rw [HGK.out]; omega))
      have HR3 : Hid (Row .i64 wr a len cap ps) := HR1.out.below HBO.out (by rw [HCC.out]; exact Nat.le_refl _)
      clear hN hF0 HN
      have HS0 : Hid (RefAt G R F (CS.fresh G.L ps 0) wr ∧ Turned F wr wr) := ⟨hR0, Turned.refl _ _⟩
      clear hR0 HBO
      go_wp2_with fail
      clear e0 e1 e2 e3 e4
      obtain ⟨wd, hwd⟩ : ∃ x, x = wr := ⟨_, rfl⟩
      subst hwd
      go_loopw [10] (fun ii wr => ∃ n : Nat, n ≤ len ∧ ii = .int .i64 (n : Int) ∧ Hid (RefAt G R F (CS.fresh G.L ps n) wr ∧ Turned F wd wr) ∧ Hid (∀ x ∈ ps.take n, inB0 x G.b = true)) (fun ii _ => len - (RowKit.intOf ii).toNat)
      case atStart => exact ⟨0, Nat.zero_le _, rfl, HS0, fun x hx => by simp at hx⟩
      case round =>
        clear HS0
        obtain ⟨n, hn, rfl, HS, HT⟩ := hrel
        have hgs : gk ≤ wd.heap.size := by have := HQ3.out.size; rw [← HGK.out]; exact this
        have hbel : Below gk w wr := HQ3.out.trans (HS.out.2.below hgs HF0.out)
        have HQ : Hid (Below w.heap.size w wr) := by show Below _ _ _; rw [HGK.out]; exact hbel
        have hrr := HR3.out.turned HS.out.2 (fun h0 x hx hF => by have := HAB.out h0 x hx; have := HF0.out _ hF; omega)
        by_cases hlt2 : n < len
        · have hlt2' : (n : Int) < (len : Int) := by omega
          have hab := HAB.out
          obtain ⟨rb, ro, rfl, _, hrc⟩ := hrr.hcell (by omega)
          have hrb : rb < gk := hab (by omega) _ rfl
          have cx := hrc n hlt2
          have HXE : Hid (ps[n]?.getD 0 = ps[n]?.getD 0) := rfl
          have hmem : ps[n]?.getD 0 ∈ ps := by have := HL.out; rw [List.getElem?_eq_getElem (by omega)]; exact List.getElem_mem _
          have HTS : Hid (inB0 (ps[n]?.getD 0) G.b = true → ∀ x ∈ ps.take (n + 1), inB0 x G.b = true) := fun hb x hx => by
            have := HL.out
            rw [take_snocB ps n (by omega), List.mem_append, List.mem_singleton] at hx
            rcases hx with hx | hx
            · exact HT.out x hx
            · rw [hx]; exact hb
          have HFS : Hid ((CS.fresh G.L ps n).mark (ps[n]?.getD 0) = CS.fresh G.L ps (n + 1)) := CS.fresh_step G.L ps n (by have := HL.out; omega)
          clear hrc hrr
          generalize ps[n]?.getD 0 = x at cx hmem HTS HFS
          cases hb : inB0 x G.b
          · go_wp2_with fail
            refine (ref7Has_any x _ HS.out.1.cell).mono ?_
            rw [hb]
            rintro e w5 ⟨rfl, rfl⟩
            clear cx
            go_wp2_with fail
            go_ret2
            first | exact .inr ⟨⟨x, hmem, hb⟩, rfl, HQ.out⟩ | exact .inr ⟨⟨x, hmem, hb⟩, rfl, hbel⟩
          · have hb' := hb
            obtain ⟨k, rfl, hk⟩ := inB0_nat hb'
            clear hb'
            have h5 := HS.out.1
            have HX : Hid (∀ w', Turned (fun k => k = R.bb) wr w' → w'.cell? ⟨R.c, 5, none⟩ = some (.slice (some ⟨R.bb, 0, none⟩) G.b.toNat R.bcap) ∧ w'.cell? ⟨rb, ro + n, none⟩ = some (.int .i64 (k : Int))) := fun w' hw' => by
              have hbF := HF0.out _ (h5.inF R.bb (.inr (.inl rfl)))
              exact ⟨(cell_same (hw'.block R.c h5.lt h5.ne1) _).trans h5.cell.cells.c5, (cell_same (hw'.block rb (by have := hbel.size; have := HS.out.2.size; omega) (by omega)) _).trans cx⟩
            have hbI : (k : Int) < ((G.b.toNat : Nat) : Int) := by omega
            have d2 := (h5.blocks k hk).c2
            have f2 := h5.bfr (k * 4 + 2)
            have h6 := (h5.set_bd (x := (k : Int)) rfl hk).drew
            rw [HFS.out] at h6
            have t6 := (HS.out.2.setCell (p := ⟨R.bb, k * 4 + 2, none⟩) (.inl (h5.inF _ (.inr (.inl rfl)))) (.bool true)).drew
            have H6 : Hid (RefAt G R F (CS.fresh G.L ps (n + 1)) (wr.setCell ⟨R.bb, k * 4 + 2, none⟩ (.bool true)).drew ∧ Turned F wd (wr.setCell ⟨R.bb, k * 4 + 2, none⟩ (.bool true)).drew) := ⟨h6, t6⟩
            clear h6 t6
            go_wp2_with fail
            refine (ref7Has_any (k : Int) _ HS.out.1.cell).mono ?_
            rw [hb]
            rintro e w5 ⟨rfl, rfl⟩
            clear cx h5
            generalize (CS.fresh G.L ps n).bd (k : Int) = old at *
            go_wp2_with fail
            generalize G.b.toNat = Bn at *
            refine held_open (Turned (fun k => k = R.bb) wr) (by kernel_rfl) ?_
            refine held_reads (rs := [0, 1, 2, 3, 4, 5, 6, 7, 8, 9]) (fuel := 1) (by kernel_rfl) (fun c d v a w h => by cases d <;> exact h) (by kernel_rfl) ((Turned.refl _ _).drew) (fun K hK => ?_)
            refine calm_move _ rfl (by rfl) rfl ?_
            go_simp
            refine calm_do (.pointer (some ⟨R.c, 0, none⟩)) rfl (by rfl) (fun w' hw' => ?_) ?_
            · go_simp
            go_simp
            refine calm_do (.pointer (some ⟨R.c, 5, none⟩)) rfl (by rfl) (fun w' hw' => ?_) ?_
            · go_simp
            go_simp
            refine calm_do (.slice (some ⟨R.bb, 0, none⟩) Bn R.bcap) rfl (by rfl) (fun w' hw' => ?_) ?_
            · have x5 := (HX.out w' hw').1
              go_simp
            go_simp
            refine calm_move _ rfl (by rfl) rfl ?_
            go_simp
            refine calm_move _ rfl (by rfl) rfl ?_
            go_simp
            refine calm_do (.pointer (some ⟨rb, ro + n, none⟩)) rfl (by rfl) (fun w' hw' => ?_) ?_
            · skip
              go_simp
            go_simp
            refine calm_do (.int .i64 (k : Int)) rfl (by rfl) (fun w' hw' => ?_) ?_
            · have x6 := (HX.out w' hw').2
              go_simp
            go_simp
            refine calm_do (.pointer (some ⟨R.bb, k * 4, none⟩)) rfl (by rfl) (fun w' hw' => ?_) ?_
            · skip
              go_simp
            go_simp
            refine calm_do (.pointer (some ⟨R.bb, k * 4 + 2, none⟩)) rfl (by rfl) (fun w' hw' => ?_) ?_
            · skip
              go_simp
            go_simp
            refine calm_nil (hK.out _ ?_)
            clear hK K
            refine held_op (i := 10) (fuel := 0) (by kernel_rfl) rfl (by rfl) (fun K hK => ?_)
            have s5 : Turned (fun k => k = R.bb) wr (wr.setCell ⟨R.bb, k * 4 + 2, none⟩ (.bool true)).drew := ((Turned.refl (fun k => k = R.bb) wr).setCell (p := ⟨R.bb, k * 4 + 2, none⟩) (.inl rfl) _).drew
            go_simp
            refine hK _ _ s5 ?_
            clear hK K
            refine wpAnyH_done (by kernel_rfl) ?_ _
            go_wp2_with fail
            go_roundw
            case rel => exact ⟨n + 1, by omega, by go_num, H6, HTS.out hb⟩
            case measure => simp [RowKit.intOf]; omega
        · have e : n = len := by omega
          have hge2 : ¬ (n : Int) < (len : Int) := by omega
          have hps : n = ps.length := by rw [HL.out]; exact e
          have HS9 := HS.out.1
          have HT9 := HT.out
          rw [hps] at HS9 HT9
          rw [List.take_length] at HT9
          have HF9 : Hid (∀ x, F x → w.heap.size ≤ x) := fun x hx => by rw [HGK.out]; exact HF0.out x hx
          have H9 : Hid (RefAt G R F (CS.fresh G.L ps ps.length) wr) := HS9
          clear hps HS9 e
          go_wp2_with fail
          go_ret2
          first | exact .inl ⟨HT9, R, rfl, F, H9.out, HF9.out, HQ.out⟩ | exact .inl ⟨HT9, R, F, rfl, H9.out, HF9.out, HQ.out⟩ | exact .inl ⟨HT9, R, rfl, F, H9.out, HF0.out, hbel⟩

end Go.Proofs.YtggpgdaacbmmdaaGreat
