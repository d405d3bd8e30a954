/-
  The document's answer of layer 7 (casemateref07): Program, Erase. (Written by tools/gen/chip_ref3.py.)
-/
import Derived.Test.YtggpgdaacbmmdaaGreatChipRef2
namespace Go.Proofs.YtggpgdaacbmmdaaGreat
open Go Go.RowKit Go.Maps
set_option linter.unusedVariables false
set_option maxRecDepth 8192

section
variable {P : Program} {ops : Array Oper} {Q : Exit → Act → World → Prop} {md : Region.Mode} {S : World → Prop}
/-- The beginning, whatever the condition. -/
theorem held_open (S : World → Prop) {id : Nat} {a : Act} {w : World} (hm : P.follows .mixedOrders = true)
    (h : wpAnyH P .any ops Q S ops.size (Array.replicate ops.size false) a w.drew) : (Code.region id ops true).wp P Q a w := wp_region_held hm h
/-- The one operation that may come up. -/
theorem held_op {i : Nat} {o : Oper} {fuel : Nat} {listed : Array Bool} {a : Act} {w : World} (hr : Region.ready md ops listed = [i]) (ho : ops[i]? = some o)
    (hw : Region.wanted o (yielded ops a.tmps) = true)
    (h : ∀ K' : Act → World → Prop, (∀ a w1, S w1 → wpAnyH P md ops Q S fuel (listed.setIfInBounds i true) a w1 → K' a w1) → Oper.wp P o a w K' Q) :
    wpAnyH P md ops Q S (fuel + 1) listed a w := by
  refine wpAnyH_all hr (by simp) fun j hj => ?_
  simp only [List.mem_singleton] at hj
  subst hj
  refine wpOp_step ho fun K' hK => ?_
  rw [if_pos hw]
  exact h K' fun a w1 hs hh => hK a w1 ⟨hs, hh⟩
end

section
variable {G : Geo} {R : RB} {F : Nat → Prop} {S : CS}
theorem setCell_grown (w : World) (a : Addr) (u : Value) : w.grownBy (w.setCell a u) (some a.block) := ⟨rfl, rfl, rfl, by simp, fun k _ h => Below.heap_setCell w a u k (fun e => h (by rw [e]))⟩
/-- A page is stored: its row lies in a block that is none of the chip's yet. -/
theorem RefAt.putPage {w : World} (h : RefAt G R F S w) {i j : Nat} (hi : i < G.b.toNat) (hj : j < G.p.toNat) (q cap : Nat) (z : List Int) (hq : ¬ F q) (hql : q < w.heap.size) (hr : Row .u8 w (some ⟨q, 0, none⟩) G.L cap z) (hz : IsB z)
    (a : Option Addr) (len c : Nat) (l : List Int) (rl : Row .i64 w a len c l) (fl : 0 < len → ∀ x, a = some x → F x.block ∧ ¬ R.core G.b.toNat x.block) (nd : l.Nodup) (ia : inAll G.L l) (wr : Int → Bool) (me : ∀ x, x ∈ l ↔ wr x = true) :
    RefAt G R (fun k => F k ∨ k = q) (S.setPage (i : Int) (j : Int) z wr) ((w.setCell ⟨R.pb i, j * 2, none⟩ (.slice (some ⟨q, 0, none⟩) G.L cap)).setCell ⟨R.pb i, j * 2 + 1, none⟩ (.slice a len c)) := by
  have hpF : F (R.pb i) := h.inF _ (.inr (.inr ⟨i, hi, rfl⟩))
  have hqp : q ≠ R.pb i := fun e => hq (e ▸ hpF)
  have hqc : ¬ R.core G.b.toNat q := fun hh => hq (h.inF q hh)
  obtain ⟨g0, cap0, a0, len0, c0, l0, e0, e1, _⟩ := h.pages i hi j hj
  have hg : w.grownBy ((w.setCell ⟨R.pb i, j * 2, none⟩ (.slice (some ⟨q, 0, none⟩) G.L cap)).setCell ⟨R.pb i, j * 2 + 1, none⟩ (.slice a len c)) (some (R.pb i)) := (setCell_grown w ⟨R.pb i, j * 2, none⟩ _).trans (setCell_grown _ ⟨R.pb i, j * 2 + 1, none⟩ _)
  refine h.setP rfl rfl hi hj hg (fun k => by rw [World.frozen?_setCell, World.frozen?_setCell]; exact h.pfr i hi k) (fun k hk hn => ⟨?_, ?_⟩) (fun _ hk => .inl hk) (fun k hk => ?_) z wr ⟨q, cap, a, len, c, l, ?_, ?_, ⟨.inr rfl, hqc⟩, hr.same hg.size (hg.block q hql (fun e => hqp (by first | exact Option.some.inj e | exact (Option.some.inj e).symm))), hz, rl.same' hg.size (fun p x hx => ?_), fun p x hx => ⟨.inl (fl p x hx).1, (fl p x hx).2⟩, nd, ia, me⟩
  · exact (cell_set_other (by omega)).trans (cell_set_other (by omega))
  · exact (cell_set_other (by omega)).trans (cell_set_other (by omega))
  · rcases hk with hk | rfl
    · exact Nat.lt_of_lt_of_le (h.fresh k hk) hg.size
    · exact Nat.lt_of_lt_of_le hql hg.size
  · exact (cell_set_other (by omega)).trans (cell_set_same e0)
  · exact cell_set_same ((cell_set_other (by omega)).trans e1)
  · exact hg.block _ (h.fresh _ (fl p x hx).1) (fun e => (fl p x hx).2 (.inr (.inr ⟨i, hi, by first | exact Option.some.inj e | exact (Option.some.inj e).symm⟩)))

/-- So many bytes of z, ff behind them. -/
def layTo (z : List Int) (k L : Nat) : List Int := z.take k ++ List.replicate (L - k) 255
theorem layTo_zero (z : List Int) (L : Nat) : layTo z 0 L = List.replicate L 255 := by unfold layTo; simp
theorem layTo_len {z : List Int} {k L : Nat} (hk : k ≤ z.length) (hl : k ≤ L) : (layTo z k L).length = L := by unfold layTo; simp; omega
theorem layTo_pad {z : List Int} {k L : Nat} (hk : k ≤ z.length) : layTo z k L = padF L (z.take k) := by unfold layTo padF; rw [List.length_take, Nat.min_eq_left hk]
theorem layTo_set {z : List Int} {k L : Nat} (hk : k < z.length) (hl : k < L) : (layTo z k L).set k (z[k]?.getD 0) = layTo z (k + 1) L := by
  unfold layTo
  obtain ⟨d, hd⟩ : ∃ d, L - k = d + 1 := ⟨L - k - 1, by omega⟩
  rw [List.set_append_right _ _ (by simp; omega), List.length_take, Nat.min_eq_left (by omega), Nat.sub_self, hd, List.replicate_succ, List.set_cons_zero, show L - (k + 1) = d by omega, take_snocB z k hk, List.append_assoc]
  rfl
theorem setPage_lay (S : CS) (x y : Int) (z : List Int) (hn : S.nx x = y) : ({ S.setPage x y z (S.wr x y) with nx := fun b => if b = x then y + 1 else (S.setPage x y z (S.wr x y)).nx b } : CS) = S.lay x y z := by
  unfold CS.setPage CS.lay
  simp only [CS.mk.injEq, and_true, true_and]
  refine ⟨?_, ?_⟩
  · funext b
    by_cases h : b = x
    · rw [if_pos h, if_pos h, hn]; omega
    · rw [if_neg h, if_neg h]
  · funext b p
    by_cases h : b = x ∧ p = y
    · rw [if_pos h, h.1, h.2]
    · rw [if_neg h]

set_option maxHeartbeats 3200000 in
theorem ref7Program_any (x y : Int) (a : Option Addr) (len cap : Nat) (z : List Int) (w : World) (h : RefAt G R F S w) (hr : Row .u8 w a len cap z) (hdis : 0 < len → ∀ x, a = some x → ¬ F x.block) (hz : IsB z) :
    Calls Tryz.prog 67 #[.pointer (some ⟨R.c, 0, none⟩), .int .i64 x, .int .i64 y, .slice a len cap] w fun e w' => e = .returned (.int .i64 (S.doProgram G x y z).1) ∧ RDoes G R F w (S.doProgram G x y z).2 w' := by
  have hzl := hr.hlen
  have hlm : len ≤ maxLen := Nat.le_trans hr.hcap hr.hmax
  unfold maxLen at hlm
  subst hzl
  cases hu : S.up
  · have HR : Hid (S.doProgram G x y z = (70, S)) := by show _ = _; unfold CS.doProgram; rw [if_pos hu]
    rw [HR.out]
    clear HR
    have c7 := h.cell.cells.c7
    rw [hu] at c7
    go_enter Tryz.func67, Tryz.ntmps67
    go_wp2_with fail
    go_ret
    exact ⟨rfl, RDoes.of w h (Turned.refl _ _)⟩
  cases hp : hasP G x y
  · have hf : fitsP G x y z.length = false := by unfold fitsP; rw [hp]; rfl
    have HR : Hid (S.doProgram G x y z = (1, S)) := by show _ = _; unfold CS.doProgram; rw [if_neg (by rw [hu]; simp), if_pos hf]
    rw [HR.out]
    clear HR
    have c7 := h.cell.cells.c7
    rw [hu] at c7
    go_enter Tryz.func67, Tryz.ntmps67
    go_wp2_with fail
    refine (ref7Page_any x y _ h.cell).mono ?_
    rw [hp]
    rintro e w1 ⟨rfl, rfl⟩
    go_wp2_with fail
    go_ret
    exact ⟨rfl, RDoes.of w h (Turned.refl _ _)⟩
  have hL := G.ok.L2
  by_cases hzL : z.length = G.L
  case neg =>
    have hf : fitsP G x y z.length = false := by unfold fitsP; rw [hp, decide_eq_false hzL]; rfl
    have HR : Hid (S.doProgram G x y z = (1, S)) := by show _ = _; unfold CS.doProgram; rw [if_neg (by rw [hu]; simp), if_pos hf]
    rw [HR.out]
    clear HR hf
    have c7 := h.cell.cells.c7
    rw [hu] at c7
    have hne : (((z.length : Nat) : Int) != ((G.L : Nat) : Int)) = true := by simp; omega
    clear hzL
    go_enter Tryz.func67, Tryz.ntmps67
    go_wp2_with fail
    refine (ref7Page_any x y _ h.cell).mono ?_
    rw [hp]
    rintro e w1 ⟨rfl, rfl⟩
    obtain ⟨c0, c1, c2, c3, c4, _⟩ := h.cell.cells
    go_wp2_with fail
    clear c0 c1 c2 c3 c4
    refine (refRaw_any G.ok _).mono ?_
    rintro e w2 ⟨rfl, q2⟩
    replace hr := hr.below q2 (Nat.le_refl _)
    have t2 : Turned F w w2 := Turned.of_below F q2
    replace h := h.below q2
    clear c7
    go_wp2_with fail
    go_ret
    exact ⟨rfl, RDoes.of w h t2⟩
  have hf : fitsP G x y z.length = true := by unfold fitsP; rw [hp, decide_eq_true hzL]; rfl
  have HZL : Hid (z.length = G.L) := hzL
  have hzl2 : z.length ≤ 1000 := by omega
  have hz1 : 1 ≤ z.length := by omega
  clear hzL
  obtain ⟨i, j, rfl, rfl, hi, hj⟩ := hasP_nat hp
  have hj64 : (j : Int) < 64 := by have := G.ok.hp; omega
  have hiI : (i : Int) < ((G.b.toNat : Nat) : Int) := by omega
  have hjI : (j : Int) < ((G.p.toNat : Nat) : Int) := by omega
  by_cases ho : (j : Int) = S.nx (i : Int)
  case neg =>
    have HR : Hid (S.doProgram G (i : Int) (j : Int) z = (71, S)) := by show _ = _; unfold CS.doProgram; rw [if_neg (by rw [hu]; simp), if_neg (by rw [hf]; simp), if_pos ho]
    rw [HR.out]
    clear HR
    have c7 := h.cell.cells.c7
    rw [hu] at c7
    go_enter Tryz.func67, Tryz.ntmps67
    go_wp2_with fail
    refine (ref7Page_any (i : Int) (j : Int) _ h.cell).mono ?_
    rw [hp]
    rintro e w1 ⟨rfl, rfl⟩
    obtain ⟨c0, c1, c2, c3, c4, _⟩ := h.cell.cells
    go_wp2_with fail
    clear c0 c1 c2 c3 c4
    refine (refRaw_any G.ok _).mono ?_
    rintro e w2 ⟨rfl, q2⟩
    replace hr := hr.below q2 (Nat.le_refl _)
    have t2 : Turned F w w2 := Turned.of_below F q2
    replace h := h.below q2
    clear c7
    have hnl : (((z.length : Nat) : Int) != ((G.L : Nat) : Int)) = false := by rw [HZL.out]; simp
    have c5 := h.cell.cells.c5
    have d1 := (h.blocks i hi).c1
    have H : Hid (RefAt G R F S w2) := h
    clear h
    have hbb : ((j : Int) != S.nx (i : Int)) = true := by simp [ho]
    generalize S.nx (i : Int) = nx at *
    generalize G.b.toNat = Bn at *
    generalize G.p.toNat = Pn at *
    go_wp2_with fail
    go_ret
    exact ⟨rfl, RDoes.of w H.out t2⟩
  have HO : Hid ((j : Int) = S.nx (i : Int)) := ho
  clear ho
  have hci := S.counted_is h.ah.1
  have hsm := hci.same
  have hke := hsm.2.2.2.2.2.2
  have hwk := hsm.2.2.2.1
  have hnx := hsm.2.1
  have hwr := hsm.2.2.2.2.1
  clear hsm
  by_cases hc : S.ah = 1
  · rw [decide_eq_true hc] at hci
    have HR : Hid (S.doProgram G (i : Int) (j : Int) z = (70, S.counted.lay (i : Int) (j : Int) (padF G.L (z.take (keptN S.ke z.length))))) := by show _ = _; unfold CS.doProgram; rw [if_neg (by rw [hu]; simp), if_neg (by rw [hf]; simp), if_neg (fun hh => hh HO.out), if_pos hc]
    rw [HR.out]
    clear HR
    generalize S.counted = S1 at *
    have hkl : keptN S.ke z.length ≤ z.length := by unfold keptN; omega
    obtain ⟨kk, hkd⟩ : ∃ kk, keptN S.ke z.length = kk := ⟨_, rfl⟩
    rw [hkd] at hkl ⊢
    have HKD : Hid (keptN S.ke z.length = kk) := hkd
    clear hkd
    have c7 := h.cell.cells.c7
    rw [hu] at c7
    go_enter Tryz.func67, Tryz.ntmps67
    go_wp2_with fail
    refine (ref7Page_any (i : Int) (j : Int) _ h.cell).mono ?_
    rw [hp]
    rintro e w1 ⟨rfl, rfl⟩
    obtain ⟨c0, c1, c2, c3, c4, _⟩ := h.cell.cells
    go_wp2_with fail
    clear c0 c1 c2 c3 c4
    refine (refRaw_any G.ok _).mono ?_
    rintro e w2 ⟨rfl, q2⟩
    replace hr := hr.below q2 (Nat.le_refl _)
    have t2 : Turned F w w2 := Turned.of_below F q2
    replace h := h.below q2
    clear c7
    have hnl : (((z.length : Nat) : Int) != ((G.L : Nat) : Int)) = false := by rw [HZL.out]; simp
    have c5 := h.cell.cells.c5
    have d1 := (h.blocks i hi).c1
    have hbb : ((j : Int) != S.nx (i : Int)) = false := by rw [← HO.out]; simp
    have H2 : Hid (RefAt G R F S w2) := h
    generalize hnn : S.nx (i : Int) = nx at d1 hbb
    have HNN : Hid (S.nx (i : Int) = nx) := hnn
    clear hnn h
    generalize hBN : G.b.toNat = Bn at c5 hiI
    have HBN : Hid (G.b.toNat = Bn) := hBN
    clear hBN
    go_wp2_with fail
    clear c5 d1 hbb
    refine (ref7Deed_any _ H2.out hci).mono ?_
    rintro e w3 ⟨rfl, h3, t3⟩
    have hr3 := hr.turned t3 hdis
    replace t3 := t2.trans t3
    clear hr t2 H2
    have c9 := h3.cell.cells.c9
    rw [hke] at c9
    have hcm := ref7Clamp_any S.ke z.length w3 (by omega)
    rw [HKD.out] at hcm
    generalize S.ke = ke at *
    go_wp2_with fail
    clear c9
    refine hcm.mono ?_
    rintro e w4 ⟨rfl, rfl⟩
    clear hcm
    have hzl3 : (z.length : Int) ≤ 1000 := by omega
    have hcl := ref7Blank_any z.length hzl2
    go_wp2_with fail
    refine (hcl _).mono ?_
    rintro e w5 ⟨q, hq, rfl, hbq, q5⟩
    have h5 := h3.below q5
    have hr5 := hr3.below q5 (Nat.le_refl _)
    have t5 := t3.trans (Turned.of_below F q5)
    have hqF : ¬ F q := fun hf => by have := h3.fresh q hf; omega
    have q6 := below_one w5 (.cells #[.slice (some ⟨q, 0, none⟩) z.length z.length, .slice none 0 0] 81)
    have hb6 : (w5.alloc (.cells #[.slice (some ⟨q, 0, none⟩) z.length z.length, .slice none 0 0] 81)).heap[w5.heap.size]? = some (.cells #[.slice (some ⟨q, 0, none⟩) z.length z.length, .slice none 0 0] 81 (0, 0)) := (MapKept.heap_alloc w5 _).1
    have hql5 := hbq.lt
    have hbq6 := hbq.same (q6.block q hql5)
    have h6 := h5.below q6
    have hr6 := hr5.below q6 (Nat.le_refl _)
    have t6 := t5.trans (Turned.of_below F q6)
    have hgF : ¬ F w5.heap.size := fun hf => by have := h5.fresh _ hf; omega
    have hgq : w5.heap.size ≠ q := by omega
    have hgr : 0 < z.length → ∀ x, a = some x → x.block ≠ w5.heap.size ∧ x.block ≠ q := fun h0 x hx => by
      have h1 := hr3.blk_lt h0 x hx
      have := q5.size
      constructor <;> omega
    have HQW : Hid (w.heap.size ≤ q ∧ w.heap.size ≤ w5.heap.size) := ⟨Nat.le_trans t3.size hq, t5.size⟩
    clear h5 hr5 t5 h3 hr3 t3 q5 q6 hbq hql5 hcl hq
    go_wp2_with fail
    generalize w5.alloc (.cells #[.slice (some ⟨q, 0, none⟩) z.length z.length, .slice none 0 0] 81) = w6 at *
    generalize w5.heap.size = gx at *
    rw [← layTo_zero z] at hbq6
    go_loopw [13] (fun ii wr => ∃ n : Nat, n ≤ kk ∧ ii = .int .i64 (n : Int) ∧ Hid (Blk wr q (layTo z n z.length)) ∧ Hid (Turned (fun k => k = q) w6 wr)) (fun ii _ => kk - (RowKit.intOf ii).toNat)
    case atStart => exact ⟨0, Nat.zero_le _, rfl, hbq6, Turned.refl _ _⟩
    case round =>
      obtain ⟨n, hn, rfl, hzz, ht⟩ := hrel
      have bx : wr.heap[gx]? = some (.cells #[.slice (some ⟨q, 0, none⟩) z.length z.length, .slice none 0 0] 81 (0, 0)) := (ht.out.block gx (Array.getElem?_eq_some_iff.1 hb6).1 hgq).trans hb6
      have b0 : wr.cell? ⟨gx, 0, none⟩ = some (.slice (some ⟨q, 0, none⟩) z.length z.length) := by simp [World.cell?, bx]
      have b1 : wr.cell? ⟨gx, 1, none⟩ = some (.slice none 0 0) := by simp [World.cell?, bx]
      have f1 : wr.frozen? ⟨gx, 1, none⟩ = false := by simp [World.frozen?, bx]
      have hrr := hr6.turned ht.out (fun h0 x hx => (hgr h0 x hx).2)
      by_cases hlt : n < kk
      · have hlt' : (n : Int) < (kk : Int) := by omega
        have hltz : (n : Int) < (z.length : Int) := by omega
        obtain ⟨rb, ro, rfl, _, hrc⟩ := hrr.hcell (by omega)
        have cz := hrc n (by omega)
        have cn := hzz.out.cell (i := n) (by rw [layTo_len (by omega) (by omega)]; omega)
        have fn := hzz.out.frozen n
        have HZ2 : Hid (Blk (wr.setCell ⟨q, n, none⟩ (.int .u8 (z[n]?.getD 0))).drew q (layTo z (n + 1) z.length)) := by
          show Blk _ _ _
          rw [← layTo_set (by omega) (by omega)]; exact hzz.out.set n _
        have HT2 : Hid (Turned (fun k => k = q) w6 (wr.setCell ⟨q, n, none⟩ (.int .u8 (z[n]?.getD 0))).drew) := (ht.out.setCell (p := ⟨q, n, none⟩) (.inl rfl) _).drew
        clear hzz ht hrc hrr bx b1 f1
        generalize (layTo z n z.length)[n]?.getD 0 = old at *
        generalize z[n]?.getD 0 = zn at *
        generalize z.length = zlen at *
        go_wp2_with fail
        go_region
        go_wp2_with fail
        go_roundw
        case rel => exact ⟨n + 1, by omega, by go_num, HZ2, HT2⟩
        case measure => simp [RowKit.intOf]; omega
      · have e : n = kk := by omega
        have hge : ¬ (n : Int) < (kk : Int) := by omega
        have hz7 := hzz.out
        rw [e, layTo_pad (by omega)] at hz7
        have h7 := h6.turned ht.out (fun k hk e => hqF (e ▸ hk))
        have t7 := t6.andThen ht.out (fun k e => .inr (by rw [e]; exact HQW.out.1))
        obtain ⟨g0, cap0, aw, lw, cw, l, e0, e1, _, _, _, rl, fl, nd, ia, me⟩ := h7.pages i hi j hj
        have hbl := h7.blocks i hi
        -- p.Wrong = b.Pages[page].Wrong
        have tb : Turned (fun k => k = gx) wr (wr.setCell ⟨gx, 1, none⟩ (.slice aw lw cw)) := (Turned.refl (fun k => k = gx) wr).setCell (p := ⟨gx, 1, none⟩) (.inl rfl) _
        have h8 := h7.turned tb (fun k hk e => hgF (e ▸ hk))
        have t8 := t7.andThen tb (fun k e => .inr (by rw [e]; exact HQW.out.2))
        have hz8 := hz7.same (tb.block q hz7.lt (Ne.symm hgq))
        have bx8 : (wr.setCell ⟨gx, 1, none⟩ (.slice aw lw cw)).heap[gx]? = some (.cells #[.slice (some ⟨q, 0, none⟩) z.length z.length, .slice aw lw cw] 81 (0, 0)) := by
          have := block_setC (i := 1) bx (.slice aw lw cw); simpa using this
        have x0 : (wr.setCell ⟨gx, 1, none⟩ (.slice aw lw cw)).cell? ⟨gx, 0, none⟩ = some (.slice (some ⟨q, 0, none⟩) z.length z.length) := by simp [World.cell?, bx8]
        have x1 : (wr.setCell ⟨gx, 1, none⟩ (.slice aw lw cw)).cell? ⟨gx, 1, none⟩ = some (.slice aw lw cw) := by simp [World.cell?, bx8]
        have hrow := hz8.row (L := z.length) (padF_len (by rw [List.length_take]; omega)) (by unfold maxLen; omega)
        replace hrow : Row .u8 (wr.setCell ⟨gx, 1, none⟩ (.slice aw lw cw)) (some ⟨q, 0, none⟩) G.L G.L (padF G.L (z.take kk)) := by
          revert hrow
          generalize z.take kk = zk
          intro hrow
          rw [HZL.out] at hrow
          exact hrow
        have rl8 := rl.turned tb (fun p x hx e => hgF (e ▸ (fl p x hx).1))
        have hbl8 := h8.blocks i hi
        obtain ⟨_, _, _, _, _, _, y0, y1, _⟩ := h8.pages i hi j hj
        have g0f := h8.pfr i hi (j * 2)
        have g1f := h8.pfr i hi (j * 2 + 1)
        have d0 := hbl.c0
        have d08 := hbl8.c0
        -- b.Pages[page] = p
        have h9 := (h8.putPage hi hj q G.L _ hqF hz8.lt hrow (isB_padF (fun v hv => hz v (List.mem_of_mem_take hv))) aw lw cw l rl8 fl nd ia (S1.wr (i : Int) (j : Int)) me).drew
        have t9 := ((t8.setCell (p := ⟨R.pb i, j * 2, none⟩) (.inl (h8.inF _ (.inr (.inr ⟨i, hi, rfl⟩)))) (.slice (some ⟨q, 0, none⟩) G.L G.L)).setCell (p := ⟨R.pb i, j * 2 + 1, none⟩) (.inl (h8.inF _ (.inr (.inr ⟨i, hi, rfl⟩)))) (.slice aw lw cw)).drew
        have hbl9 := h9.blocks i hi
        have k1 := hbl9.c1
        have hnx1 : S1.nx (i : Int) = (j : Int) := by rw [hnx]; exact HO.out.symm
        have kf := h9.bfr (i * 4 + 1)
        have h10 := h9.set_nx (x := (i : Int)) rfl hi ((j : Int) + 1) (by omega)
        rw [show ({ S1.setPage (i : Int) (j : Int) (padF G.L (z.take kk)) (S1.wr (i : Int) (j : Int)) with nx := fun b => if b = (i : Int) then (j : Int) + 1 else (S1.setPage (i : Int) (j : Int) (padF G.L (z.take kk)) (S1.wr (i : Int) (j : Int))).nx b } : CS) = S1.lay (i : Int) (j : Int) (padF G.L (z.take kk)) from setPage_lay S1 _ _ _ hnx1] at h10
        have t10 := t9.setCell (p := ⟨R.bb, i * 4 + 1, none⟩) (.inl (h8.inF _ (.inr (.inl rfl)))) (.int .i64 ((j : Int) + 1))
        have k1' : ((wr.setCell ⟨gx, 1, none⟩ (.slice aw lw cw)).setCell ⟨R.pb i, j * 2, none⟩ (.slice (some ⟨q, 0, none⟩) G.L G.L) |>.setCell ⟨R.pb i, j * 2 + 1, none⟩ (.slice aw lw cw)).drew.cell? ⟨R.bb, i * 4 + 1, none⟩ = some (.int .i64 (j : Int)) := by
          rw [k1]; show some (Value.int .i64 (S1.nx (i : Int))) = _; rw [hnx1]
        have HD : Hid (RDoes G R F w (S1.lay (i : Int) (j : Int) (padF G.L (z.take kk))) ((((wr.setCell ⟨gx, 1, none⟩ (.slice aw lw cw)).setCell ⟨R.pb i, j * 2, none⟩ (.slice (some ⟨q, 0, none⟩) G.L G.L)).setCell ⟨R.pb i, j * 2 + 1, none⟩ (.slice aw lw cw)).drew.setCell ⟨R.bb, i * 4 + 1, none⟩ (.int .i64 ((j : Int) + 1)))) :=
          ⟨_, h10, t10, fun k hk => hk.imp id (fun e => by rw [e]; exact HQW.out.1)⟩
        have hPn : (j : Int) < ((G.p.toNat : Nat) : Int) := hjI
        rw [HZL.out] at x0
        clear h10 t10 k1 hbl9 h9 t9 h8 t8 h7 t7 hz7 hz8 hrow rl8 rl fl nd ia me hbl hbl8 tb bx bx8 hrr hzz ht b0
        generalize G.p.toNat = Pn at *
        go_wp2_with fail
        go_region
        go_wp2_with fail
        go_ret
        exact ⟨rfl, HD.out⟩
  
  · rw [decide_eq_false hc] at hci
    cases hw : S.wk (i : Int)
    case true =>
      have HR : Hid (S.doProgram G (i : Int) (j : Int) z = (72, S.counted)) := by show _ = _; unfold CS.doProgram; rw [if_neg (by rw [hu]; simp), if_neg (by rw [hf]; simp), if_neg (fun hh => hh HO.out), if_neg hc, if_pos hw]
      rw [HR.out]
      clear HR
      generalize S.counted = S1 at *
      have c7 := h.cell.cells.c7
      rw [hu] at c7
      go_enter Tryz.func67, Tryz.ntmps67
      go_wp2_with fail
      refine (ref7Page_any (i : Int) (j : Int) _ h.cell).mono ?_
      rw [hp]
      rintro e w1 ⟨rfl, rfl⟩
      obtain ⟨c0, c1, c2, c3, c4, _⟩ := h.cell.cells
      go_wp2_with fail
      clear c0 c1 c2 c3 c4
      refine (refRaw_any G.ok _).mono ?_
      rintro e w2 ⟨rfl, q2⟩
      replace hr := hr.below q2 (Nat.le_refl _)
      have t2 : Turned F w w2 := Turned.of_below F q2
      replace h := h.below q2
      clear c7
      have hnl : (((z.length : Nat) : Int) != ((G.L : Nat) : Int)) = false := by rw [HZL.out]; simp
      have c5 := h.cell.cells.c5
      have d1 := (h.blocks i hi).c1
      have hbb : ((j : Int) != S.nx (i : Int)) = false := by rw [← HO.out]; simp
      have H2 : Hid (RefAt G R F S w2) := h
      generalize hnn : S.nx (i : Int) = nx at d1 hbb
      have HNN : Hid (S.nx (i : Int) = nx) := hnn
      clear hnn h
      generalize hBN : G.b.toNat = Bn at c5 hiI
      have HBN : Hid (G.b.toNat = Bn) := hBN
      clear hBN
      go_wp2_with fail
      clear c5 d1 hbb
      refine (ref7Deed_any _ H2.out hci).mono ?_
      rintro e w3 ⟨rfl, h3, t3⟩
      have hr3 := hr.turned t3 hdis
      replace t3 := t2.trans t3
      clear hr t2 H2
      have d3 := (h3.blocks i hi).c3
      rw [hwk] at d3
      rw [hw] at d3
      have HD : Hid (RDoes G R F w S1 w3) := RDoes.of w h3 t3
      clear h3 t3
      go_wp2_with fail
      go_ret
      exact ⟨rfl, HD.out⟩
    have HR : Hid (S.doProgram G (i : Int) (j : Int) z = (0, S.counted.lay (i : Int) (j : Int) (padF G.L (z.take z.length)))) := by show _ = _; unfold CS.doProgram; rw [if_neg (by rw [hu]; simp), if_neg (by rw [hf]; simp), if_neg (fun hh => hh HO.out), if_neg hc, if_neg (by rw [hw]; simp), List.take_length]
    rw [HR.out]
    clear HR
    generalize S.counted = S1 at *
    have c7 := h.cell.cells.c7
    rw [hu] at c7
    go_enter Tryz.func67, Tryz.ntmps67
    go_wp2_with fail
    refine (ref7Page_any (i : Int) (j : Int) _ h.cell).mono ?_
    rw [hp]
    rintro e w1 ⟨rfl, rfl⟩
    obtain ⟨c0, c1, c2, c3, c4, _⟩ := h.cell.cells
    go_wp2_with fail
    clear c0 c1 c2 c3 c4
    refine (refRaw_any G.ok _).mono ?_
    rintro e w2 ⟨rfl, q2⟩
    replace hr := hr.below q2 (Nat.le_refl _)
    have t2 : Turned F w w2 := Turned.of_below F q2
    replace h := h.below q2
    clear c7
    have hnl : (((z.length : Nat) : Int) != ((G.L : Nat) : Int)) = false := by rw [HZL.out]; simp
    have c5 := h.cell.cells.c5
    have d1 := (h.blocks i hi).c1
    have hbb : ((j : Int) != S.nx (i : Int)) = false := by rw [← HO.out]; simp
    have H2 : Hid (RefAt G R F S w2) := h
    generalize hnn : S.nx (i : Int) = nx at d1 hbb
    have HNN : Hid (S.nx (i : Int) = nx) := hnn
    clear hnn h
    generalize hBN : G.b.toNat = Bn at c5 hiI
    have HBN : Hid (G.b.toNat = Bn) := hBN
    clear hBN
    go_wp2_with fail
    clear c5 d1 hbb
    refine (ref7Deed_any _ H2.out hci).mono ?_
    rintro e w3 ⟨rfl, h3, t3⟩
    have hr3 := hr.turned t3 hdis
    replace t3 := t2.trans t3
    clear hr t2 H2
    have d3 := (h3.blocks i hi).c3
    rw [hwk] at d3
    rw [hw] at d3
    have hzl3 : (z.length : Int) ≤ 1000 := by omega
    have hcl := ref7Blank_any z.length hzl2
    go_wp2_with fail
    refine (hcl _).mono ?_
    rintro e w5 ⟨q, hq, rfl, hbq, q5⟩
    have h5 := h3.below q5
    have hr5 := hr3.below q5 (Nat.le_refl _)
    have t5 := t3.trans (Turned.of_below F q5)
    have hqF : ¬ F q := fun hf => by have := h3.fresh q hf; omega
    have q6 := below_one w5 (.cells #[.slice (some ⟨q, 0, none⟩) z.length z.length, .slice none 0 0] 81)
    have hb6 : (w5.alloc (.cells #[.slice (some ⟨q, 0, none⟩) z.length z.length, .slice none 0 0] 81)).heap[w5.heap.size]? = some (.cells #[.slice (some ⟨q, 0, none⟩) z.length z.length, .slice none 0 0] 81 (0, 0)) := (MapKept.heap_alloc w5 _).1
    have hql5 := hbq.lt
    have hbq6 := hbq.same (q6.block q hql5)
    have h6 := h5.below q6
    have hr6 := hr5.below q6 (Nat.le_refl _)
    have t6 := t5.trans (Turned.of_below F q6)
    have hgF : ¬ F w5.heap.size := fun hf => by have := h5.fresh _ hf; omega
    have hgq : w5.heap.size ≠ q := by omega
    have hgr : 0 < z.length → ∀ x, a = some x → x.block ≠ w5.heap.size ∧ x.block ≠ q := fun h0 x hx => by
      have h1 := hr3.blk_lt h0 x hx
      have := q5.size
      constructor <;> omega
    have HQW : Hid (w.heap.size ≤ q ∧ w.heap.size ≤ w5.heap.size) := ⟨Nat.le_trans t3.size hq, t5.size⟩
    clear h5 hr5 t5 h3 hr3 t3 q5 q6 hbq hql5 hcl hq
    go_wp2_with fail
    generalize w5.alloc (.cells #[.slice (some ⟨q, 0, none⟩) z.length z.length, .slice none 0 0] 81) = w6 at *
    generalize w5.heap.size = gx at *
    rw [← layTo_zero z] at hbq6
    go_loopw [13] (fun ii wr => ∃ n : Nat, n ≤ z.length ∧ ii = .int .i64 (n : Int) ∧ Hid (Blk wr q (layTo z n z.length)) ∧ Hid (Turned (fun k => k = q) w6 wr)) (fun ii _ => z.length - (RowKit.intOf ii).toNat)
    case atStart => exact ⟨0, Nat.zero_le _, rfl, hbq6, Turned.refl _ _⟩
    case round =>
      obtain ⟨n, hn, rfl, hzz, ht⟩ := hrel
      have bx : wr.heap[gx]? = some (.cells #[.slice (some ⟨q, 0, none⟩) z.length z.length, .slice none 0 0] 81 (0, 0)) := (ht.out.block gx (Array.getElem?_eq_some_iff.1 hb6).1 hgq).trans hb6
      have b0 : wr.cell? ⟨gx, 0, none⟩ = some (.slice (some ⟨q, 0, none⟩) z.length z.length) := by simp [World.cell?, bx]
      have b1 : wr.cell? ⟨gx, 1, none⟩ = some (.slice none 0 0) := by simp [World.cell?, bx]
      have f1 : wr.frozen? ⟨gx, 1, none⟩ = false := by simp [World.frozen?, bx]
      have hrr := hr6.turned ht.out (fun h0 x hx => (hgr h0 x hx).2)
      by_cases hlt : n < z.length
      · have hlt' : (n : Int) < (z.length : Int) := by omega
        have hltz : (n : Int) < (z.length : Int) := by omega
        obtain ⟨rb, ro, rfl, _, hrc⟩ := hrr.hcell (by omega)
        have cz := hrc n (by omega)
        have cn := hzz.out.cell (i := n) (by rw [layTo_len (by omega) (by omega)]; omega)
        have fn := hzz.out.frozen n
        have HZ2 : Hid (Blk (wr.setCell ⟨q, n, none⟩ (.int .u8 (z[n]?.getD 0))).drew q (layTo z (n + 1) z.length)) := by
          show Blk _ _ _
          rw [← layTo_set (by omega) (by omega)]; exact hzz.out.set n _
        have HT2 : Hid (Turned (fun k => k = q) w6 (wr.setCell ⟨q, n, none⟩ (.int .u8 (z[n]?.getD 0))).drew) := (ht.out.setCell (p := ⟨q, n, none⟩) (.inl rfl) _).drew
        clear hzz ht hrc hrr bx b1 f1
        generalize (layTo z n z.length)[n]?.getD 0 = old at *
        generalize z[n]?.getD 0 = zn at *
        generalize z.length = zlen at *
        go_wp2_with fail
        go_region
        go_wp2_with fail
        go_roundw
        case rel => exact ⟨n + 1, by omega, by go_num, HZ2, HT2⟩
        case measure => simp [RowKit.intOf]; omega
      · have e : n = z.length := by omega
        have hge : ¬ (n : Int) < (z.length : Int) := by omega
        have hz7 := hzz.out
        rw [e, layTo_pad (by omega)] at hz7
        have h7 := h6.turned ht.out (fun k hk e => hqF (e ▸ hk))
        have t7 := t6.andThen ht.out (fun k e => .inr (by rw [e]; exact HQW.out.1))
        obtain ⟨g0, cap0, aw, lw, cw, l, e0, e1, _, _, _, rl, fl, nd, ia, me⟩ := h7.pages i hi j hj
        have hbl := h7.blocks i hi
        -- p.Wrong = b.Pages[page].Wrong
        have tb : Turned (fun k => k = gx) wr (wr.setCell ⟨gx, 1, none⟩ (.slice aw lw cw)) := (Turned.refl (fun k => k = gx) wr).setCell (p := ⟨gx, 1, none⟩) (.inl rfl) _
        have h8 := h7.turned tb (fun k hk e => hgF (e ▸ hk))
        have t8 := t7.andThen tb (fun k e => .inr (by rw [e]; exact HQW.out.2))
        have hz8 := hz7.same (tb.block q hz7.lt (Ne.symm hgq))
        have bx8 : (wr.setCell ⟨gx, 1, none⟩ (.slice aw lw cw)).heap[gx]? = some (.cells #[.slice (some ⟨q, 0, none⟩) z.length z.length, .slice aw lw cw] 81 (0, 0)) := by
          have := block_setC (i := 1) bx (.slice aw lw cw); simpa using this
        have x0 : (wr.setCell ⟨gx, 1, none⟩ (.slice aw lw cw)).cell? ⟨gx, 0, none⟩ = some (.slice (some ⟨q, 0, none⟩) z.length z.length) := by simp [World.cell?, bx8]
        have x1 : (wr.setCell ⟨gx, 1, none⟩ (.slice aw lw cw)).cell? ⟨gx, 1, none⟩ = some (.slice aw lw cw) := by simp [World.cell?, bx8]
        have hrow := hz8.row (L := z.length) (padF_len (by rw [List.length_take]; omega)) (by unfold maxLen; omega)
        replace hrow : Row .u8 (wr.setCell ⟨gx, 1, none⟩ (.slice aw lw cw)) (some ⟨q, 0, none⟩) G.L G.L (padF G.L (z.take z.length)) := by
          revert hrow
          generalize z.take z.length = zk
          intro hrow
          rw [HZL.out] at hrow
          exact hrow
        have rl8 := rl.turned tb (fun p x hx e => hgF (e ▸ (fl p x hx).1))
        have hbl8 := h8.blocks i hi
        obtain ⟨_, _, _, _, _, _, y0, y1, _⟩ := h8.pages i hi j hj
        have g0f := h8.pfr i hi (j * 2)
        have g1f := h8.pfr i hi (j * 2 + 1)
        have d0 := hbl.c0
        have d08 := hbl8.c0
        -- b.Pages[page] = p
        have h9 := (h8.putPage hi hj q G.L _ hqF hz8.lt hrow (isB_padF (fun v hv => hz v (List.mem_of_mem_take hv))) aw lw cw l rl8 fl nd ia (S1.wr (i : Int) (j : Int)) me).drew
        have t9 := ((t8.setCell (p := ⟨R.pb i, j * 2, none⟩) (.inl (h8.inF _ (.inr (.inr ⟨i, hi, rfl⟩)))) (.slice (some ⟨q, 0, none⟩) G.L G.L)).setCell (p := ⟨R.pb i, j * 2 + 1, none⟩) (.inl (h8.inF _ (.inr (.inr ⟨i, hi, rfl⟩)))) (.slice aw lw cw)).drew
        have hbl9 := h9.blocks i hi
        have k1 := hbl9.c1
        have hnx1 : S1.nx (i : Int) = (j : Int) := by rw [hnx]; exact HO.out.symm
        have kf := h9.bfr (i * 4 + 1)
        have h10 := h9.set_nx (x := (i : Int)) rfl hi ((j : Int) + 1) (by omega)
        rw [show ({ S1.setPage (i : Int) (j : Int) (padF G.L (z.take z.length)) (S1.wr (i : Int) (j : Int)) with nx := fun b => if b = (i : Int) then (j : Int) + 1 else (S1.setPage (i : Int) (j : Int) (padF G.L (z.take z.length)) (S1.wr (i : Int) (j : Int))).nx b } : CS) = S1.lay (i : Int) (j : Int) (padF G.L (z.take z.length)) from setPage_lay S1 _ _ _ hnx1] at h10
        have t10 := t9.setCell (p := ⟨R.bb, i * 4 + 1, none⟩) (.inl (h8.inF _ (.inr (.inl rfl)))) (.int .i64 ((j : Int) + 1))
        have k1' : ((wr.setCell ⟨gx, 1, none⟩ (.slice aw lw cw)).setCell ⟨R.pb i, j * 2, none⟩ (.slice (some ⟨q, 0, none⟩) G.L G.L) |>.setCell ⟨R.pb i, j * 2 + 1, none⟩ (.slice aw lw cw)).drew.cell? ⟨R.bb, i * 4 + 1, none⟩ = some (.int .i64 (j : Int)) := by
          rw [k1]; show some (Value.int .i64 (S1.nx (i : Int))) = _; rw [hnx1]
        have HD : Hid (RDoes G R F w (S1.lay (i : Int) (j : Int) (padF G.L (z.take z.length))) ((((wr.setCell ⟨gx, 1, none⟩ (.slice aw lw cw)).setCell ⟨R.pb i, j * 2, none⟩ (.slice (some ⟨q, 0, none⟩) G.L G.L)).setCell ⟨R.pb i, j * 2 + 1, none⟩ (.slice aw lw cw)).drew.setCell ⟨R.bb, i * 4 + 1, none⟩ (.int .i64 ((j : Int) + 1)))) :=
          ⟨_, h10, t10, fun k hk => hk.imp id (fun e => by rw [e]; exact HQW.out.1)⟩
        have hPn : (j : Int) < ((G.p.toNat : Nat) : Int) := hjI
        rw [HZL.out] at x0
        clear h10 t10 k1 hbl9 h9 t9 h8 t8 h7 t7 hz7 hz8 hrow rl8 rl fl nd ia me hbl hbl8 tb bx bx8 hrr hzz ht b0
        generalize G.p.toNat = Pn at *
        go_wp2_with fail
        go_region
        go_wp2_with fail
        go_ret
        exact ⟨rfl, HD.out⟩
  
end
end Go.Proofs.YtggpgdaacbmmdaaGreat
