/-
  Layer 18's reference: Order, Reduce, MulAdd, Clamp.
-/
import Derived.Test.YthangiocheodoaaGreatDoorPackFb
import Derived.Test.YthangiocheodoaaGreatDoorPackSs
import Derived.Test.YthangiocheodoaaGreatDoorPackNr
import Derived.Test.YthangiocheodoaaGreatDoorPackFr
import Derived.Deep.CutRange
namespace Go.Proofs.YthangiocheodoaaGreatDoor.N
open Go.RowKit
set_option linter.unusedVariables false
set_option maxRecDepth 8192

section
variable {P : Program} {ops : Array Oper} {rest : List Oper} {o : Oper} {a : Act} {w w0 : World} {Q : Exit → Act → World → Prop} {K : Act → World → Prop} {l : List AV}
/-- A slice of bytes that is made; all else is as it was. -/
theorem wp_sliceQ (V : Vars w0 w l) (d : Tmp) (t : TypeId) (n : Nat) (ps : List (Nat × Operand)) (hd : o.dst = some d) (ho : o.op = .buildSlice t n ps.toArray) (T : TypeId) (z : List Nat)
    (hb : ∀ w, (Instr.buildSlice t n (ps.map fun p => (p.1, a.eval p.2)).toArray).run P w = .ok (.slice (some ⟨w.heap.size, 0, none⟩) n n) (w.alloc (.cells (arr .u8 z) T)))
    (h : ∀ w' g, Vars w0 w' (⟨g, T, arr .u8 z⟩ :: l) → Below w.heap.size w w' → K (a.put (some d) (.slice (some ⟨g, 0, none⟩) n n)) w') : o.wp P a w K Q := by
  have hm : (ps.toArray.map fun (p : Nat × Operand) => match p with | (i, x) => (i, a.eval x)) = (ps.map fun p => (p.1, a.eval p.2)).toArray := by
    rw [List.map_toArray]
  unfold Oper.wp execOp
  simp only [ho, hm, hb, Sem.run_bind, Sem.run_pure, Result.andThen_ok]
  have := h _ _ (V.new T (arr .u8 z)) (below_one w _)
  rw [← hd] at this
  exact this
theorem exec_indexS (T : TypeId) (x y : Operand) (ho : o.op = .index T x y) (s : ByteArray) (k c : Nat) (hx : a.eval x = .string s) (hy : a.eval y = .int .i64 (k : Int)) (hu : P.underlying T = some .string) (hk : k < s.size) (hc : (s[k]'hk).toNat = c) : (execOp a.eval o).run P w = .ok (.value (.int .u8 (c : Int))) w := by
  have h1 : (0 : Int) ≤ (k : Int) ∧ (k : Int) < s.size := ⟨by omega, by omega⟩
  unfold execOp
  simp only [ho, hx, hy, run_index_string w T s .i64 (k : Int) hu, dif_pos h1, Sem.run_bind, Sem.run_pure, Result.andThen_ok, Int.toNat_natCast, hc]
end
theorem row_lit {w : World} {g : Nat} {T : TypeId} {z : List Nat} (h : w.heap[g]? = some (.cells (arr .u8 z) T (0, 0))) (hl : z.length ≤ 1000) : Row .u8 w (some ⟨g, 0, none⟩) z.length z.length (nI z) := by
  refine ⟨nI_length z, Nat.le_refl _, Nat.le_trans hl (by decide), fun e => (by cases e), fun _ => ⟨g, 0, rfl, (Array.getElem?_eq_some_iff.1 h).1, fun i hi => ?_⟩⟩
  rw [Nat.zero_add, arr_cell h i hi]
  unfold nI
  rw [List.getElem?_map]
  cases z[i]? <;> rfl
theorem dig_lit {n : Nat} (h : n < 256) : Dig [n] := fun x hx => by rw [List.mem_singleton.1 hx]; exact h
/-- The digits that the document tells, as signs and as numbers. -/
def ordS : ByteArray := ⟨#[50, 55, 55, 52, 50, 51, 49, 55, 55, 55, 55, 51, 55, 50, 51, 53, 51, 53, 51, 53, 56, 53, 49, 57, 51, 55, 55, 57, 48, 56, 56, 51, 54, 52, 56, 52, 57, 51]⟩
def ordD : List Nat := [2, 7, 7, 4, 2, 3, 1, 7, 7, 7, 7, 3, 7, 2, 3, 5, 3, 5, 3, 5, 8, 5, 1, 9, 3, 7, 7, 9, 0, 8, 8, 3, 6, 4, 8, 4, 9, 3]
def ordTo : Nat → Nat
  | 0 => 0
  | k + 1 => ordTo k * 10 + dg ordD k
theorem ordS_at : ∀ k : Fin 38, (ordS[k.val]'(Nat.lt_of_lt_of_le k.isLt (by decide))).toNat = 48 + dg ordD k.val := by decide
theorem ordD_lt : ∀ k : Fin 38, dg ordD k.val < 10 := by decide
theorem ordTo_lt : ∀ k : Fin 39, ordTo k.val < 256 ^ 20 := by decide +kernel
theorem ordTo_len {k : Nat} (h : k ≤ 38) : (nb (ordTo k)).length ≤ 20 := nb_len (ordTo_lt ⟨k, by omega⟩)
def topL : List Nat := List.replicate 31 0 ++ [16]
theorem topL_dig : Dig topL := by unfold Dig topL; decide
theorem ord_sum : ordTo 38 + vL topL = oL := by decide +kernel
theorem made1R (n : Nat) (w : World) : (Instr.buildSlice 24 1 [(0, .int .u8 (n : Int))].toArray).run Tryz.prog w = .ok (.slice (some ⟨w.heap.size, 0, none⟩) 1 1) (w.alloc (.cells (arr .u8 [n]) 5)) := by kernel_rfl
set_option maxHeartbeats 3200000 in
theorem refOrder_any (w : World) : Calls Tryz.prog 72 #[] w (Gives w (nb oL)) := by
  obtain ⟨i0, hi0, hz0, hz1, hz2⟩ := info_parts Tryz.info5
  go_enter Tryz.func72, Tryz.ntmps72
  go_wp2
  go_loopw [1, 3] (fun v i wr => ∃ (k cr : Nat) (ar : Option Addr), k ≤ 38 ∧ i = .int .i64 (k : Int) ∧ v = .slice ar (nb (ordTo k)).length cr ∧ Hid (Row .u8 wr ar (nb (ordTo k)).length cr (nI (nb (ordTo k)))) ∧ Hid (Below w.heap.size w wr)) (fun _ i _ => 38 - (intOf i).toNat)
  case atStart =>
    refine ⟨0, 0, none, by omega, rfl, ?_, ?_, Below.refl _ _⟩
    · rw [show nb (ordTo 0) = [] from nb_zero]; rfl
    · rw [show nb (ordTo 0) = [] from nb_zero]
      exact ⟨rfl, Nat.le_refl _, Nat.zero_le _, fun _ => rfl, fun h => absurd h (by simp)⟩
  case round =>
    obtain ⟨k, cr, ar, hk, rfl, rfl, HR, HB⟩ := hrel
    have hn20 := ordTo_len hk
    by_cases hlt : k < 38
    · have hk38 : (k : Int) < 38 := by omega
      obtain ⟨d, hd⟩ : ∃ d, d = dg ordD k := ⟨_, rfl⟩
      have hd10 : d < 10 := by rw [hd]; exact ordD_lt ⟨k, hlt⟩
      obtain ⟨c, hc⟩ : ∃ c, c = 48 + d := ⟨_, rfl⟩
      have HIX : Hid (∃ h : k < ordS.size, (ordS[k]'h).toNat = c) := ⟨Nat.lt_of_lt_of_le hlt (by decide), by rw [hc, hd]; exact ordS_at ⟨k, hlt⟩⟩
      have hsub : IntKind.u8.wrap ((c : Int) - 48) = (d : Int) := by rw [IntKind.wrap_u8]; omega
      clear hc
      have HM : Hid (∀ (w' : World) (g : Nat), Below wr.heap.size wr w' → w'.heap[g]? = some (.cells (arr .u8 [10]) 5 (0, 0)) → Calls Tryz.prog 40 #[.slice ar (nb (ordTo k)).length cr, .slice (some ⟨g, 0, none⟩) 1 1] w' (Gives w' (nb (ordTo k * 10)))) := fun w' g q hg => by
        have h := refMul15_any (nb (ordTo k)) [10] ar (some ⟨g, 0, none⟩) _ cr 1 1 w' (dig_nb _) (dig_lit (by decide)) (HR.out.below q (Nat.le_refl _)) (row_lit hg (by decide)) (by omega) (by decide)
        rw [vL_nb] at h
        exact h
      have HA : Hid (∀ (w' : World) (g : Nat) (a1 : Option Addr) (c1 : Nat), w'.heap[g]? = some (.cells (arr .u8 [d]) 5 (0, 0)) → Row .u8 w' a1 (nb (ordTo k * 10)).length c1 (nI (nb (ordTo k * 10))) → Calls Tryz.prog 39 #[.slice a1 (nb (ordTo k * 10)).length c1, .slice (some ⟨g, 0, none⟩) 1 1] w' (Gives w' (nb (ordTo (k + 1))))) := fun w' g a1 c1 hg hr => by
        have hl : (nb (ordTo k * 10)).length ≤ 21 := nb_len (by have h := ordTo_lt ⟨k, by omega⟩; have e : (256 : Nat) ^ 21 = 256 * 256 ^ 20 := by decide
                                                                have h' : ordTo k < 256 ^ 20 := h
                                                                omega)
        have h := refAdd15_any (nb (ordTo k * 10)) [d] a1 (some ⟨g, 0, none⟩) _ c1 1 1 w' (dig_nb _) (dig_lit (by omega)) hr (row_lit hg (show 1 ≤ 1000 by decide)) (by omega) (by decide)
        rw [vL_nb, show vL [d] = d from by unfold vL; simp [vTo, dg]] at h
        have e : ordTo (k + 1) = ordTo k * 10 + d := by rw [hd]; rfl
        rw [e]
        exact h
      unfold Gives at HM HA
      generalize hn1 : (nb (ordTo k * 10)).length = n1 at *
      generalize nb (ordTo k * 10) = z1 at *
      generalize hn2 : (nb (ordTo (k + 1))).length = n2 at *
      have HN2 : Hid ((nb (ordTo (k + 1))).length = n2) := hn2
      have HQ : Hid (∀ (ar : Option Addr) (cr : Nat) (w3 : World), Row .u8 w3 ar n2 cr (nI (nb (ordTo (k + 1)))) → Below wr.heap.size wr w3 → Row .u8 w3 ar (nb (ordTo (k + 1))).length cr (nI (nb (ordTo (k + 1)))) ∧ Below w.heap.size w w3) := fun ar cr w3 hr q => ⟨by rw [hn2]; exact hr, HB.out.trans (q.mono HB.out.size)⟩
      generalize nb (ordTo k) = z0 at *
      generalize z0.length = n0 at *
      clear hn1 hn2 hd HR HB hlt hn20
      go_wp2_with fail
      have V1 := (Vars.start wr).drew
      refine av_open (fun _ => True) (by kernel_rfl) ?_
      refine zR [0, 3, 4, 5, 6] 5 (by kernel_rfl) (fun _ _ _ _ _ h => h) trivial fun K hK => ?_
      refine calm_move _ rfl (by rfl) rfl ?_
      go_simp
      refine calm_move _ rfl (by rfl) rfl ?_
      go_simp
      refine calm_move _ rfl (by rfl) rfl ?_
      go_simp
      refine zC (.int .u8 (c : Int)) rfl (by rfl) (fun w' hw' => ?_) ?_
      · obtain ⟨h1, h2⟩ := HIX.out
        exact exec_indexS 9 _ _ rfl ordS k _ rfl rfl Tryz.underlying9 h1 h2
      go_simp
      refine zC (.int .u8 (d : Int)) rfl (by rfl) (fun w' hw' => ?_) ?_
      · have h9 := hsub
        go_simp
      go_simp
      refine calm_nil (hK.out _ ?_)
      clear hK K
      refine zP 1 7 4 (by kernel_rfl) rfl (by rfl) rfl (by rfl) (fun K hK => ?_) (fun K hK => ?_)
      · refine wp_sliceQ V1 12 24 1 _ rfl rfl 5 [10] (made1R 10) (fun w2 g3 V4 q5 => ?_)
        refine hK _ _ trivial ?_
        clear hK K
        try go_simp
        refine zP 2 7 3 (by kernel_rfl) rfl (by rfl) rfl (by rfl) (fun K hK => ?_) (fun K hK => ?_)
        · go_simp
          refine (HM.out w2 g3 V4.bel (V4.at 0 rfl)).mono ?_
          rintro e w6 ⟨a9, c10, rfl, r11, q8⟩
          have V7 := V4.call q8
          refine hK _ _ trivial ?_
          clear hK K q8
          refine zO 7 2 (by kernel_rfl) rfl (by rfl) fun K hK => ?_
          refine wp_sliceQ V7 18 24 1 _ rfl rfl 5 [d] (made1R d) (fun w12 g13 V14 q15 => ?_)
          refine hK _ _ trivial ?_
          clear hK K
          try go_simp
          replace r11 := r11.below q15 (Nat.le_refl _)
          refine zO 8 1 (by kernel_rfl) rfl (by rfl) fun K hK => ?_
          go_simp
          refine (HA.out w12 g13 a9 c10 (V14.at 0 rfl) r11).mono ?_
          rintro e w16 ⟨a19, c20, rfl, r21, q18⟩
          have V17 := V14.call q18
          refine hK _ _ trivial ?_
          clear hK K q18
          refine zR [9] 0 (by kernel_rfl) (fun _ _ _ _ _ h => h) trivial fun K hK => ?_
          go_simp
          refine calm_assign _ rfl (by rfl) rfl ?_
          go_simp
          refine calm_nil (hK.out _ ?_)
          clear hK K
          refine wpAnyH_done (by kernel_rfl) ?_ _
          have HQ2 := HQ.out _ _ _ r21 V17.bel
          have HE : Hid (n2 = (nb (ordTo (k + 1))).length) := HN2.out.symm
          clear r21 V17 HM HA HIX hsub V1
          go_wp2_with fail
          go_roundw
          case rel => exact ⟨k + 1, _, _, by omega, by go_num, by rw [HE.out], HQ2.1, HQ2.2⟩
          case measure => simp [intOf]; omega
        · refine wp_sliceQ V4 18 24 1 _ rfl rfl 5 [d] (made1R d) (fun w22 g23 V24 q25 => ?_)
          refine hK _ _ trivial ?_
          clear hK K
          try go_simp
          refine zO 2 2 (by kernel_rfl) rfl (by rfl) fun K hK => ?_
          go_simp
          refine (HM.out w22 g3 V24.bel (V24.at 1 rfl)).mono ?_
          rintro e w26 ⟨a29, c30, rfl, r31, q28⟩
          have V27 := V24.call q28
          refine hK _ _ trivial ?_
          clear hK K q28
          refine zO 8 1 (by kernel_rfl) rfl (by rfl) fun K hK => ?_
          go_simp
          refine (HA.out w26 g23 a29 c30 (V27.at 0 rfl) r31).mono ?_
          rintro e w32 ⟨a35, c36, rfl, r37, q34⟩
          have V33 := V27.call q34
          refine hK _ _ trivial ?_
          clear hK K q34
          refine zR [9] 0 (by kernel_rfl) (fun _ _ _ _ _ h => h) trivial fun K hK => ?_
          go_simp
          refine calm_assign _ rfl (by rfl) rfl ?_
          go_simp
          refine calm_nil (hK.out _ ?_)
          clear hK K
          refine wpAnyH_done (by kernel_rfl) ?_ _
          have HQ2 := HQ.out _ _ _ r37 V33.bel
          have HE : Hid (n2 = (nb (ordTo (k + 1))).length) := HN2.out.symm
          clear r37 V33 HM HA HIX hsub V1
          go_wp2_with fail
          go_roundw
          case rel => exact ⟨k + 1, _, _, by omega, by go_num, by rw [HE.out], HQ2.1, HQ2.2⟩
          case measure => simp [intOf]; omega
      · refine wp_sliceQ V1 18 24 1 _ rfl rfl 5 [d] (made1R d) (fun w38 g39 V40 q41 => ?_)
        refine hK _ _ trivial ?_
        clear hK K
        try go_simp
        refine zO 1 3 (by kernel_rfl) rfl (by rfl) fun K hK => ?_
        refine wp_sliceQ V40 12 24 1 _ rfl rfl 5 [10] (made1R 10) (fun w42 g43 V44 q45 => ?_)
        refine hK _ _ trivial ?_
        clear hK K
        try go_simp
        refine zO 2 2 (by kernel_rfl) rfl (by rfl) fun K hK => ?_
        go_simp
        refine (HM.out w42 g43 V44.bel (V44.at 0 rfl)).mono ?_
        rintro e w46 ⟨a49, c50, rfl, r51, q48⟩
        have V47 := V44.call q48
        refine hK _ _ trivial ?_
        clear hK K q48
        refine zO 8 1 (by kernel_rfl) rfl (by rfl) fun K hK => ?_
        go_simp
        refine (HA.out w46 g39 a49 c50 (V47.at 1 rfl) r51).mono ?_
        rintro e w52 ⟨a55, c56, rfl, r57, q54⟩
        have V53 := V47.call q54
        refine hK _ _ trivial ?_
        clear hK K q54
        refine zR [9] 0 (by kernel_rfl) (fun _ _ _ _ _ h => h) trivial fun K hK => ?_
        go_simp
        refine calm_assign _ rfl (by rfl) rfl ?_
        go_simp
        refine calm_nil (hK.out _ ?_)
        clear hK K
        refine wpAnyH_done (by kernel_rfl) ?_ _
        have HQ2 := HQ.out _ _ _ r57 V53.bel
        have HE : Hid (n2 = (nb (ordTo (k + 1))).length) := HN2.out.symm
        clear r57 V53 HM HA HIX hsub V1
        go_wp2_with fail
        go_roundw
        case rel => exact ⟨k + 1, _, _, by omega, by go_num, by rw [HE.out], HQ2.1, HQ2.2⟩
        case measure => simp [intOf]; omega
    · obtain rfl : k = 38 := by omega
      have HA : Hid (∀ (w' : World) (a1 : Option Addr) (c1 : Nat), Below wr.heap.size wr w' → Row .u8 w' a1 32 c1 (nI topL) → Calls Tryz.prog 39 #[.slice ar (nb (ordTo 38)).length cr, .slice a1 32 c1] w' (Gives w' (nb oL))) := fun w' a1 c1 q hr => by
        have h := refAdd15_any (nb (ordTo 38)) topL ar a1 _ cr 32 c1 w' (dig_nb _) topL_dig (HR.out.below q (Nat.le_refl _)) hr (by omega) (by decide)
        rw [vL_nb, ord_sum] at h
        exact h
      generalize nb oL = zo at *
      generalize nb (ordTo 38) = z0 at *
      generalize z0.length = n0 at *
      clear HR hlt hn20
      have hmax : 31 ≤ maxLen := by unfold maxLen; omega
      go_upto_region 8 with (at_make; refine wpList_make_full _ rfl _ _ 24 rfl wr.heap.size 5 i0 (.int .u8 0) 1 Tryz.underlying24 hi0 hz0 hz1 _ _ _ _ 31 rfl rfl (by omega) (by omega) (by rw [hz2]; omega) hmax (Nat.le_refl _) ?_; intro w1 hown1 hgrow1)
      rw [made_ints] at hown1
      have q1 : Below wr.heap.size wr w1 := (Below.refl _ _).grown hgrow1 (Nat.le_refl _) (by simp)
      have hsz : wr.heap.size ≤ w1.heap.size := q1.size
      clear hgrow1
      go_wp2_with (at_builtin; refine wpList_append_own _ rfl _ _ 24 rfl wr.heap.size 5 i0 (.int .u8 0) 1 1 Tryz.underlying24 hi0 hz0 hz1 hz2 rfl (by decide) _ _ _ rfl (hown1.alloc _) ⟨w1.heap.size, 0, none⟩ 1 1 [.int .u8 16] rfl rfl (cell_one_new _ _ _) (by intro u hu; simp at hu; subst hu; rfl) (by unfold maxLen; omega) (by omega) (by simp; omega) ?_)
      intro v' w2 hown' hgrow _
      have R := rel_push hsz hown1 q1 hown' hgrow
      rw [show List.replicate 31 (0 : Int) ++ [(16 : Int)] = nI topL from rfl] at R
      clear hown' hgrow hown1 q1
      obtain ⟨a2, c2, rfl, r2⟩ := row_of_owns R.1
      have R2 := R.2
      clear R
      go_wp2_with fail
      refine (HA.out w2 a2 c2 R2 r2).mono ?_
      rintro e w3 ⟨a3, c3, rfl, r3, q3⟩
      go_wp2_with fail
      go_ret
      exact ⟨a3, c3, rfl, r3, HB.out.trans ((R2.trans (q3.mono R2.size)).mono HB.out.size)⟩
set_option maxHeartbeats 800000 in
theorem refReduce_any (z : List Nat) (dz : Dig z) (a : Option Addr) (len cap : Nat) (w : World) (hr : Row .u8 w a len cap (nI z)) (hl : len ≤ 1000) :
    Calls Tryz.prog 38 #[.slice a len cap] w fun e w' => e = .returned (.agg (bA (vL z % oL))) ∧ Below w.heap.size w w' := by
  have HO : Hid (∀ w : World, Calls Tryz.prog 72 #[] w (Gives w (nb oL))) := refOrder_any
  have HM : Hid (∀ (w' : World) (a1 : Option Addr) (c1 : Nat), Below w.heap.size w w' → Row .u8 w' a1 (nb oL).length c1 (nI (nb oL)) → Calls Tryz.prog 71 #[.slice a len cap, .slice a1 (nb oL).length c1] w' (Gives w' (nb (vL z % oL)))) := fun w' a1 c1 q h1 => by
    have hlo : (nb oL).length ≤ 32 := nb_len (by rw [b256]; exact oL_lt256)
    have h := refMod15_any z (nb oL) a a1 len cap _ c1 w' dz (dig_nb _) (hr.below q (Nat.le_refl _)) h1 (by omega) (by omega) (by rw [vL_nb]; exact Nat.pos_iff_ne_zero.1 oL_pos)
    rw [vL_nb] at h
    exact h
  have HF : Hid (∀ (w : World) (a1 : Option Addr) (c1 : Nat), Row .u8 w a1 (nb (vL z % oL)).length c1 (nI (nb (vL z % oL))) → Rt Tryz.prog 70 #[.slice a1 (nb (vL z % oL)).length c1] (.agg (bA (vL z % oL))) w) := fun w a1 c1 h1 => by
    have h := refFull_any (nb (vL z % oL)) (dig_nb _) a1 _ c1 w h1 rest_len
    rwa [vL_nb] at h
  unfold Gives at HO HM
  generalize nb (vL z % oL) = z2 at *
  generalize vL z % oL = r at *
  generalize nb oL = z1 at *
  generalize z1.length = n1 at *
  generalize z2.length = n2 at *
  clear dz hr hl
  have V0 := Vars.start w
  go_enter Tryz.func38, Tryz.ntmps38
  go_wp2_with (refine zA V0 2 rfl rfl rfl ?_; intro w1 g2 V3)
  refine (HO.out w1).mono ?_
  rintro e w4 ⟨a7, c8, rfl, r9, q6⟩
  have V5 := V3.call q6
  clear q6 V3
  go_wp2_with fail
  refine (HM.out w4 a7 c8 V5.bel r9).mono ?_
  rintro e w10 ⟨a13, c14, rfl, r15, q12⟩
  have V11 := V5.call q12
  replace r9 := r9.below q12 (Nat.le_refl _)
  clear q12 V5
  go_wp2_with fail
  refine (HF.out w10 a13 c14 r15).mono ?_
  rintro e w16 ⟨rfl, q18⟩
  have V17 := V11.call q18
  replace r9 := r9.below q18 (Nat.le_refl _)
  replace r15 := r15.below q18 (Nat.le_refl _)
  clear q18 V11
  go_wp2_with (refine zL V17 0 rfl _ (.tmp 6) rfl rfl rfl r rfl rfl ?_; intro w19 V20)
  exact bodyPost_ret (resV1 rfl _ V20 0 rfl rfl Tryz.underlying22 Tryz.szB (bA_size _)) rfl ⟨rfl, V20.bel⟩
set_option maxHeartbeats 1600000 in
theorem refMulAdd_any (a b c : Nat) (w : World) (ha : a < 2 ^ 256) (hb : b < 2 ^ 256) (hc : c < 2 ^ 256) : Calls Tryz.prog 17 #[.agg (bA a), .agg (bA b), .agg (bA c)] w fun e w' => e = .returned (.agg (bA ((a * b + c) % oL))) ∧ Below w.heap.size w w' := by
  have l1 : (nb (a * b)).length ≤ 64 := nb_len (mul_lt (by rw [b256]; exact ha) (by rw [b256]; exact hb))
  have l2 : (nb (a * b + c)).length ≤ 65 := nb_len (by
    have e1 : a * b < 256 ^ (32 + 32) := mul_lt (by rw [b256]; exact ha) (by rw [b256]; exact hb)
    have := b256
    have h65 : (256 : Nat) ^ 65 = 256 * 256 ^ (32 + 32) := by decide
    have h32 : (256 : Nat) ^ 32 ≤ 256 ^ (32 + 32) := Nat.pow_le_pow_right (by decide) (by decide)
    omega)
  have HM : Hid (∀ (w : World) (g h : Nat), w.heap[g]? = some (.cells (bA a) 22 (0, 0)) → w.heap[h]? = some (.cells (bA b) 22 (0, 0)) → Calls Tryz.prog 40 #[.slice (some ⟨g, 0, none⟩) 32 32, .slice (some ⟨h, 0, none⟩) 32 32] w (Gives w (nb (a * b)))) := fun w g h hg hh => by
    have := refMul15_any (digL a 32) (digL b 32) (some ⟨g, 0, none⟩) (some ⟨h, 0, none⟩) 32 32 32 32 w (digL_dig _ _) (digL_dig _ _) (row_bA hg) (row_bA hh) (by decide) (by decide)
    rwa [vB ha, vB hb] at this
  have HA : Hid (∀ (w : World) (a1 : Option Addr) (c1 h : Nat), Row .u8 w a1 (nb (a * b)).length c1 (nI (nb (a * b))) → w.heap[h]? = some (.cells (bA c) 22 (0, 0)) → Calls Tryz.prog 39 #[.slice a1 (nb (a * b)).length c1, .slice (some ⟨h, 0, none⟩) 32 32] w (Gives w (nb (a * b + c)))) := fun w a1 c1 h hr hh => by
    have := refAdd15_any (nb (a * b)) (digL c 32) a1 (some ⟨h, 0, none⟩) _ c1 32 32 w (dig_nb _) (digL_dig _ _) hr (row_bA hh) (by omega) (by decide)
    rwa [vL_nb, vB hc] at this
  have HR : Hid (∀ (w : World) (a1 : Option Addr) (c1 : Nat), Row .u8 w a1 (nb (a * b + c)).length c1 (nI (nb (a * b + c))) → Rt Tryz.prog 38 #[.slice a1 (nb (a * b + c)).length c1] (.agg (bA ((a * b + c) % oL))) w) := fun w a1 c1 hr => by
    have := refReduce_any (nb (a * b + c)) (dig_nb _) a1 _ c1 w hr (by omega)
    rwa [vL_nb] at this
  unfold Gives at HM HA
  generalize (a * b + c) % oL = r at *
  generalize nb (a * b + c) = z2 at *
  generalize nb (a * b) = z1 at *
  generalize z1.length = n1 at *
  generalize z2.length = n2 at *
  clear ha hb hc l1 l2
  have V0 := Vars.start w
  go_enter Tryz.func17, Tryz.ntmps17
  go_wp2_with (first
    | (refine wpList_boxV V0 3 22 _ rfl rfl rfl (bA a) rfl ?_; intro w1 g2 V3)
    | (refine wpList_boxV V3 4 22 _ rfl rfl rfl (bA b) rfl ?_; intro w4 g5 V6)
    | (refine wpList_boxV V6 5 22 _ rfl rfl rfl (bA c) rfl ?_; intro w7 g8 V9)
    | (refine zA V9 6 rfl rfl rfl ?_; intro w10 g11 V12))
  refine av_open (fun w' => Vars w w' [⟨g8, 22, bA c⟩, ⟨g5, 22, bA b⟩, ⟨g2, 22, bA a⟩]) (by kernel_rfl) ?_
  have V13 := V12.drew
  refine zR [0, 1, 3] 4 (by kernel_rfl) (fun _ _ _ _ _ h => h) (V13.tail) fun K hK => ?_
  refine zC (.slice (some ⟨g2, 0, none⟩) 32 32) rfl (by rfl) (fun w' hw' => exec_sliceB hw' 2 rfl _ rfl rfl) ?_
  go_simp
  refine zC (.slice (some ⟨g5, 0, none⟩) 32 32) rfl (by rfl) (fun w' hw' => exec_sliceB hw' 1 rfl _ rfl rfl) ?_
  go_simp
  refine zC (.slice (some ⟨g8, 0, none⟩) 32 32) rfl (by rfl) (fun w' hw' => exec_sliceB hw' 0 rfl _ rfl rfl) ?_
  go_simp
  refine calm_nil (hK.out _ ?_)
  clear hK K
  refine zO 2 3 (by kernel_rfl) rfl (by rfl) fun K hK => ?_
  go_simp
  refine (HM.out w10.drew g2 g5 (V13.at 3 rfl) (V13.at 2 rfl)).mono ?_
  rintro e w14 ⟨a17, c18, rfl, r19, q16⟩
  have V15 := V13.call q16
  refine hK _ _ (V15.tail) ?_
  clear hK K q16
  refine zO 4 2 (by kernel_rfl) rfl (by rfl) fun K hK => ?_
  go_simp
  refine (HA.out w14 a17 c18 g8 r19 (V15.at 1 rfl)).mono ?_
  rintro e w20 ⟨a23, c24, rfl, r25, q22⟩
  have V21 := V15.call q22
  refine hK _ _ (V21.tail) ?_
  replace r19 := r19.below q22 (Nat.le_refl _)
  clear hK K q22
  refine zO 5 1 (by kernel_rfl) rfl (by rfl) fun K hK => ?_
  go_simp
  refine (HR.out w20 a23 c24 r25).mono ?_
  rintro e w26 ⟨rfl, q28⟩
  have V27 := V21.call q28
  refine hK _ _ (V27.tail) ?_
  replace r19 := r19.below q28 (Nat.le_refl _)
  replace r25 := r25.below q28 (Nat.le_refl _)
  clear hK K q28
  refine zO 6 0 (by kernel_rfl) rfl (by rfl) fun K hK => ?_
  refine zS V27 0 rfl _ _ rfl rfl r rfl rfl (fun w29 V30 => ?_)
  refine hK _ _ (V30.tail) ?_
  clear hK K
  clear r19 r25
  refine wpAnyH_done (by kernel_rfl) ?_ _
  go_wp2_with fail
  exact bodyPost_ret (resV1 rfl _ V30 0 rfl rfl Tryz.underlying22 Tryz.szB (bA_size _)) rfl ⟨rfl, V30.bel⟩
set_option maxHeartbeats 1600000 in
theorem refClamp_gen (v b0 b31 m0 x0 m1 z : Nat) (w : World) (HB0 : Hid ((bA v)[0]? = some (.int .u8 (b0 : Int)))) (HB31 : Hid ((bA (setN v 0 x0))[31]? = some (.int .u8 (b31 : Int)))) (e0 : (b0 : Int).tmod 8 = (m0 : Int)) (e1 : IntKind.u8.wrap ((b0 : Int) - (m0 : Int)) = (x0 : Int)) (e2 : (b31 : Int).tmod 64 = (m1 : Int)) (e3 : IntKind.u8.wrap ((m1 : Int) + 64) = (z : Int))
    (H0 : Hid ((digL v 32).set 0 x0 = digL (setN v 0 x0) 32)) (r : Nat) (H2 : Hid ((digL (setN v 0 x0) 32).set 31 z = digL r 32)) :
    Calls Tryz.prog 24 #[.agg (bA v)] w fun e w' => e = .returned (.agg (bA r)) ∧ Below w.heap.size w w' := by
  generalize setN v 0 x0 = v1 at *
  have V0 := Vars.start w
  go_enter Tryz.func24, Tryz.ntmps24
  go_upto_region 1 with (first
    | (refine wpList_boxV V0 1 22 _ rfl rfl rfl (bA v) rfl ?_; intro w1 g2 V3)
    | (refine zA V3 2 rfl rfl rfl ?_; intro w4 g5 V6))
  have hc1 := cell_byte V6 1 rfl 0 HB0.out
  have hf1 := arr_unfrozen (V6.at 1 rfl) 0
  have V7 : Vars w (w4.setCell ⟨g2, 0, none⟩ (.int .u8 (x0 : Int))) [⟨g5, 22, bA 0⟩, ⟨g2, 22, bA v1⟩] := V6.setB 1 rfl 0 x0 v1 H0.out
  clear V6
  go_upto_region 2 with fail
  generalize w4.setCell ⟨g2, 0, none⟩ (.int .u8 (x0 : Int)) = wa at *
  clear hc1 hf1
  have hc2 := cell_byte V7 1 rfl 31 HB31.out
  have hf2 := arr_unfrozen (V7.at 1 rfl) 31
  have V8 : Vars w (wa.setCell ⟨g2, 31, none⟩ (.int .u8 (z : Int))) [⟨g5, 22, bA 0⟩, ⟨g2, 22, bA r⟩] := V7.setB 1 rfl 31 z r H2.out
  clear V7
  go_upto_region 3 with fail
  generalize wa.setCell ⟨g2, 31, none⟩ (.int .u8 (z : Int)) = wb at *
  clear hc2 hf2
  go_wp2_with (first
    | (refine zD V8 1 rfl 15 _ rfl rfl rfl rfl ?_)
    | (refine zL V8 0 rfl _ (.tmp 15) rfl rfl rfl r rfl rfl ?_; intro w9 V10))
  exact bodyPost_ret (resV1 rfl _ V10 0 rfl rfl Tryz.underlying22 Tryz.szB (bA_size _)) rfl ⟨rfl, V10.bel⟩
theorem refClamp_any (v : Nat) (w : World) : Calls Tryz.prog 24 #[.agg (bA v)] w fun e w' => e = .returned (.agg (bA (clampN v))) ∧ Below w.heap.size w w' := by
  have h0 := mod256 (v / 256 ^ 0)
  have h31 := mod256 (v / 256 ^ 31)
  have hl := lowB_lt h0
  have hb0 := bA_get v 0 (by decide)
  have hb1 : (bA (setN v 0 (lowB (v / 256 ^ 0 % 256))))[31]? = some (.int .u8 ((v / 256 ^ 31 % 256 : Nat) : Int)) := by
    rw [bA_get _ 31 (by decide), set_byte _ 31 (by decide) (by decide) hl, if_neg (by decide)]
  have hs := set_num v 0 hl
  have ht := set_num (setN v 0 (lowB (v / 256 ^ 0 % 256))) 31 (topB_lt (v / 256 ^ 31 % 256))
  have hcl : clampN v = setN (setN v 0 (lowB (v / 256 ^ 0 % 256))) 31 (topB (v / 256 ^ 31 % 256)) := rfl
  rw [hcl]
  generalize v / 256 ^ 0 % 256 = b0 at *
  generalize v / 256 ^ 31 % 256 = b31 at *
  refine refClamp_gen v b0 b31 (b0 % 8) (lowB b0) (b31 % 64) (topB b31) w hb0 hb1 rfl ?_ rfl ?_ hs _ ht
  · rw [IntKind.wrap_u8]; unfold lowB at *; omega
  · rw [IntKind.wrap_u8]; unfold topB; omega
end Go.Proofs.YthangiocheodoaaGreatDoor.N
