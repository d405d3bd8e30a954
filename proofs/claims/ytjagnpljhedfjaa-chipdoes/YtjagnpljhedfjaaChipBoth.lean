/-
  The landed chip and the document's beside each other; casematelaw07.same. (Written by tools/gen/chip_both.py.)
-/
import Derived.Test.YtjagnpljhedfjaaChipRef8
import Derived.Test.YtjagnpljhedfjaaChipScript
namespace Go.Proofs.Ytjagnpljhedfjaa
open Go Go.RowKit Go.Maps
set_option linter.unusedVariables false
set_option maxRecDepth 8192

/-- Marks are on blocks alone. -/
def Inb (G : Geo) (S : CS) : Prop := ∀ b, S.bd b = true → inB0 b G.b = true
theorem Inb.same {G : Geo} {S S' : CS} (h : Inb G S) (e : S'.bd = S.bd) : Inb G S' := fun b hb => h b (by rw [← e]; exact hb)
theorem Inb.no {G : Geo} {S : CS} (h : Inb G S) {b : Int} (hb : inB0 b G.b = false) : S.bd b = false := by
  cases hh : S.bd b
  · rfl
  · rw [h b hh] at hb; cases hb
theorem counted_bd7 (S : CS) : S.counted.bd = S.bd := by unfold CS.counted; split; · rfl
                                                         · split <;> rfl
theorem inb_mark {G : Geo} {S S1 : CS} (h : Inb G S) (e : S1.bd = S.bd) {x : Int} (hx : inB0 x G.b = true) : Inb G (S1.mark x) := fun b hb => by
  unfold CS.mark at hb
  by_cases hh : b = x
  · rw [hh]; exact hx
  · simp only [hh, if_false] at hb
    exact h b (by rw [← e]; exact hb)
theorem inb_doMark {G : Geo} {S : CS} (h : Inb G S) (x : Int) : Inb G (S.doMark G x).2 := by
  cases hx : inB0 x G.b
  · unfold CS.doMark
    repeat' split
    all_goals first | exact h | (exfalso; simp_all; done)
  · unfold CS.doMark
    repeat' split
    all_goals first | exact h | exact h.same (counted_bd7 S) | exact inb_mark h (counted_bd7 S) hx
theorem inb_doProgram {G : Geo} {S : CS} (h : Inb G S) (x y : Int) (z : List Int) : Inb G (S.doProgram G x y z).2 := by
  unfold CS.doProgram
  repeat' split
  all_goals first | exact h | exact h.same (counted_bd7 S)
theorem inb_doErase {G : Geo} {S : CS} (h : Inb G S) (x : Int) : Inb G (S.doErase G x).2 := by
  unfold CS.doErase
  repeat' split
  all_goals first | exact h | exact h.same (counted_bd7 S)
theorem inb_doBurn {G : Geo} {S : CS} (h : Inb G S) (x : Int) : Inb G (S.doBurn x).2 := by
  unfold CS.doBurn
  repeat' split
  all_goals first | exact h | exact h.same (counted_bd7 S)
theorem inb_doWeak {G : Geo} {S : CS} (h : Inb G S) (x : Int) : Inb G (S.doWeak G x) := by unfold CS.doWeak; split <;> exact h.same rfl
theorem inb_doFlip {G : Geo} {S : CS} (h : Inb G S) (x y : Int) (ps : List Int) : Inb G (S.doFlip G x y ps) := by unfold CS.doFlip; split <;> exact h.same rfl
theorem inb_doForce {G : Geo} {S : CS} (h : Inb G S) (x y : Int) (z : List Int) : Inb G (S.doForce G x y z).2 := by unfold CS.doForce; split <;> exact h.same rfl
theorem inb_fresh {G : Geo} {ps : List Int} (h : ∀ x ∈ ps, inB0 x G.b = true) (L k : Nat) : Inb G (CS.fresh L ps k) := fun b hb => h b (List.mem_of_mem_take (of_decide_eq_true hb))

/-- Both chips, made since W: the landed one with the state S, the document's with T. -/
structure Both (W : World) (G : Geo) (B : CB) (FC : Nat → Prop) (N : Nat) (R : RB) (FR : Nat → Prop) (S T : CS) (w : World) : Prop where
  chip : ChipAt G B FC N S w
  ref : RefAt G R FR T w
  dis : ∀ x, FC x → ¬ FR x
  low : ∀ x, FC x ∨ FR x → W.heap.size ≤ x
  bel : Below W.heap.size W w
  inb : Inb G S
section
variable {W w w' : World} {G : Geo} {B : CB} {FC FR : Nat → Prop} {N N' : Nat} {R : RB} {S S' T T' : CS}
theorem Both.below (h : Both W G B FC N R FR S T w) (q : Below w.heap.size w w') : Both W G B FC N R FR S T w' := ⟨h.chip.below q, h.ref.below q, h.dis, h.low, btrans h.bel q, h.inb⟩
theorem Both.mono (h : Both W G B FC N R FR S T w) (hN : N ≤ N') : Both W G B FC N' R FR S T w := ⟨h.chip.mono hN, h.ref, h.dis, h.low, h.bel, h.inb⟩
theorem Both.doesC (h : Both W G B FC N R FR S T w) (d : Does G B FC N' w S' w') (hi : Inb G S') : ∃ FC', Both W G B FC' N' R FR S' T w' ∧ Turned (fun k => FC k ∨ FR k) w w' ∧ ∀ x, (FC' x ∨ FR x) → (FC x ∨ FR x) ∨ w.heap.size ≤ x := by
  obtain ⟨FC', h1, h2, h3⟩ := d
  refine ⟨FC', ⟨h1, h.ref.turned h2 (fun x hr hc => h.dis x hc hr), fun x hx hr => ?_, fun x hx => ?_, h.bel.trans (h2.below h.bel.size (fun x hx => h.low x (.inl hx))), hi⟩, h2.mono (fun k _ hk => .inl hk), fun x hx => ?_⟩
  · rcases h3 x hx with e | e
    · exact h.dis x e hr
    · have := h.ref.fresh x hr; omega
  · rcases hx with hx | hx
    · rcases h3 x hx with e | e
      · exact h.low x (.inl e)
      · exact Nat.le_trans h.bel.size e
    · exact h.low x (.inr hx)
  · rcases hx with hx | hx
    · exact (h3 x hx).elim (fun e => .inl (.inl e)) .inr
    · exact .inl (.inr hx)
theorem Both.doesR (h : Both W G B FC N R FR S T w) (d : RDoes G R FR w T' w') : ∃ FR', Both W G B FC N R FR' S T' w' ∧ Turned (fun k => FC k ∨ FR k) w w' ∧ ∀ x, (FC x ∨ FR' x) → (FC x ∨ FR x) ∨ w.heap.size ≤ x := by
  obtain ⟨FR', h1, h2, h3⟩ := d
  refine ⟨FR', ⟨h.chip.turned h2 h.dis, h1, fun x hx hr => ?_, fun x hx => ?_, h.bel.trans (h2.below h.bel.size (fun x hx => h.low x (.inr hx))), h.inb⟩, h2.mono (fun k _ hk => .inr hk), fun x hx => ?_⟩
  · rcases h3 x hr with e | e
    · exact h.dis x hx e
    · have := h.chip.fresh x hx; omega
  · rcases hx with hx | hx
    · exact h.low x (.inl hx)
    · rcases h3 x hx with e | e
      · exact h.low x (.inr e)
      · exact Nat.le_trans h.bel.size e
  · rcases hx with hx | hx
    · exact .inl (.inl hx)
    · exact (h3 x hx).elim (fun e => .inl (.inr e)) .inr
theorem Both.turnedC (h : Both W G B FC N R FR S T w) (hc : ChipAt G B FC N' S' w') (t : Turned FC w w') (hi : Inb G S') : Both W G B FC N' R FR S' T w' :=
  ⟨hc, h.ref.turned t (fun x hr hc => h.dis x hc hr), h.dis, h.low, h.bel.trans (t.below h.bel.size (fun x hx => h.low x (.inl hx))), hi⟩
theorem Both.turnedR (h : Both W G B FC N R FR S T w) (hr : RefAt G R FR T' w') (t : Turned FR w w') : Both W G B FC N R FR S T' w' :=
  ⟨h.chip.turned t h.dis, hr, h.dis, h.low, h.bel.trans (t.below h.bel.size (fun x hx => h.low x (.inr hx))), h.inb⟩
end

set_option maxHeartbeats 6400000 in
theorem same7_any {W w : World} {G : Geo} {B : CB} {FC FR : Nat → Prop} {N : Nat} {R : RB} {S : CS} (h : Both W G B FC N R FR S S w) :
    Calls Try.prog 14 #[.pointer (some ⟨B.c, 0, none⟩), .pointer (some ⟨R.c, 0, none⟩)] w fun e w' => e = .returned (.bool true) ∧ Below w.heap.size w w' := by
  have HH : Hid (∀ w', Since w w' → Both W G B FC N R FR S S w') := fun w' hw' => h.below hw'
  have HC : Hid (∀ w', Since w w' → RCells G R S w') := fun w' hw' => (h.ref.below hw').cell.cells
  have hb := G.ok.hb
  have hbb : G.b ≤ 256 := hb.2
  have hcc := h.ref.cell.cells
  have c6 := hcc.c6
  have c7 := hcc.c7
  clear hcc h
  cases hu : S.up
  · rw [hu] at c7
    have hfuse : ∀ w', CellOk G B S w' → Calls Try.prog 28 #[.pointer (some ⟨B.c, 0, none⟩)] w' fun e w'' => e = .returned (.int .i64 (0)) ∧ w' = w'' := fun w' hw' => by
      have := chipFuse_any _ hw'
      rw [hu] at this
      exact this
    go_enter Try.func14, Try.ntmps14
    go_wp2_with fail
    clear c6 c7
    refine held_open (Since w) (by kernel_rfl) ?_
    refine held_reads (rs := [0, 2, 3, 4, 5]) (fuel := 17) (by kernel_rfl) (fun c d v a w h => by cases d <;> exact h) (by kernel_rfl) (Since.drew _) (fun K hK => ?_)
    refine calm_move _ rfl (by rfl) rfl ?_
    go_simp
    refine calm_move _ rfl (by rfl) rfl ?_
    go_simp
    refine calm_do (.pointer (some ⟨R.c, 0, none⟩)) rfl (by rfl) (fun w' hw' => ?_) ?_
    · go_simp
    go_simp
    refine calm_do (.pointer (some ⟨R.c, 7, none⟩)) rfl (by rfl) (fun w' hw' => ?_) ?_
    · go_simp
    go_simp
    refine calm_do (.bool false) rfl (by rfl) (fun w' hw' => ?_) ?_
    · have x7 := (HC.out w' hw').c7; rw [hu] at x7
      go_simp
    go_simp
    refine calm_nil (hK.out _ ?_)
    clear hK K
    refine held_op (i := 1) (fuel := 16) (by kernel_rfl) rfl (by rfl) (fun K hK => ?_)
    go_simp
    refine (chipUp_any _ (HH.out _ (Since.drew _)).chip.cell).mono ?_
    rw [hu]
    rintro e w5 ⟨rfl, rfl⟩
    have sA : Since w w.drew := Since.drew _
    refine hK _ _ sA ?_
    clear hK K
    refine held_reads (rs := [6, 7, 8, 10]) (fuel := 12) (by kernel_rfl) (fun c d v a w h => by cases d <;> exact h) (by kernel_rfl) (sA) (fun K hK => ?_)
    go_simp
    refine calm_do (.bool false) rfl (by rfl) (fun w' hw' => ?_) ?_
    · skip
      go_simp
    go_simp
    refine calm_move _ rfl (by rfl) rfl ?_
    go_simp
    refine calm_move _ rfl (by rfl) rfl ?_
    go_simp
    refine calm_move _ rfl (by rfl) rfl ?_
    go_simp
    refine calm_nil (hK.out _ ?_)
    clear hK K
    refine held_op (i := 9) (fuel := 11) (by kernel_rfl) rfl (by rfl) (fun K hK => ?_)
    go_simp
    refine (hfuse _ (HH.out _ (Since.drew _)).chip.cell).mono ?_
    rintro e w5 ⟨rfl, rfl⟩
    refine hK _ _ sA ?_
    clear hK K
    refine held_reads (rs := [11, 12, 13, 14, 16, 17, 18, 19]) (fuel := 3) (by kernel_rfl) (fun c d v a w h => by cases d <;> exact h) (by kernel_rfl) (sA) (fun K hK => ?_)
    go_simp
    refine calm_do (.bool false) rfl (by rfl) (fun w' hw' => ?_) ?_
    · skip
      go_simp
    go_simp
    refine calm_do (.bool false) rfl (by rfl) (fun w' hw' => ?_) ?_
    · go_simp
    go_simp
    refine calm_move _ rfl (by rfl) rfl ?_
    go_simp
    refine calm_move _ rfl (by rfl) rfl ?_
    go_simp
    refine calm_move _ rfl (by rfl) rfl ?_
    go_simp
    refine calm_do (.pointer (some ⟨R.c, 0, none⟩)) rfl (by rfl) (fun w' hw' => ?_) ?_
    · go_simp
    go_simp
    refine calm_do (.pointer (some ⟨R.c, 0, none⟩)) rfl (by rfl) (fun w' hw' => ?_) ?_
    · go_simp
    go_simp
    refine calm_do (.agg #[.int .i64 G.b, .int .i64 G.p, .int .i64 ((G.s : Nat)), .int .i64 ((G.n : Nat)), .int .i64 ((G.f : Nat))]) rfl (by rfl) (fun w' hw' => ?_) ?_
    · obtain ⟨x0, x1, x2, x3, x4, _⟩ := HC.out w' hw'
      go_simp
    go_simp
    refine calm_nil (hK.out _ ?_)
    clear hK K
    refine held_op (i := 15) (fuel := 2) (by kernel_rfl) rfl (by rfl) (fun K hK => ?_)
    go_simp
    refine (chipGeometry_any _ (HH.out _ (Since.drew _)).chip.cell (HH.out _ (Since.drew _)).chip.lt).mono ?_
    rintro e w6 ⟨rfl, qq⟩
    have sB : Since w w6 := Since.trans (Since.drew _) qq
    refine hK _ _ sB ?_
    clear hK K qq
    refine held_reads (rs := [20, 21]) (fuel := 0) (by kernel_rfl) (fun c d v a w h => by cases d <;> exact h) (by kernel_rfl) (sB) (fun K hK => ?_)
    go_simp
    refine calm_do (.bool false) rfl (by rfl) (fun w' hw' => ?_) ?_
    · skip
      go_simp
      all_goals (first | done | simp)
    go_simp
    refine calm_do (.bool false) rfl (by rfl) (fun w' hw' => ?_) ?_
    · go_simp
    go_simp
    refine calm_nil (hK.out _ ?_)
    clear hK K
    refine wpAnyH_done (by kernel_rfl) ?_ _
    go_wp2_with fail
    go_loopw [6] (fun ii wr => ∃ n : Nat, n ≤ G.b.toNat + 2 ∧ ii = .int .i64 ((n : Int) - 1) ∧ Hid (Since w wr)) (fun ii _ => G.b.toNat + 2 - (RowKit.intOf ii + 1).toNat)
    case atStart => exact ⟨0, Nat.zero_le _, rfl, sB⟩
    case round =>
      obtain ⟨n, hn, rfl, hs⟩ := hrel
      have cc := HC.out wr hs.out
      have c0 := cc.c0
      have c5 := cc.c5
      have c7 := cc.c7
      clear cc
      by_cases hlt : (n : Int) - 1 ≤ G.b
      · have h2 := HH.out wr hs.out
        have hx64 : I64 ((n : Int) - 1) := i64_small (by omega)
        cases hib : inB0 ((n : Int) - 1) G.b
        · have hni := inB0_no hib
          have hbd : (S.up && S.bd ((n : Int) - 1)) = false := by rw [h2.inb.no hib]; simp
          rcases (show n = 0 ∨ (n : Int) - 1 = G.b by omega) with rfl | hend
          · go_wp2_with fail
            clear c0 c5 c7
            refine (chipBad_any _ hx64 _ h2.chip).mono ?_
            rw [hbd]
            rintro e w7 ⟨rfl, q7⟩
            have HS2 : Hid (Since w w7) := hs.out.trans q7
            clear h2 q7 hs hbd
            go_wp2_with fail
            go_roundw
            case rel => exact ⟨1, by omega, by go_num, HS2⟩
            case measure => simp [RowKit.intOf]
          · have hnl : ¬ (n : Int) - 1 < G.b := by omega
            have hn0 : (0 : Int) ≤ (n : Int) - 1 := by omega
            have HE : Hid ((n : Int) - 1 = G.b) := hend
            clear hend
            go_wp2_with fail
            clear c0 c5 c7
            refine (chipBad_any _ hx64 _ h2.chip).mono ?_
            rw [hbd]
            rintro e w7 ⟨rfl, q7⟩
            have HS2 : Hid (Since w w7) := hs.out.trans q7
            clear h2 q7 hs hbd
            go_wp2_with fail
            go_roundw
            case rel => exact ⟨n + 1, by have := HE.out; omega, by go_num, HS2⟩
            case measure => have := HE.out; simp [RowKit.intOf]; omega
        · have hyi := inB0_yes hib
          obtain ⟨k, rfl⟩ : ∃ k : Nat, n = k + 1 := ⟨n - 1, by omega⟩
          have ek : (((k + 1 : Nat) : Int) - 1) = (k : Int) := by omega
          rw [ek] at hlt hx64 hib hyi ⊢
          have hk : k < G.b.toNat := by omega
          have hkI : (k : Int) < ((G.b.toNat : Nat) : Int) := by omega
          have d2 := (h2.ref.blocks k hk).c2
          have HK : Hid (k < G.b.toNat) := hk
          have hkl := hyi.2
          have hk0 := hyi.1
          have HW : Hid (Since w wr) := hs
          clear hyi ek hk
          rw [hu] at c7
          generalize G.b.toNat = Bn at c5 d2 hkI
          go_wp2_with fail
          clear c0 c5 c7 d2
          refine (chipBad_any _ hx64 _ h2.chip).mono ?_
          rw [hu]
          rintro e w7 ⟨rfl, q7⟩
          have HS2 : Hid (Since w w7) := hs.out.trans q7
          clear h2 q7 hs
          go_wp2_with fail
          go_roundw
          case rel => exact ⟨k + 2, by have := HK.out; omega, by go_num, HS2⟩
          case measure => have := HK.out; simp [RowKit.intOf]; omega
      · have hs2 := hs
        clear c5 c7
        go_wp2_with fail
        go_ret
        exact ⟨rfl, hs2.out⟩
  · rw [hu] at c7
    have hfuse : ∀ w', CellOk G B S w' → Calls Try.prog 28 #[.pointer (some ⟨B.c, 0, none⟩)] w' fun e w'' => e = .returned (.int .i64 (S.fu)) ∧ w' = w'' := fun w' hw' => by
      have := chipFuse_any _ hw'
      rw [hu] at this
      exact this
    go_enter Try.func14, Try.ntmps14
    go_wp2_with fail
    clear c6 c7
    refine held_open (Since w) (by kernel_rfl) ?_
    refine held_reads (rs := [0, 2, 3, 4, 5]) (fuel := 17) (by kernel_rfl) (fun c d v a w h => by cases d <;> exact h) (by kernel_rfl) (Since.drew _) (fun K hK => ?_)
    refine calm_move _ rfl (by rfl) rfl ?_
    go_simp
    refine calm_move _ rfl (by rfl) rfl ?_
    go_simp
    refine calm_do (.pointer (some ⟨R.c, 0, none⟩)) rfl (by rfl) (fun w' hw' => ?_) ?_
    · go_simp
    go_simp
    refine calm_do (.pointer (some ⟨R.c, 7, none⟩)) rfl (by rfl) (fun w' hw' => ?_) ?_
    · go_simp
    go_simp
    refine calm_do (.bool true) rfl (by rfl) (fun w' hw' => ?_) ?_
    · have x7 := (HC.out w' hw').c7; rw [hu] at x7
      go_simp
    go_simp
    refine calm_nil (hK.out _ ?_)
    clear hK K
    refine held_op (i := 1) (fuel := 16) (by kernel_rfl) rfl (by rfl) (fun K hK => ?_)
    go_simp
    refine (chipUp_any _ (HH.out _ (Since.drew _)).chip.cell).mono ?_
    rw [hu]
    rintro e w5 ⟨rfl, rfl⟩
    have sA : Since w w.drew := Since.drew _
    refine hK _ _ sA ?_
    clear hK K
    refine held_reads (rs := [6, 7, 8, 10]) (fuel := 12) (by kernel_rfl) (fun c d v a w h => by cases d <;> exact h) (by kernel_rfl) (sA) (fun K hK => ?_)
    go_simp
    refine calm_do (.bool false) rfl (by rfl) (fun w' hw' => ?_) ?_
    · skip
      go_simp
    go_simp
    refine calm_move _ rfl (by rfl) rfl ?_
    go_simp
    refine calm_move _ rfl (by rfl) rfl ?_
    go_simp
    refine calm_move _ rfl (by rfl) rfl ?_
    go_simp
    refine calm_nil (hK.out _ ?_)
    clear hK K
    refine held_op (i := 9) (fuel := 11) (by kernel_rfl) rfl (by rfl) (fun K hK => ?_)
    go_simp
    refine (hfuse _ (HH.out _ (Since.drew _)).chip.cell).mono ?_
    rintro e w5 ⟨rfl, rfl⟩
    refine hK _ _ sA ?_
    clear hK K
    refine held_reads (rs := [11, 12, 13, 14, 16, 17, 18, 19]) (fuel := 3) (by kernel_rfl) (fun c d v a w h => by cases d <;> exact h) (by kernel_rfl) (sA) (fun K hK => ?_)
    go_simp
    refine calm_do (.bool false) rfl (by rfl) (fun w' hw' => ?_) ?_
    · skip
      go_simp
    go_simp
    refine calm_do (.bool false) rfl (by rfl) (fun w' hw' => ?_) ?_
    · go_simp
    go_simp
    refine calm_move _ rfl (by rfl) rfl ?_
    go_simp
    refine calm_move _ rfl (by rfl) rfl ?_
    go_simp
    refine calm_move _ rfl (by rfl) rfl ?_
    go_simp
    refine calm_do (.pointer (some ⟨R.c, 0, none⟩)) rfl (by rfl) (fun w' hw' => ?_) ?_
    · go_simp
    go_simp
    refine calm_do (.pointer (some ⟨R.c, 0, none⟩)) rfl (by rfl) (fun w' hw' => ?_) ?_
    · go_simp
    go_simp
    refine calm_do (.agg #[.int .i64 G.b, .int .i64 G.p, .int .i64 ((G.s : Nat)), .int .i64 ((G.n : Nat)), .int .i64 ((G.f : Nat))]) rfl (by rfl) (fun w' hw' => ?_) ?_
    · obtain ⟨x0, x1, x2, x3, x4, _⟩ := HC.out w' hw'
      go_simp
    go_simp
    refine calm_nil (hK.out _ ?_)
    clear hK K
    refine held_op (i := 15) (fuel := 2) (by kernel_rfl) rfl (by rfl) (fun K hK => ?_)
    go_simp
    refine (chipGeometry_any _ (HH.out _ (Since.drew _)).chip.cell (HH.out _ (Since.drew _)).chip.lt).mono ?_
    rintro e w6 ⟨rfl, qq⟩
    have sB : Since w w6 := Since.trans (Since.drew _) qq
    refine hK _ _ sB ?_
    clear hK K qq
    refine held_reads (rs := [20, 21]) (fuel := 0) (by kernel_rfl) (fun c d v a w h => by cases d <;> exact h) (by kernel_rfl) (sB) (fun K hK => ?_)
    go_simp
    refine calm_do (.bool false) rfl (by rfl) (fun w' hw' => ?_) ?_
    · skip
      go_simp
      all_goals (first | done | simp)
    go_simp
    refine calm_do (.bool false) rfl (by rfl) (fun w' hw' => ?_) ?_
    · go_simp
    go_simp
    refine calm_nil (hK.out _ ?_)
    clear hK K
    refine wpAnyH_done (by kernel_rfl) ?_ _
    go_wp2_with fail
    go_loopw [6] (fun ii wr => ∃ n : Nat, n ≤ G.b.toNat + 2 ∧ ii = .int .i64 ((n : Int) - 1) ∧ Hid (Since w wr)) (fun ii _ => G.b.toNat + 2 - (RowKit.intOf ii + 1).toNat)
    case atStart => exact ⟨0, Nat.zero_le _, rfl, sB⟩
    case round =>
      obtain ⟨n, hn, rfl, hs⟩ := hrel
      have cc := HC.out wr hs.out
      have c0 := cc.c0
      have c5 := cc.c5
      have c7 := cc.c7
      clear cc
      by_cases hlt : (n : Int) - 1 ≤ G.b
      · have h2 := HH.out wr hs.out
        have hx64 : I64 ((n : Int) - 1) := i64_small (by omega)
        cases hib : inB0 ((n : Int) - 1) G.b
        · have hni := inB0_no hib
          have hbd : (S.up && S.bd ((n : Int) - 1)) = false := by rw [h2.inb.no hib]; simp
          rcases (show n = 0 ∨ (n : Int) - 1 = G.b by omega) with rfl | hend
          · go_wp2_with fail
            clear c0 c5 c7
            refine (chipBad_any _ hx64 _ h2.chip).mono ?_
            rw [hbd]
            rintro e w7 ⟨rfl, q7⟩
            have HS2 : Hid (Since w w7) := hs.out.trans q7
            clear h2 q7 hs hbd
            go_wp2_with fail
            go_roundw
            case rel => exact ⟨1, by omega, by go_num, HS2⟩
            case measure => simp [RowKit.intOf]
          · have hnl : ¬ (n : Int) - 1 < G.b := by omega
            have hn0 : (0 : Int) ≤ (n : Int) - 1 := by omega
            have HE : Hid ((n : Int) - 1 = G.b) := hend
            clear hend
            go_wp2_with fail
            clear c0 c5 c7
            refine (chipBad_any _ hx64 _ h2.chip).mono ?_
            rw [hbd]
            rintro e w7 ⟨rfl, q7⟩
            have HS2 : Hid (Since w w7) := hs.out.trans q7
            clear h2 q7 hs hbd
            go_wp2_with fail
            go_roundw
            case rel => exact ⟨n + 1, by have := HE.out; omega, by go_num, HS2⟩
            case measure => have := HE.out; simp [RowKit.intOf]; omega
        · have hyi := inB0_yes hib
          obtain ⟨k, rfl⟩ : ∃ k : Nat, n = k + 1 := ⟨n - 1, by omega⟩
          have ek : (((k + 1 : Nat) : Int) - 1) = (k : Int) := by omega
          rw [ek] at hlt hx64 hib hyi ⊢
          have hk : k < G.b.toNat := by omega
          have hkI : (k : Int) < ((G.b.toNat : Nat) : Int) := by omega
          have d2 := (h2.ref.blocks k hk).c2
          have HK : Hid (k < G.b.toNat) := hk
          have hkl := hyi.2
          have hk0 := hyi.1
          have HW : Hid (Since w wr) := hs
          clear hyi ek hk
          rw [hu] at c7
          generalize G.b.toNat = Bn at c5 d2 hkI
          generalize hbd : S.bd (k : Int) = bd at *
          have HBD : Hid (S.bd (k : Int) = bd) := hbd
          clear hbd
          go_wp2_with fail
          clear c0 c5 c7 d2
          refine (chipBad_any _ hx64 _ h2.chip).mono ?_
          rw [hu, HBD.out]
          rintro e w7 ⟨rfl, q7⟩
          have HS2 : Hid (Since w w7) := hs.out.trans q7
          clear h2 q7 hs
          go_wp2_with fail
          go_roundw
          case rel => exact ⟨k + 2, by have := HK.out; omega, by go_num, HS2⟩
          case measure => have := HK.out; simp [RowKit.intOf]; omega
      · have hs2 := hs
        clear c5 c7
        go_wp2_with fail
        go_ret
        exact ⟨rfl, hs2.out⟩
end Go.Proofs.Ytjagnpljhedfjaa
