/-
  Layer 13's laws: the walk of Sha256Writes. (Written by tools/gen/sha_writes.py.)
-/
import Derived.Test.YtoijeefmddopbaaShaEq
import Derived.Test.YtoijeefmddopbaaShaOpen
import Derived.Maps.AppendAt
namespace Go.Proofs.Ytoijeefmddopbaa
open Go.RowKit
set_option linter.unusedVariables false
set_option maxRecDepth 8192

/-- What the first i parts hold. -/
def catTo (R : Nat → PartV) : Nat → List Nat
  | 0 => []
  | i + 1 => catTo R i ++ (R i).num
theorem owns_off {w w' : World} {base n : Nat} {e : TypeId} {v : Value} {xs : List Value} {rb : Option Nat} (h : w.ownsRow base e 1 v n xs) (hg : w.grownBy w' rb) (hr : ∀ b, rb = some b → b < base) : w'.ownsRow base e 1 v n xs := by
  refine ⟨h.1, ?_⟩
  rcases h.2 with h2 | ⟨g, cap, cur, hv, hb, hh, r⟩
  · exact .inl h2
  · have hlt : g < w.heap.size := (Array.getElem?_eq_some_iff.1 hh).1
    exact .inr ⟨g, cap, cur, hv, hb, by rw [hg.block g hlt (fun e => by have := hr g e.symm; omega)]; exact hh, r⟩
theorem owns_cell_off {w : World} {base n : Nat} {e : TypeId} {v : Value} {xs : List Value} (h : w.ownsRow base e 1 v n xs) (a : Addr) (u : Value) (hne : ∀ k, v.ownBlock = some k → k ≠ a.block) : (w.setCell a u).ownsRow base e 1 v n xs := by
  refine ⟨h.1, ?_⟩
  rcases h.2 with h2 | ⟨g, cap, cur, hv, hb, hh, r⟩
  · exact .inl h2
  · exact .inr ⟨g, cap, cur, hv, hb, by rw [Below.heap_setCell w a u g (hne g (by rw [hv]; rfl))]; exact hh, r⟩
theorem OnAt.grown {w w' : World} {h : Nat} {K : List Nat} {S : S8} {D : List Nat} {rb : Option Nat} (H : OnAt w h K S D) (hg : w.grownBy w' rb) (hr : ∀ b, rb = some b → h < b) : OnAt w' h K S D :=
  H.same (hg.block h H.lt (fun e => by have := hr h e.symm; omega)) hg.size
/-- A row appended to an owned row: where it then lies. -/
theorem wpList_append_row_at {P : Program} (w : World) {ops : Array Oper} {rest : List Oper} {o : Oper} {a : Act} {Q : Exit → Act → World → Prop} (hgd : o.guard = none) (s x : Operand) (t : TypeId)
    (ho : o.op = .call { callee := .builtin .append, args := #[s, x], argTypes := #[t, t] })
    (base : Nat) (e : TypeId) (i : TypeInfo) (z : Value) (bytes : Nat) (ht : P.underlying t = some (.slice e)) (hi : P.info? e = some i) (hz : i.zero = some z)
    (hsize : i.size = 1) (hby : i.bytes = bytes) (hzs : z.cells.size = 1)
    (v : Value) (n : Nat) (xs : List Value) (hs : a.eval s = v) (hown : w.ownsRow base e 1 v n xs)
    (k : IntKind) (sa : Option Addr) (m c : Nat) (zs : List Int) (hx : a.eval x = .slice sa m c) (hr : Row k w sa m c zs)
    (h63 : n + m ≤ maxLen) (hbytes : (n + m) * bytes ≤ 140737488355328) (hbase : base ≤ w.heap.size)
    (h : ∀ v' w', w'.ownsRow base e 1 v' (n + m) (xs ++ zs.map (Value.int k)) → w.grownBy w' v.ownBlock → (v'.ownBlock = v.ownBlock ∨ v'.ownBlock = some w.heap.size) → wpList P ops Q rest (a.put o.dst v') w') : wpList P ops Q (o :: rest) a w := by
  cases sa with
  | none =>
    obtain rfl : c = 0 := hr.hnil rfl
    obtain rfl : m = 0 := by have := hr.hcap; omega
    have hz0 : zs = [] := List.eq_nil_of_length_eq_zero hr.hlen
    refine wpList_append_own_none hgd s x t ho base e i 1 ht hi v n xs hs hown hx ?_
    exact h v w (by rw [hz0]; simpa using hown) (World.grownBy.refl w _) (.inl rfl)
  | some ad =>
    refine wpList_append_own_at w hgd s x t ho base e i z 1 bytes ht hi hz hsize hby hzs (by decide) v n xs hs hown ad m c (zs.map (Value.int k)) hx (by simp [hr.hlen]) ?_ (ints_oneCell _ _) h63 hbytes hbase fun v' w' h1 h2 _ h4 => h v' w' h1 h2 h4
    intro j u hj
    by_cases h0 : 0 < m
    · obtain ⟨b, off, hab, _, hcell⟩ := hr.hcell h0
      simp only [Option.some.injEq] at hab
      subst hab
      exact cells_row hr.hlen hcell j u hj
    · have hz0 : zs = [] := List.eq_nil_of_length_eq_zero (by rw [hr.hlen]; omega)
      rw [hz0] at hj
      simp at hj
set_option maxHeartbeats 6400000 in
theorem walk_writes_gen (K : List Nat) (S : S8)
    (hW : ∀ (w : World) (h : Nat) (D z : List Nat) (a : Option Addr) (len cap : Nat), HIs w h K S D → Row .u8 w a len cap (nI z) → (∀ x ∈ z, x < 256) → (0 < len → ∀ ad, a = some ad → ad.block ≠ h) → D.length + len < 1000000000000 →
      Calls Try.prog 24 #[.pointer (some ⟨h, 0, none⟩), .slice a len cap] w fun e w' => e = .returned (.int .i64 0) ∧ OnAt w' h K S (D ++ z) ∧ w.grownBy w' (some h))
    (hS : ∀ (w : World) (h : Nat) (D : List Nat), HIs w h K S D → D.length < 1000000000000 → Calls Try.prog 25 #[.pointer (some ⟨h, 0, none⟩)] w fun e w' => e = .returned (.agg ((nI (sumL K S D)).map (Value.int .u8)).toArray) ∧ OnAt w' h K S D ∧ w.grownBy w' (some h))
    (cS : ∀ (w : World) (z : List Nat) (a : Option Addr) (len cap : Nat), Row .u8 w a len cap (nI z) → (∀ x ∈ z, x < 256) → len < 1000000000 → Calls Try.prog 21 #[.slice a len cap] w fun e w' => e = .returned (.agg ((nI (sumL K S z)).map (Value.int .u8)).toArray) ∧ Below w.heap.size w w')
    (R : Nat → PartV) (a : Option Addr) (len cap : Nat) (w : World) (hP : PartsAt w a len cap R) :
    Calls Try.prog 7 #[.slice a len cap] w fun e w' => e = .returned (.bool true) ∧ Below w.heap.size w w' := by
  obtain ⟨i0, hi0, hz0, hz1, hz2⟩ := info_parts Try.info5
  by_cases hbig : 100 < len
  · go_enter Try.func7, Try.ntmps7
    go_wp2
    go_ret
    exact ⟨rfl, Below.refl _ _⟩
  have hsm : len ≤ 100 := by omega
  go_enter Try.func7, Try.ntmps7
  go_wp2_with fail
  refine (new_any _).mono ?_
  rintro e w1 ⟨rfl, H1, q1⟩
  have s1 := H1.lt
  have HI0 : Hid (HIs w1 w.heap.size K S []) := Or.inr ⟨rfl, H1⟩
  have HB0 : Hid (Below w.heap.size w w1) := q1
  have HE0 : Hid (∀ x ∈ catTo R 0, x < 256) := fun x hx => by simp [catTo] at hx
  clear H1 q1
  go_wp2
  go_loopw [4, 5] (fun v y wr => ∃ i n : Nat, i ≤ len ∧ y = .int .i64 (i : Int) ∧ n ≤ 300 * i ∧ w1.heap.size ≤ wr.heap.size ∧ Hid ((catTo R i).length = n) ∧ Hid (∀ x ∈ catTo R i, x < 256) ∧ Hid (wr.ownsRow w1.heap.size 5 1 v n ((nI (catTo R i)).map (Value.int .u8))) ∧ Hid (HIs wr w.heap.size K S (catTo R i)) ∧ Hid (Below w.heap.size w wr)) (fun _ y _ => len - (intOf y).toNat)
  case atStart => exact ⟨0, 0, by omega, rfl, by omega, Nat.le_refl _, rfl, HE0, World.ownsRow_nil _ _ _ _, HI0, HB0⟩
  case round =>
    clear HI0 HB0 HE0
    obtain ⟨i, n, hi, rfl, hn, hs1, HLD, HE, HO, HI, HB⟩ := hrel
    have sB := HB.out.size
    by_cases hlt : i < len
    · obtain ⟨b, off, rfl, hb, hpe⟩ := hP.each (by omega)
      obtain ⟨x0, hri, hzi⟩ := hpe i hlt
      have HC : Hid (catTo R (i + 1) = catTo R i ++ (R i).num) := rfl
      generalize hRi : R i = r at x0 hri hzi HC
      clear hRi hpe
      obtain ⟨ar, l, cr, zr⟩ := r
      simp only at x0 hri hzi HC
      have HZR : Hid (∀ x ∈ zr, x < 256) := hzi
      have HLZ : Hid (zr.length = l) := by have := hri.hlen; rw [nI_length] at this; exact this
      clear hzi
      generalize hD : catTo R i = D at *
      have hii : (i : Int) < (len : Int) := by omega
      have hpc := hP.hlen
      have x1 : wr.cell? ⟨b, off + i, none⟩ = some (.slice ar l cr) := by rw [HB.out.cell hb]; exact x0
      have hrr := hri.below HB.out (Nat.le_refl _)
      by_cases hl : 300 < l
      · have hlI : (300 : Int) < (l : Int) := by omega
        go_wp2
        go_ret
        exact ⟨rfl, HB.out⟩
      have hl3 : l ≤ 300 := by omega
      have hlI : ¬ (300 : Int) < (l : Int) := by omega
      have hown := HO.out
      have hown0 := World.ownsRow_lit (base := wr.heap.size) (e := 5) (size := 1) wr #[] 0 (Nat.le_refl _) (Nat.zero_le _) rfl
      have qa := below_one wr (.cells #[] 5)
      have x2 : (wr.alloc (.cells #[] 5)).cell? ⟨b, off + i, none⟩ = some (.slice ar l cr) := by rw [qa.cell (show b < wr.heap.size by omega)]; exact x1
      have hra := hrr.below qa (Nat.le_refl _)
      go_wp2_with (at_builtin; refine wpList_append_row _ rfl _ _ 36 rfl wr.heap.size 5 i0 (.int .u8 0) 1 Try.underlying36 hi0 hz0 hz1 hz2 rfl _ 0 [] rfl hown0 .u8 ar l cr _ rfl hra (by unfold maxLen; omega) (by omega) (by simp) ?_)
      intro v6 w2 own6 hg6
      have q2 : Below wr.heap.size wr w2 := qa.grown hg6 (by simp) (fun k hk => (hown0.lt k hk).1)
      clear hg6 hown0 hra qa x2 x1
      try rw [List.nil_append, Nat.zero_add] at own6
      obtain ⟨ao, co, rfl, ro⟩ := row_of_owns own6
      have s2 := q2.size
      have H2 := HI.out.below q2 (show w.heap.size < wr.heap.size by omega)
      have hne : 0 < l → ∀ ad, ao = some ad → ad.block ≠ w.heap.size := fun _ ad hd => by
        have := (own6.lt ad.block (by rw [hd]; rfl)).1
        omega
      have cW := hW w2 w.heap.size D zr ao l co H2 ro HZR.out hne (by rw [HLD.out]; omega)
      clear hne H2 ro HI
      go_wp2_with fail
      refine cW.mono ?_
      rintro e w3 ⟨rfl, O3, g3⟩
      clear cW
      have s3 := g3.size
      have hA3 := owns_off (ownsSince hown q2) g3 (fun k hk => by simp only [Option.some.injEq] at hk; omega)
      have hO3 := owns_off own6 g3 (fun k hk => by simp only [Option.some.injEq] at hk; omega)
      have q02 : Below w.heap.size w w2 := HB.out.trans (q2.mono sB)
      have q03 : Below w.heap.size w w3 := turned_new q02 g3 (by omega) (Nat.le_refl _)
      have hoB := fun k hk => (own6.lt k hk).2
      have x3 : w3.cell? ⟨b, off + i, none⟩ = some (.slice ar l cr) := by rw [q03.cell hb]; exact x0
      have hr3 := hri.below q03 (Nat.le_refl _)
      clear q02 g3 own6 q2 hrr HO HB
      go_wp2_with (at_builtin; refine wpList_append_row_at _ rfl _ _ 36 rfl w1.heap.size 5 i0 (.int .u8 0) 1 Try.underlying36 hi0 hz0 hz1 hz2 rfl _ n _ rfl hA3 .u8 ar l cr _ rfl hr3 (by unfold maxLen; omega) (by omega) (by omega) ?_)
      intro v4 w4 own4 hg4 hat
      have s4 := hg4.size
      have hkb := fun k hk => hown.lt k hk
      have hO4 := owns_off hO3 hg4 (fun k hk => (hkb k hk).2)
      have O4 := O3.grown hg4 (fun k hk => by have := (hkb k hk).1; omega)
      have q04 : Below w.heap.size w w4 := q03.grown hg4 (by omega) (fun k hk => by have := (hkb k hk).1; omega)
      have HAT : Hid (∀ k, v4.ownBlock = some k → k < wr.heap.size ∨ k = w3.heap.size) := fun k hk => by
        rcases hat with h | h
        · exact .inl (hkb k (by rw [← h]; exact hk)).2
        · rw [h] at hk; exact .inr (by simpa using hk.symm)
      rw [← List.map_append, ← nI_append] at own4
      clear hat hg4 hA3 hO3 x3 hr3 O3 q03 hown hkb
      have HD2 : Hid (∀ x ∈ D ++ zr, x < 256) := fun x hx => by
        rcases List.mem_append.1 hx with h' | h'
        · exact HE.out x h'
        · exact HZR.out x h'
      have HL2 : Hid ((D ++ zr).length = n + l) := by show _ = _; rw [List.length_append, HLD.out, HLZ.out]
      generalize D ++ zr = D2 at *
      have hn2 : n + l ≤ 300 * (i + 1) := by omega
      generalize hNl : n + l = N at *
      obtain ⟨aA, cA, rfl, rA⟩ := row_of_owns own4
      have HOB : Hid (∀ k, (Value.slice ao l co).ownBlock = some k → wr.heap.size ≤ k ∧ k < w2.heap.size) := fun k hk => ⟨(hO4.lt k hk).1, hoB k hk⟩
      have HOw : Hid (∃ zs : List Int, zs.length = l ∧ w4.ownsRow wr.heap.size 5 1 (.slice ao l co) l (zs.map (Value.int .u8))) := ⟨nI zr, by rw [nI_length]; exact HLZ.out, hO4⟩
      have HA4 : Hid (w4.ownsRow w1.heap.size 5 1 (.slice aA N cA) N ((nI D2).map (Value.int .u8))) := own4
      have HO4 : Hid (OnAt w4 w.heap.size K S D2) := O4
      have HB4 : Hid (Below w.heap.size w w4) := q04
      have s14 : w1.heap.size ≤ w4.heap.size := by omega
      have sw3 : w2.heap.size ≤ w3.heap.size := s3
      have sr1 : w.heap.size < wr.heap.size := by omega
      clear hO4 own4 O4 q04 rA hoB HZR HLZ HE HLD hri x0
      obtain ⟨wo, hwo⟩ : ∃ x, x = wr := ⟨_, rfl⟩
      subst hwo
      go_wp2
      go_loopw [7] (fun y ws => ∃ k : Nat, k ≤ l ∧ y = .int .i64 (k : Int) ∧ w1.heap.size ≤ ws.heap.size ∧ Hid (∃ zs : List Int, zs.length = l ∧ ws.ownsRow wo.heap.size 5 1 (.slice ao l co) l (zs.map (Value.int .u8))) ∧ Hid (ws.ownsRow w1.heap.size 5 1 (.slice aA N cA) N ((nI D2).map (Value.int .u8))) ∧ Hid (OnAt ws w.heap.size K S D2) ∧ Hid (Below w.heap.size w ws)) (fun y _ => l - (intOf y).toNat)
      case atStart => exact ⟨0, by omega, rfl, s14, HOw, HA4, HO4, HB4⟩
      case round =>
        clear HOw HA4 HO4 HB4 s14
        obtain ⟨k, hk, rfl, s14, HOw, HA4, HO4, HB4⟩ := hrel
        by_cases hkl : k < l
        · obtain ⟨zs, hzl, hoz⟩ := HOw.out
          obtain ⟨bo, co', hve, hbo, hbo2⟩ := hoz.form (by omega)
          simp only [Value.slice.injEq, true_and] at hve
          obtain ⟨rfl, rfl⟩ := hve
          have hb2 := (HOB.out bo rfl).2
          have hc := hoz.cellAt k (by omega)
          rw [List.getElem?_map, List.getElem?_eq_getElem (by omega), Option.map_some] at hc
          have hfz := hoz.frozenAt k
          have hkI : (k : Int) < (l : Int) := by omega
          have HN : Hid ((wr.setCell ⟨bo, k, none⟩ (.int .u8 7)).ownsRow wo.heap.size 5 1 (.slice (some ⟨bo, 0, none⟩) l co) l ((zs.set k 7).map (Value.int .u8))) := by
            show World.ownsRow _ _ _ _ _ _ _
            rw [List.map_set]
            exact (hoz.stored k (.int .u8 7)).1
          have HNA : Hid ((wr.setCell ⟨bo, k, none⟩ (.int .u8 7)).ownsRow w1.heap.size 5 1 (.slice aA N cA) N ((nI D2).map (Value.int .u8))) := owns_cell_off HA4.out _ _ (fun k' hk' => by
            show k' ≠ bo
            rcases HAT.out k' hk' with h' | h' <;> omega)
          have HNO : Hid (OnAt (wr.setCell ⟨bo, k, none⟩ (.int .u8 7)) w.heap.size K S D2) := HO4.out.same (Below.heap_setCell _ _ _ _ (by show w.heap.size ≠ bo; omega)) (by simp)
          have HNB : Hid (Below w.heap.size w (wr.setCell ⟨bo, k, none⟩ (.int .u8 7))) := HB4.out.setCell (by show w.heap.size ≤ bo; omega) _
          have hsN : w1.heap.size ≤ (wr.setCell ⟨bo, k, none⟩ (.int .u8 7)).heap.size := by simpa using s14
          go_wp2
          go_roundw
          case rel => exact ⟨k + 1, by omega, by go_num, hsN, ⟨zs.set k 7, by simpa using hzl, HN.out⟩, HNA, HNO, HNB⟩
          case measure => simp [intOf]; omega
        · obtain rfl : k = l := by omega
          clear HOw HOB HAT
          by_cases h3 : i % 3 = 0
          · have h3I : (i : Int).tmod 3 = 0 := by rw [Int.tmod_eq_emod_of_nonneg (by omega)]; omega
            have h3J : (i : Int) % 3 = 0 := by omega
            have c1 := hS wr w.heap.size D2 (.inl HO4.out) (by rw [HL2.out]; omega)
            have HLs : Hid ((nI (sumL K S D2)).length = 32) := by show _ = _; rw [nI_length]; rfl
            have c2 : ∀ (w' : World) (r : Row .u8 w' aA N cA (nI D2)), Calls Try.prog 21 #[.slice aA N cA] w' fun e w'' => e = .returned (.agg ((nI (sumL K S D2)).map (Value.int .u8)).toArray) ∧ Below w'.heap.size w' w'' := fun w' r => cS w' D2 aA N cA r HD2.out (by omega)
            generalize sumL K S D2 = sm at *
            go_wp2_with fail
            refine c1.mono ?_
            rintro e w5 ⟨rfl, O5, g5⟩
            have s5 := g5.size
            have hA5 := owns_off HA4.out g5 (fun k hk => by simp only [Option.some.injEq] at hk; omega)
            have q05 : Below w.heap.size w w5 := turned_new HB4.out g5 (by omega) (Nat.le_refl _)
            obtain ⟨aA', cA', e5, r5⟩ := row_of_owns hA5
            simp only [Value.slice.injEq, true_and] at e5
            obtain ⟨rfl, rfl⟩ := e5
            clear c1 HA4 HO4 HB4 g5
            go_wp2_with fail
            refine (c2 w5 r5).mono ?_
            rintro e w6 ⟨rfl, q6⟩
            have s6 := q6.size
            have HA6 : Hid (w6.ownsRow w1.heap.size 5 1 (.slice aA N cA) N ((nI D2).map (Value.int .u8))) := ownsSince hA5 q6
            have HO6 : Hid (HIs w6 w.heap.size K S D2) := .inl (O5.below q6 O5.lt)
            have HB6 : Hid (Below w.heap.size w w6) := q05.trans (q6.mono (by omega))
            have s16 : w1.heap.size ≤ w6.heap.size := by omega
            clear c2 hA5 O5 q05 r5 q6
            go_wp2_with (refine wpList_exec (by rfl) (exec_neqA 43 43 _ _ rfl (nI sm) rfl rfl Try.eqGuardType43 Try.underlying43 Try.underlying5 Try.one5 HLs.out) ?_)
            go_roundw
            case rel => exact ⟨i + 1, N, by omega, by go_num, hn2, s16, by rw [HC.out]; exact HL2, by rw [HC.out]; exact HD2, by rw [HC.out]; exact HA6, by rw [HC.out]; exact HO6, HB6⟩
            case measure => simp [intOf]; omega
          · have h3I : ¬ (i : Int).tmod 3 = 0 := by rw [Int.tmod_eq_emod_of_nonneg (by omega)]; omega
            have h3J : ¬ (i : Int) % 3 = 0 := by omega
            have h3B : ((i : Int) % 3 == 0) = false := by simpa using h3J
            have h3C : ((i : Int).tmod 3 == 0) = false := by simpa using h3I
            have HO6 : Hid (HIs wr w.heap.size K S D2) := .inl HO4.out
            go_wp2
            go_roundw
            case rel => exact ⟨i + 1, N, by omega, by go_num, hn2, s14, by rw [HC.out]; exact HL2, by rw [HC.out]; exact HD2, by rw [HC.out]; exact HA4, by rw [HC.out]; exact HO6, HB4⟩
            case measure => simp [intOf]; omega
    · obtain rfl : i = len := by omega
      have hown := HO.out
      obtain ⟨aA, cA, rfl, rA⟩ := row_of_owns hown
      clear HO hW
      generalize catTo R i = D at *
      have cH : ∀ w', HIs w' w.heap.size K S D → _ := fun w' h' => hS w' w.heap.size D h' (by rw [HLD.out]; omega)
      have c2 : ∀ (w' : World) (r : Row .u8 w' aA n cA (nI D)), Calls Try.prog 21 #[.slice aA n cA] w' fun e w'' => e = .returned (.agg ((nI (sumL K S D)).map (Value.int .u8)).toArray) ∧ Below w'.heap.size w' w'' := fun w' r => cS w' D aA n cA r HE.out (by omega)
      have HLs : Hid ((nI (sumL K S D)).length = 32) := by show _ = _; rw [nI_length]; rfl
      have HLz : Hid ((nI (List.replicate 32 0)).length = 32) := by show _ = _; rfl
      generalize sumL K S D = sm at *
      clear hS cS HE HLD
      go_wp2_with fail
      refine (awake13_any _).mono ?_
      rintro e w2 ⟨rfl, q2⟩
      have s2 := q2.size
      have q02 := HB.out.trans (q2.mono sB)
      have H2 := HI.out.below q2 (show w.heap.size < wr.heap.size by omega)
      have r2 := rA.below q2 (Nat.le_refl _)
      have hA2 := ownsSince hown q2
      go_wp2_with fail
      refine (cH w2 H2).mono ?_
      rintro e w3 ⟨rfl, O3, g3⟩
      have s3 := g3.size
      have q03 : Below w.heap.size w w3 := turned_new q02 g3 (by omega) (Nat.le_refl _)
      have hA3 := owns_off hA2 g3 (fun k hk => by simp only [Option.some.injEq] at hk; omega)
      obtain ⟨aA', cA', e5, r3⟩ := row_of_owns hA3
      simp only [Value.slice.injEq, true_and] at e5
      obtain ⟨rfl, rfl⟩ := e5
      clear cH O3 g3 hA2 hA3 r2 H2
      go_wp2_with fail
      refine (c2 w3 r3).mono ?_
      rintro e w4 ⟨rfl, q4⟩
      have q04 := q03.trans (q4.mono (by omega))
      clear c2 r3 q4
      go_wp2_with (refine wpList_exec (by rfl) (exec_eqlA 43 43 _ _ rfl (nI sm) rfl rfl Try.eqGuardType43 Try.underlying43 Try.underlying5 Try.one5 HLs.out) ?_)
      refine (write_nil none 0 0 _).mono ?_
      rintro e w5 ⟨rfl, rfl⟩
      go_wp2_with fail
      refine (hsum_nil _).mono ?_
      rintro e w6 ⟨rfl, q6⟩
      have q06 := q04.trans (q6.mono q04.size)
      go_wp2_with (refine wpList_exec (by rfl) (exec_eqlA 43 43 _ _ rfl (nI (List.replicate 32 0)) rfl rfl Try.eqGuardType43 Try.underlying43 Try.underlying5 Try.one5 HLz.out) ?_)
      go_ret
      exact ⟨rfl, q06⟩
theorem walk_Sha256Writes (R : Nat → PartV) (a : Option Addr) (len cap : Nat) (w : World) (hP : PartsAt w a len cap R) :
    Calls Try.prog 7 #[.slice a len cap] w fun e w' => e = .returned (.bool true) ∧ Below w.heap.size w w' :=
  walk_writes_gen KL S0 write13_any hsum13_any sum13_any R a len cap w hP
end Go.Proofs.Ytoijeefmddopbaa
