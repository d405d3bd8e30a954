/-
  The code of layer 11 (store), as it landed: Unmap.
-/
import Derived.Test.YtbafkakhhelcmaaGreatStoreCode10
namespace Go.Proofs.YtbafkakhhelcmaaGreat
open Go.RowKit Go.Maps
set_option linter.unusedVariables false
set_option maxRecDepth 8192

/-- Between two erasures of Unmap: R are still to be erased, then x0. -/
structure UnmI (G : Geo) (S0 : CS) (K0 : Int → BK) (M : Int → Option (List Int)) (st : List Int) (nu : Int) (j : Nat) (x0 : Int) (R : List Int) (S : CS) (K : Int → BK) : Prop where
  inv : CInv G S K
  up : S.up = true
  wk : S.wk = S0.wk
  ah : S0.ah = 0 → S.ah = 0
  cl : (∀ y p, S0.wr y p = fun _ => false) → ∀ y p, S.wr y p = fun _ => false
  mono : ∀ y, S0.bd y = true → S.bd y = true
  only : ∀ y, S.bd y = true → S0.bd y = true ∨ S0.wk y = true
  hold : Hold G.b S.bd K M
  stok : StOk G.b S.bd K M st
  num : NumOk G.b S.bd K nu
  best : ∃ D n, Best G.b S.bd K j x0 D n
  left : ∀ y D n, GoodB G.b S.bd y → K y = .copy j D n → y = x0 ∨ y ∈ R
  ks : ∀ y, K y = K0 y ∨ K y = .no
/-- What Unmap makes. -/
structure UnmRes (G : Geo) (S0 : CS) (K0 : Int → BK) (M : Int → Option (List Int)) (st : List Int) (nu : Int) (j : Nat) (r : Int) (S : CS) (K : Int → BK) (st1 : List Int) (dn1 : Bool) : Prop where
  inv : CInv G S K
  wk : S.wk = S0.wk
  ah : S0.ah = 0 → S.ah = 0
  cl : (∀ y p, S0.wr y p = fun _ => false) → ∀ y p, S.wr y p = fun _ => false
  mono : ∀ y, S0.bd y = true → S.bd y = true
  num : NumOk G.b S.bd K nu
  ks : ∀ y, K y = K0 y ∨ K y = .no
  is : (r = 0 ∧ (S.up = true ∧ dn1 = false ∧ ∀ y, S.bd y = true → S0.bd y = true ∨ S0.wk y = true) ∧ st1 = st.set j (-1) ∧ Hold G.b S.bd K (updM M j none) ∧ StOk G.b S.bd K (updM M j none) st1) ∨
    (r = 70 ∧ (S.up = false ∧ dn1 = true ∧ S0.ah ≠ 0) ∧ st1 = st ∧ (Hold G.b S.bd K M ∨ Hold G.b S.bd K (updM M j none)))
section
variable {G : Geo} {S0 S S2 : CS} {K0 K : Int → BK} {M : Int → Option (List Int)} {st R : List Int} {nu r x0 y : Int} {j : Nat}
theorem UnmI.step (h : UnmI G S0 K0 M st nu j x0 (y :: R) S K) (hM : ∀ i, (st.length : Int) ≤ i → M i = none) (hy : 0 ≤ y ∧ y < G.b) (hys : y ∉ st) (hx0 : x0 ∈ st) (hE : EraseRes G S y r S2) (hr : r ≠ 70) : ∃ K2, UnmI G S0 K0 M st nu j x0 R S2 K2 := by
  obtain ⟨k, ⟨h1, ht⟩, h2, h3, h4⟩ := hE.inv h.inv hy
  have hnb := notBest_of h.hold h.stok hM hys
  have hne : x0 ≠ y := fun e => hys (e ▸ hx0)
  have hup2 : S2.up = true := by
    rcases hE.2 with ⟨_, _, e⟩ | ⟨_, _, e, _⟩ | ⟨e, _⟩ | ⟨_, _, e, _⟩
    · rw [e]; exact h.up
    · exact e
    · exact absurd e hr
    · exact e
  have honly : ∀ z, S2.bd z = true → S0.bd z = true ∨ S0.wk z = true := fun z hz => by
    by_cases e : z = y
    · subst e
      rcases hE.2 with ⟨_, hb, _⟩ | ⟨_, ⟨hw, _⟩, _⟩ | ⟨e, _⟩ | ⟨_, _, _, hb, _⟩
      · exact h.only z hb
      · exact .inr (by rw [← h.wk]; exact hw)
      · exact absurd e hr
      · rw [hb] at hz; cases hz
    · rw [hE.1.bd z e] at hz; exact h.only z hz
  have hgone : GoodB G.b S2.bd y → ∀ D n, updK K y k y ≠ .copy j D n := fun hg D n e => by
    rw [updK_at] at e
    rcases hE.2 with ⟨_, hb, e2⟩ | ⟨_, _, _, hb, _⟩ | ⟨e2, _⟩ | ⟨rfl, _⟩
    · rw [e2] at hg; rw [hg.2] at hb; cases hb
    · rw [hg.2] at hb; cases hb
    · exact absurd e2 hr
    · rw [h3 rfl] at e; cases e
  obtain ⟨D0, n0, hb0⟩ := h.best
  refine ⟨_, h1, hup2, hE.1.wk.trans h.wk, fun e => hE.1.ah (h.ah e), fun e => hE.1.cl (h.cl e), fun z hz => ?_, honly, h.hold.turn hnb ht, h.stok.turn hys ht, ?_, ⟨D0, n0, hb0.turn ht hne⟩, fun z D n hz hk => ?_, fun z => ?_⟩
  · by_cases e : z = y
    · rw [e]; exact hE.1.mark (h.mono y (e ▸ hz))
    · rw [hE.1.bd z e]; exact h.mono z hz
  · refine ⟨h.num.1, fun z hz => ?_⟩
    have hz' := ht.good hz
    by_cases e : z = y
    · subst e
      rw [updK_at]
      rcases h2 with e | e
      · rw [e]; exact h.num.2 z hz'
      · rw [e]; have := h.num.1; simp only [BK.num]; omega
    · rw [updK_ne _ e]; exact h.num.2 z hz'
  · by_cases e : z = y
    · subst e; exact absurd hk (hgone hz D n)
    · rcases h.left z D n (ht.good hz) (ht.copy hz hk) with h5 | h5
      · exact .inl h5
      · rcases List.mem_cons.1 h5 with h6 | h6
        · exact absurd h6 e
        · exact .inr h6
  · by_cases e : z = y
    · subst e
      rw [updK_at]
      rcases h2 with e | e
      · rw [e]; exact h.ks z
      · exact .inr e
    · rw [updK_ne _ e]; exact h.ks z
theorem num_turn {k : BK} (hn : NumOk G.b S.bd K nu) (ht : Turn S.bd K S2.bd (updK K y k) y) (h2 : k = K y ∨ k = .no) : NumOk G.b S2.bd (updK K y k) nu := by
  refine ⟨hn.1, fun z hz => ?_⟩
  have hz' := ht.good hz
  by_cases e : z = y
  · subst e
    rw [updK_at]
    rcases h2 with e | e
    · rw [e]; exact hn.2 z hz'
    · rw [e]; have := hn.1; simp only [BK.num]; omega
  · rw [updK_ne _ e]; exact hn.2 z hz'
theorem ks_turn {k : BK} (h : ∀ z, K z = K0 z ∨ K z = .no) (h2 : k = K y ∨ k = .no) : ∀ z, updK K y k z = K0 z ∨ updK K y k z = .no := fun z => by
  by_cases e : z = y
  · subst e
    rw [updK_at]
    rcases h2 with e | e
    · rw [e]; exact h z
    · exact .inr e
  · rw [updK_ne _ e]; exact h z
theorem UnmI.down (h : UnmI G S0 K0 M st nu j x0 (y :: R) S K) (hM : ∀ i, (st.length : Int) ≤ i → M i = none) (hy : 0 ≤ y ∧ y < G.b) (hys : y ∉ st) (hE : EraseRes G S y 70 S2) : ∃ K2, UnmRes G S0 K0 M st nu j 70 S2 K2 st true := by
  obtain ⟨k, ⟨h1, ht⟩, h2, h3, h4⟩ := hE.inv h.inv hy
  have hnb := notBest_of h.hold h.stok hM hys
  rcases hE.2 with ⟨e, _⟩ | ⟨e, _⟩ | ⟨_, ⟨hah, _⟩, hu, _⟩ | ⟨e, _⟩
  · cases e
  · cases e
  · refine ⟨_, h1, hE.1.wk.trans h.wk, fun e => hE.1.ah (h.ah e), fun e => hE.1.cl (h.cl e), fun z hz => ?_, num_turn h.num ht h2, ks_turn h.ks h2, .inr ⟨rfl, ⟨hu, rfl, fun e => hah (h.ah e)⟩, rfl, .inl (h.hold.turn hnb ht)⟩⟩
    by_cases e : z = y
    · rw [e]; exact hE.1.mark (h.mono y (e ▸ hz))
    · rw [hE.1.bd z e]; exact h.mono z hz
  · cases e
/-- The block that stands is erased. -/
theorem UnmI.last (h : UnmI G S0 K0 M st nu j x0 [] S K) (hj : j < st.length) (hx : 0 ≤ x0 ∧ x0 < G.b) (hE : EraseRes G S x0 r S2) (hr : r ≠ 70) : ∃ K2, UnmRes G S0 K0 M st nu j 0 S2 K2 (st.set j (-1)) false := by
  obtain ⟨k, ⟨h1, ht⟩, h2, h3, h4⟩ := hE.inv h.inv hx
  obtain ⟨D0, n0, hb0⟩ := h.best
  have hgone : ∀ z D n, GoodB G.b S2.bd z → updK K x0 k z ≠ .copy j D n := fun z D n hz hk => by
    rcases h.left z D n (ht.good hz) (ht.copy hz hk) with e | e
    · subst e
      rw [updK_at] at hk
      rcases hE.2 with ⟨_, hb, _⟩ | ⟨_, _, _, hb, _⟩ | ⟨e2, _⟩ | ⟨rfl, _⟩
      · rw [hb0.good.2] at hb; cases hb
      · rw [hz.2] at hb; cases hb
      · exact absurd e2 hr
      · rw [h3 rfl] at hk; cases hk
    · simp at e
  have hup2 : S2.up = true := by
    rcases hE.2 with ⟨_, _, e⟩ | ⟨_, _, e, _⟩ | ⟨e, _⟩ | ⟨_, _, e, _⟩
    · rw [e]; exact h.up
    · exact e
    · exact absurd e hr
    · exact e
  have honly : ∀ z, S2.bd z = true → S0.bd z = true ∨ S0.wk z = true := fun z hz => by
    by_cases e : z = x0
    · subst e
      rcases hE.2 with ⟨_, hb, _⟩ | ⟨_, ⟨hw, _⟩, _⟩ | ⟨e, _⟩ | ⟨_, _, _, hb, _⟩
      · exact h.only z hb
      · exact .inr (by rw [← h.wk]; exact hw)
      · exact absurd e hr
      · rw [hb] at hz; cases hz
    · rw [hE.1.bd z e] at hz; exact h.only z hz
  refine ⟨_, h1, hE.1.wk.trans h.wk, fun e => hE.1.ah (h.ah e), fun e => hE.1.cl (h.cl e), fun z hz => ?_, num_turn h.num ht h2, ks_turn h.ks h2, .inl ⟨rfl, ⟨hup2, rfl, honly⟩, rfl, h.hold.del ht hb0.is hgone, h.stok.del ht hb0.is hj⟩⟩
  by_cases e : z = x0
  · rw [e]; exact hE.1.mark (h.mono x0 (e ▸ hz))
  · rw [hE.1.bd z e]; exact h.mono z hz
theorem UnmI.lastDown (h : UnmI G S0 K0 M st nu j x0 [] S K) (hx : 0 ≤ x0 ∧ x0 < G.b) (hE : EraseRes G S x0 70 S2) : ∃ K2, UnmRes G S0 K0 M st nu j 70 S2 K2 st true := by
  obtain ⟨k, ⟨h1, ht⟩, h2, h3, h4⟩ := hE.inv h.inv hx
  obtain ⟨D0, n0, hb0⟩ := h.best
  rcases hE.2 with ⟨e, _⟩ | ⟨e, _⟩ | ⟨_, ⟨hah, hbd⟩, hu, _⟩ | ⟨e, _⟩
  · cases e
  · cases e
  · refine ⟨_, h1, hE.1.wk.trans h.wk, fun e => hE.1.ah (h.ah e), fun e => hE.1.cl (h.cl e), fun z hz => ?_, num_turn h.num ht h2, ks_turn h.ks h2, .inr ⟨rfl, ⟨hu, rfl, fun e => hah (h.ah e)⟩, rfl, ?_⟩⟩
    · by_cases e : z = x0
      · rw [e]; exact hE.1.mark (h.mono x0 (e ▸ hz))
      · rw [hE.1.bd z e]; exact h.mono z hz
    · by_cases hc : S2.bd x0 = false ∧ k = K x0
      · left
        have e1 : S2.bd = S.bd := funext fun z => by
          by_cases e : z = x0
          · rw [e, hc.1, hbd]
          · exact hE.1.bd z e
        rw [hc.2, updK_self, e1]
        exact h.hold
      · right
        refine h.hold.del ht hb0.is (fun z D n hz hk => ?_)
        rcases h.left z D n (ht.good hz) (ht.copy hz hk) with e | e
        · subst e
          rw [updK_at] at hk
          rcases h2 with e2 | e2
          · exact hc ⟨hz.2, e2⟩
          · rw [e2] at hk; cases hk
        · simp at e
  · cases e
end
section
variable {G : Geo} {B : CB} {F : Nat → Prop} {N : Nat} {S : CS} {d s g : Nat} {st : List Int} {nu : Int} {dn : Bool}
theorem stUnmap_nil (j : Int) (w : World) : Calls Tryz.prog 23 #[.pointer none, .int .i64 j] w fun e w' => e = .returned (.int .i64 3) ∧ w = w' := by
  go_enter Tryz.func23, Tryz.ntmps23
  go_wp2_with fail
  refine (stReady_nil j _).mono ?_
  rintro e w1 ⟨rfl, rfl⟩
  go_wp2_with fail
  go_ret
  exact ⟨rfl, rfl⟩
theorem stUnmap_no (j : Int) (w : World) (h : SBox w s d g st nu dn) (hr : rdyS dn st.length j ≠ 0) : Calls Tryz.prog 23 #[.pointer (some ⟨s, 0, none⟩), .int .i64 j] w fun e w' => e = .returned (.int .i64 (rdyS dn st.length j)) ∧ w = w' := by
  have hr' : (rdyS dn st.length j != 0) = true := by simp [hr]
  have hrd := stReady_any j w h
  clear h hr
  generalize rdyS dn st.length j = r at *
  go_enter Tryz.func23, Tryz.ntmps23
  go_wp2_with fail
  refine hrd.mono ?_
  rintro e w1 ⟨rfl, rfl⟩
  go_wp2_with fail
  go_ret
  exact ⟨rfl, rfl⟩
theorem stUnmap_none (j : Nat) (w : World) (h : SBox w s d g st nu false) (hj : j < st.length) (hn : st[j]?.getD 0 = -1) : Calls Tryz.prog 23 #[.pointer (some ⟨s, 0, none⟩), .int .i64 (j : Int)] w fun e w' => e = .returned (.int .i64 0) ∧ w = w' := by
  have hrd := stReady_any (j : Int) w h
  rw [rdyS_in (by omega)] at hrd
  have c1 := h.c1
  have ca := h.at j hj
  rw [hn] at ca
  have hl := h.len
  clear h hn
  generalize st.length = L at *
  go_enter Tryz.func23, Tryz.ntmps23
  go_wp2_with fail
  refine hrd.mono ?_
  rintro e w1 ⟨rfl, rfl⟩
  clear hrd
  go_wp2_with fail
  go_ret
  exact ⟨rfl, rfl⟩
end
end Go.Proofs.YtbafkakhhelcmaaGreat
