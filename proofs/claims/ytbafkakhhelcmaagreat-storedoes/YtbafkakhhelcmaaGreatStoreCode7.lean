/-
  The code of layer 11 (store), as it landed: Change.
-/
import Derived.Test.YtbafkakhhelcmaaGreatStoreCode6
namespace Go.Proofs.YtbafkakhhelcmaaGreat
open Go.RowKit Go.Maps Go.Shelf
set_option linter.unusedVariables false
set_option maxRecDepth 8192
attribute [local go_sem] Oper.semAt_some

/-- Blocks were tried, and are marked now; S1 is S but for that. -/
structure Tried (S S1 : CS) (st : List Int) (pre : List Int) : Prop where
  up : S1.up = true
  wk : S1.wk = S.wk
  ah : S.ah = 0 → S1.ah = 0
  cl : (∀ y p, S.wr y p = fun _ => false) → ∀ y p, S1.wr y p = fun _ => false
  mono : ∀ y, S.bd y = true → S1.bd y = true
  only : ∀ y, S1.bd y = true → S.bd y = true ∨ (S.wk y = true ∧ y ∉ st)
  all : ∀ y ∈ pre, S1.bd y = true
/-- What Change makes. -/
structure ChgRes (G : Geo) (S : CS) (K : Int → BK) (st : List Int) (nu : Int) (j : Nat) (D : List Int) (r : Int) (S1 : CS) (K1 : Int → BK) (st1 : List Int) (nu1 : Int) (dn1 : Bool) : Prop where
  inv : CInv G S1 K1
  wk : S1.wk = S.wk
  ah : S.ah = 0 → S1.ah = 0
  cl : (∀ y p, S.wr y p = fun _ => false) → ∀ y p, S1.wr y p = fun _ => false
  mono : ∀ y, S.bd y = true → S1.bd y = true
  keep : ∀ y ∈ st, S1.bd y = S.bd y
  is : (r = 0 ∧ (S1.up = true ∧ dn1 = false ∧ ∀ y, S1.bd y = true → S.bd y = true ∨ (S.wk y = true ∧ y ∉ st)) ∧ ∃ x, (x ∉ st ∧ GoodB G.b S1.bd x) ∧ K1 = updK K x (.copy j D nu) ∧ st1 = st.set j x ∧ nu1 = nu + 1) ∨
    (r = 6 ∧ (S1.up = true ∧ dn1 = false ∧ ∀ y, S1.bd y = true → S.bd y = true ∨ (S.wk y = true ∧ y ∉ st)) ∧ (K1 = K ∧ st1 = st ∧ nu1 = nu) ∧ ∀ y, 0 ≤ y → y < G.b → y ∉ st → S1.bd y = true) ∨
    (r = 70 ∧ (S1.up = false ∧ dn1 = true ∧ S.ah ≠ 0) ∧ (st1 = st ∧ nu ≤ nu1 ∧ nu1 ≤ nu + 1) ∧ ∃ x k, (x ∉ st ∧ 0 ≤ x ∧ x < G.b) ∧ K1 = updK K x k ∧ (k = K x ∨ k = .no ∨ k = .part j (D.length : Nat) nu ∨ (k = .copy j D nu ∧ GoodB G.b S1.bd x)))
section
variable {G : Geo} {S S0 S1 : CS} {K : Int → BK} {st : List Int} {nu nu1 r x : Int} {j : Nat} {D : List Int} {pre : List Int}
theorem Tried.refl (hup : S.up = true) : Tried S S st [] := ⟨hup, rfl, id, id, fun _ h => h, fun _ h => .inl h, fun _ h => absurd h (by simp)⟩
theorem Tried.next (t : Tried S S0 st pre) (hx : x ∉ st) (a : Apart S0 S1 x) (hu : S1.up = true) (hm : S1.bd x = true) (hw : S0.bd x = true ∨ S0.wk x = true) : Tried S S1 st (pre ++ [x]) := by
  refine ⟨hu, a.wk.trans t.wk, fun e => a.ah (t.ah e), fun e => a.cl (t.cl e), fun y hy => ?_, fun y hy => ?_, fun y hy => ?_⟩
  · by_cases e : y = x
    · rw [e]; exact hm
    · rw [a.bd y e]; exact t.mono y hy
  · by_cases e : y = x
    · subst e
      rcases hw with hw | hw
      · exact t.only y hw
      · exact .inr ⟨by rw [← t.wk]; exact hw, hx⟩
    · rw [a.bd y e] at hy; exact t.only y hy
  · rcases List.mem_append.1 hy with hy | hy
    · by_cases e : y = x
      · rw [e]; exact hm
      · rw [a.bd y e]; exact t.all y hy
    · rw [List.mem_singleton.1 hy]; exact hm
/-- A block failed: on. -/
theorem fillK_on (h : FillK G S0 K x j D nu r S1 nu1) (t : Tried S S0 st pre) (hx : x ∉ st) (hr : r = 72 ∨ r = 73) : CInv G S1 K ∧ Tried S S1 st (pre ++ [x]) ∧ nu1 = nu := by
  obtain ⟨k, ⟨hi, ap⟩, h⟩ := h
  rcases h with ⟨rfl, ⟨hb, rfl⟩, rfl, rfl⟩ | ⟨rfl, ⟨hw, hb, hu⟩, rfl, rfl⟩ | ⟨rfl, _⟩ | ⟨rfl, _⟩
  · rw [updK_self] at hi
    exact ⟨hi, t.next hx ap t.up hb (.inl hb), rfl⟩
  · rw [updK_self] at hi
    exact ⟨hi, t.next hx ap hu hb (.inr hw), rfl⟩
  · omega
  · omega
theorem fillK_code (h : FillK G S0 K x j D nu r S1 nu1) : r = 0 ∨ r = 70 ∨ (r = 72 ∨ r = 73) := by
  obtain ⟨k, _, h⟩ := h
  rcases h with ⟨rfl, _⟩ | ⟨rfl, _⟩ | ⟨rfl, _⟩ | ⟨rfl, _⟩
  · exact .inr (.inr (.inr rfl))
  · exact .inr (.inr (.inl rfl))
  · exact .inr (.inl rfl)
  · exact .inl rfl
theorem chg_ok (h : FillK G S0 K x j D nu 0 S1 nu1) (t : Tried S S0 st pre) (hx : x ∉ st) (hb : 0 ≤ x ∧ x < G.b) : ∃ K1, ChgRes G S K st nu j D 0 S1 K1 (st.set j x) nu1 false := by
  obtain ⟨k, ⟨hi, ap⟩, h⟩ := h
  rcases h with ⟨e, _⟩ | ⟨e, _⟩ | ⟨e, _⟩ | ⟨_, ⟨hu, hw, hbd, hbd1⟩, rfl, rfl⟩
  · cases e
  · cases e
  · cases e
  · have hbe : ∀ y, S1.bd y = S0.bd y := fun y => by
      by_cases e : y = x
      · rw [e, hbd, hbd1]
      · exact ap.bd y e
    refine ⟨_, hi, ap.wk.trans t.wk, fun e => ap.ah (t.ah e), fun e => ap.cl (t.cl e), fun y hy => by rw [hbe]; exact t.mono y hy, fun y hy => ?_, .inl ⟨rfl, ⟨hu, rfl, fun y hy => t.only y (by rw [← hbe]; exact hy)⟩, x, ⟨hx, hb, hbd1⟩, rfl, rfl, rfl⟩⟩
    rw [hbe]
    cases h0 : S0.bd y
    · cases h1 : S.bd y
      · rfl
      · rw [t.mono y h1] at h0; cases h0
    · rcases t.only y h0 with h1 | h1
      · exact h1.symm
      · exact absurd hy h1.2
theorem chg_down (h : FillK G S0 K x j D nu 70 S1 nu1) (t : Tried S S0 st pre) (hx : x ∉ st) (hb : 0 ≤ x ∧ x < G.b) : ∃ K1, ChgRes G S K st nu j D 70 S1 K1 st nu1 true := by
  obtain ⟨k, ⟨hi, ap⟩, h⟩ := h
  rcases h with ⟨e, _⟩ | ⟨e, _⟩ | ⟨_, ⟨hah, hu⟩, hk, hn1, hn2⟩ | ⟨e, _⟩
  · cases e
  · cases e
  · refine ⟨_, hi, ap.wk.trans t.wk, fun e => ap.ah (t.ah e), fun e => ap.cl (t.cl e), fun y hy => ?_, fun y hy => ?_, .inr (.inr ⟨rfl, ⟨hu, rfl, fun e => hah (t.ah e)⟩, ⟨rfl, hn1, hn2⟩, x, k, ⟨hx, hb.1, hb.2⟩, rfl, ?_⟩)⟩
    · by_cases e : y = x
      · rw [e]; exact ap.mark (t.mono x (e ▸ hy))
      · rw [ap.bd y e]; exact t.mono y hy
    · rw [ap.bd y (fun e => hx (e ▸ hy))]
      cases h0 : S0.bd y
      · cases h1 : S.bd y
        · rfl
        · rw [t.mono y h1] at h0; cases h0
      · rcases t.only y h0 with h1 | h1
        · exact h1.symm
        · exact absurd hy h1.2
    · rcases hk with hk | hk | hk | ⟨hk, _, hbd⟩
      · exact .inl hk
      · exact .inr (.inl hk)
      · exact .inr (.inr (.inl hk))
      · exact .inr (.inr (.inr ⟨hk, hb, hbd⟩))
  · cases e
theorem chg_full (hi : CInv G S1 K) (t : Tried S S1 st pre) (hall : ∀ y, 0 ≤ y → y < G.b → y ∉ st → y ∈ pre) : ChgRes G S K st nu j D 6 S1 K st nu false := by
  refine ⟨hi, t.wk, t.ah, t.cl, t.mono, fun y hy => ?_, .inr (.inl ⟨rfl, ⟨t.up, rfl, t.only⟩, ⟨rfl, rfl, rfl⟩, fun y h0 h1 h2 => t.all y (hall y h0 h1 h2)⟩)⟩
  cases h0 : S1.bd y
  · cases h1 : S.bd y
    · rfl
    · rw [t.mono y h1] at h0; cases h0
  · rcases t.only y h0 with h1 | h1
    · exact h1.symm
    · exact absurd hy h1.2
/-! ### What it makes of logical blocks -/
variable {b : Int} {bd bd' : Int → Bool} {M : Int → Option (List Int)}
theorem Best.marks {j' x' n : Int} {D' : List Int} (h : Best b bd K j' x' D' n) (hm : ∀ y, bd y = true → bd' y = true) (hx : bd' x' = bd x') : Best b bd' K j' x' D' n :=
  ⟨⟨h.good.1, by rw [hx]; exact h.good.2⟩, h.is, fun y D2 n2 hy hk hn => h.top y D2 n2 ⟨hy.1, by
    cases e : bd y
    · rfl
    · have := hy.2; rw [hm y e] at this; cases this⟩ hk hn⟩
theorem StOk.marks (h : StOk b bd K M st) (hm : ∀ y, bd y = true → bd' y = true) (hs : ∀ y ∈ st, bd' y = bd y) : StOk b bd' K M st := by
  intro i hi
  rcases h i hi with h1 | ⟨D', n, e, hb⟩
  · exact .inl h1
  · exact .inr ⟨D', n, e, hb.marks hm (hs _ (mem_getD st i hi))⟩
theorem Hold.marks (h : Hold b bd K M) (hst : StOk b bd K M st) (hM : ∀ i, (st.length : Int) ≤ i → M i = none) (hm : ∀ y, bd y = true → bd' y = true) (hs : ∀ y ∈ st, bd' y = bd y) : Hold b bd' K M := by
  intro i h0 h64
  rcases h i h0 h64 with ⟨e, hno⟩ | ⟨D', x', n, e, hb⟩
  · exact .inl ⟨e, fun y D2 n2 hy => hno y D2 n2 ⟨hy.1, by
      cases e : bd y
      · rfl
      · have := hy.2; rw [hm y e] at this; cases this⟩⟩
  · obtain ⟨i, rfl⟩ := Int.eq_ofNat_of_zero_le h0
    have hl : i < st.length := by
      rcases Nat.lt_or_ge i st.length with h | h
      · exact h
      · rw [hM i (by omega)] at e; cases e
    rcases hst i hl with ⟨hn, _⟩ | ⟨D2, n2, _, hb2⟩
    · rw [hn] at e; cases e
    · have hx : x' ∈ st := by rw [(hb.one hb2).1]; exact mem_getD st i hl
      exact .inr ⟨D', x', n, e, hb.marks hm (hs x' hx)⟩
theorem NumOk.marks (h : NumOk b bd K nu) (hm : ∀ y, bd y = true → bd' y = true) : NumOk b bd' K nu :=
  ⟨h.1, fun y hy => h.2 y ⟨hy.1, by
    cases e : bd y
    · rfl
    · have := hy.2; rw [hm y e] at this; cases this⟩⟩
end
end Go.Proofs.YtbafkakhhelcmaaGreat
