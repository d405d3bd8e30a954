/-
  Layer 11, plain: what a block holds (BK); what the blocks hold of logical blocks (Hold), which stand (StOk); what becomes of it when a block is marked, emptied, written.
-/
import Derived.Test.YtbafkakhhelcmaaGreatAttScan
import Derived.Test.YtbafkakhhelcmaaGreatAttStale
namespace Go.Proofs.YtbafkakhhelcmaaGreat
open Go.RowKit Go.Maps
set_option linter.unusedVariables false
set_option maxRecDepth 8192

/-- What a block holds: nothing that is found; a head whose pages are not all there; a logical block's bytes, whole. -/
inductive BK where
  | no
  | part (j b n : Int)
  | copy (j : Int) (D : List Int) (n : Int)
def BK.num : BK → Int
  | .no => 0
  | .part _ _ n => n
  | .copy _ _ n => n
def foundOf (x : Int) : BK → Option Fnd
  | .no => none
  | .part j b n => some ⟨x, j, b, n, false⟩
  | .copy j D n => some ⟨x, j, (D.length : Nat), n, true⟩
/-- A block that counts. -/
def GoodB (b : Int) (bd : Int → Bool) (x : Int) : Prop := (0 ≤ x ∧ x < b) ∧ bd x = false
/-- x holds the newest bytes of j. -/
structure Best (b : Int) (bd : Int → Bool) (K : Int → BK) (j x : Int) (D : List Int) (n : Int) : Prop where
  good : GoodB b bd x
  is : K x = .copy j D n
  top : ∀ y D' n', GoodB b bd y → K y = .copy j D' n' → y ≠ x → n' < n
/-- Of each logical block the newest bytes. -/
def Hold (b : Int) (bd : Int → Bool) (K : Int → BK) (M : Int → Option (List Int)) : Prop :=
  ∀ j, 0 ≤ j → j < 64 → (M j = none ∧ ∀ y D n, GoodB b bd y → K y ≠ .copy j D n) ∨ ∃ D x n, M j = some D ∧ Best b bd K j x D n
/-- A number above all that are found. -/
def NumOk (b : Int) (bd : Int → Bool) (K : Int → BK) (nu : Int) : Prop := 1 ≤ nu ∧ ∀ y, GoodB b bd y → (K y).num < nu
def NumLe (b : Int) (K : Int → BK) (c : Int) : Prop := ∀ y, 0 ≤ y → y < b → (K y).num ≤ c
/-- Which block stands for which logical block. -/
def StOk (b : Int) (bd : Int → Bool) (K : Int → BK) (M : Int → Option (List Int)) (st : List Int) : Prop :=
  ∀ j : Nat, j < st.length → (M j = none ∧ st[j]?.getD 0 = -1) ∨ ∃ D n, M j = some D ∧ Best b bd K j (st[j]?.getD 0) D n
def updK (K : Int → BK) (x : Int) (k : BK) : Int → BK := fun y => if y = x then k else K y
def updM (M : Int → Option (List Int)) (j : Int) (o : Option (List Int)) : Int → Option (List Int) := fun i => if i = j then o else M i
theorem updK_self (K : Int → BK) (x : Int) : updK K x (K x) = K := by
  funext y; unfold updK; split
  · rename_i h; rw [h]
  · rfl
theorem updK_at (K : Int → BK) (x : Int) (k : BK) : updK K x k x = k := by unfold updK; rw [if_pos rfl]
theorem updK_ne {K : Int → BK} {x y : Int} (k : BK) (h : y ≠ x) : updK K x k y = K y := by unfold updK; rw [if_neg h]
theorem updM_at (M : Int → Option (List Int)) (j : Int) (o : Option (List Int)) : updM M j o j = o := by unfold updM; rw [if_pos rfl]
theorem updM_ne {M : Int → Option (List Int)} {i j : Int} (o : Option (List Int)) (h : i ≠ j) : updM M j o i = M i := by unfold updM; rw [if_neg h]

section
variable {b : Int} {bd bd' : Int → Bool} {K K' : Int → BK} {M : Int → Option (List Int)} {st : List Int} {x : Int}
theorem Best.one {j x' : Int} {D D' : List Int} {n n' : Int} (h : Best b bd K j x D n) (h' : Best b bd K j x' D' n') : x = x' ∧ D = D' ∧ n = n' := by
  by_cases e : x = x'
  · subst e
    have h1 := h.is.symm.trans h'.is
    simp only [BK.copy.injEq, true_and] at h1
    exact ⟨rfl, h1.1, h1.2⟩
  · have h1 := h.top x' D' n' h'.good h'.is (Ne.symm e)
    have h2 := h'.top x D n h.good h.is e
    omega
/-- What turns at x alone, and makes no new bytes there. -/
structure Turn (bd : Int → Bool) (K : Int → BK) (bd' : Int → Bool) (K' : Int → BK) (x : Int) : Prop where
  bds : ∀ y, y ≠ x → bd' y = bd y
  ks : ∀ y, y ≠ x → K' y = K y
  mark : bd' x = false → bd x = false
  less : bd' x = false → K' x = K x ∨ ∀ j D n, K' x ≠ .copy j D n
theorem Turn.good (t : Turn bd K bd' K' x) {y : Int} (h : GoodB b bd' y) : GoodB b bd y := by
  refine ⟨h.1, ?_⟩
  by_cases e : y = x
  · subst e; exact t.mark h.2
  · rw [← t.bds y e]; exact h.2
theorem Turn.copy (t : Turn bd K bd' K' x) {y j : Int} {D : List Int} {n : Int} (h : GoodB b bd' y) (hk : K' y = .copy j D n) : K y = .copy j D n := by
  by_cases e : y = x
  · subst e
    rcases t.less h.2 with h1 | h1
    · rw [← h1]; exact hk
    · exact absurd hk (h1 j D n)
  · rw [← t.ks y e]; exact hk
theorem Best.turn {j x' : Int} {D : List Int} {n : Int} (h : Best b bd K j x' D n) (t : Turn bd K bd' K' x) (hne : x' ≠ x) : Best b bd' K' j x' D n :=
  ⟨⟨h.good.1, by rw [t.bds x' hne]; exact h.good.2⟩, by rw [t.ks x' hne]; exact h.is, fun y D' n' hy hk hn => h.top y D' n' (t.good hy) (t.copy hy hk) hn⟩
/-- x holds the newest bytes of no logical block. -/
def NotBest (b : Int) (bd : Int → Bool) (K : Int → BK) (x : Int) : Prop := ∀ j D n, 0 ≤ j → j < 64 → ¬ Best b bd K j x D n
theorem notBest_of (h : Hold b bd K M) (hs : StOk b bd K M st) (hM : ∀ j, (st.length : Int) ≤ j → M j = none) (hx : x ∉ st) : NotBest b bd K x := by
  intro j D n h0 h64 hb
  rcases h j h0 h64 with ⟨_, hno⟩ | ⟨D', x', n', hm, hb'⟩
  · exact hno x D n hb.good hb.is
  · obtain ⟨i, rfl⟩ := Int.eq_ofNat_of_zero_le h0
    have hl : i < st.length := by
      rcases Nat.lt_or_ge i st.length with h | h
      · exact h
      · rw [hM i (by omega)] at hm; cases hm
    rcases hs i hl with ⟨hn, _⟩ | ⟨D2, n2, _, hb2⟩
    · rw [hn] at hm; cases hm
    · have := (hb.one hb2).1
      exact hx (this ▸ mem_getD st i hl)
theorem Hold.turn (h : Hold b bd K M) (hn : NotBest b bd K x) (t : Turn bd K bd' K' x) : Hold b bd' K' M := by
  intro j h0 h64
  rcases h j h0 h64 with ⟨hm, hno⟩ | ⟨D, x', n, hm, hb⟩
  · exact .inl ⟨hm, fun y D n hy hk => hno y D n (t.good hy) (t.copy hy hk)⟩
  · exact .inr ⟨D, x', n, hm, hb.turn t (fun e => hn j D n h0 h64 (e ▸ hb))⟩
theorem StOk.turn (h : StOk b bd K M st) (hx : x ∉ st) (t : Turn bd K bd' K' x) : StOk b bd' K' M st := by
  intro j hj
  rcases h j hj with h1 | ⟨D, n, hm, hb⟩
  · exact .inl h1
  · exact .inr ⟨D, n, hm, hb.turn t (fun e => hx (e ▸ mem_getD st j hj))⟩
theorem NumOk.turn {nu nu' : Int} (h : NumOk b bd K nu) (t : Turn bd K bd' K' x) (hnu : nu ≤ nu') (hx : (K' x).num < nu') : NumOk b bd' K' nu' := by
  refine ⟨by have := h.1; omega, fun y hy => ?_⟩
  by_cases e : y = x
  · rw [e]; exact hx
  · rw [t.ks y e]; have := h.2 y (t.good hy); omega
theorem NumLe.upd {c c' : Int} {k : BK} (h : NumLe b K c) (hc : c ≤ c') (hk : k.num ≤ c') : NumLe b (updK K x k) c' := by
  intro y h0 h1
  by_cases e : y = x
  · rw [e, updK_at]; exact hk
  · rw [updK_ne k e]; have := h y h0 h1; omega
/-- Bytes of j are written to x, whole. -/
theorem Best.put {j : Int} {D : List Int} {nu n : Int} (hnu : NumOk b bd K nu) (hn : nu ≤ n) (hx : GoodB b bd x) : Best b bd (updK K x (.copy j D n)) j x D n := by
  refine ⟨hx, updK_at _ _ _, fun y D' n' hy hk hne => ?_⟩
  rw [updK_ne _ hne] at hk
  have := hnu.2 y hy
  rw [hk] at this
  simp only [BK.num] at this
  omega
theorem Best.put_other {i j x' : Int} {D D' : List Int} {n n' : Int} (h : Best b bd K i x' D' n') (hij : i ≠ j) (hne : x' ≠ x) : Best b bd (updK K x (.copy j D n)) i x' D' n' := by
  refine ⟨h.good, by rw [updK_ne _ hne]; exact h.is, fun y D2 n2 hy hk hy2 => ?_⟩
  by_cases e : y = x
  · subst e
    rw [updK_at] at hk
    simp only [BK.copy.injEq] at hk
    exact absurd hk.1.symm hij
  · rw [updK_ne _ e] at hk
    exact h.top y D2 n2 hy hk hy2
theorem Hold.put {j : Int} {D : List Int} {nu n : Int} (h : Hold b bd K M) (hnu : NumOk b bd K nu) (hn : nu ≤ n) (hx : GoodB b bd x) (hnb : NotBest b bd K x) : Hold b bd (updK K x (.copy j D n)) (updM M j (some D)) := by
  intro i h0 h64
  by_cases e : i = j
  · subst e
    exact .inr ⟨D, x, n, updM_at _ _ _, Best.put hnu hn hx⟩
  · rw [updM_ne _ e]
    rcases h i h0 h64 with ⟨hm, hno⟩ | ⟨D', x', n', hm, hb⟩
    · refine .inl ⟨hm, fun y D' n' hy hk => ?_⟩
      by_cases ey : y = x
      · subst ey
        rw [updK_at] at hk
        simp only [BK.copy.injEq] at hk
        exact e hk.1.symm
      · rw [updK_ne _ ey] at hk
        exact hno y D' n' hy hk
    · exact .inr ⟨D', x', n', hm, hb.put_other e (fun e' => hnb i D' n' h0 h64 (e' ▸ hb))⟩
theorem StOk.put {j : Nat} {D : List Int} {nu n : Int} (h : StOk b bd K M st) (hnu : NumOk b bd K nu) (hn : nu ≤ n) (hx : GoodB b bd x) (hxs : x ∉ st) (hj : j < st.length) : StOk b bd (updK K x (.copy j D n)) (updM M j (some D)) (st.set j x) := by
  intro i hi
  rw [List.length_set] at hi
  by_cases e : i = j
  · subst e
    refine .inr ⟨D, n, updM_at _ _ _, ?_⟩
    rw [List.getElem?_set_self hi]
    exact Best.put hnu hn hx
  · have e' : (i : Int) ≠ (j : Int) := by omega
    rw [updM_ne _ e', List.getElem?_set_ne (Ne.symm e)]
    rcases h i hi with h1 | ⟨D', n', hm, hb⟩
    · exact .inl h1
    · exact .inr ⟨D', n', hm, hb.put_other e' (fun e2 => hxs (e2 ▸ mem_getD st i hi))⟩
theorem NumOk.put {j : Int} {D : List Int} {nu n nu' : Int} (h : NumOk b bd K nu) (hn : n < nu') (hnu : nu ≤ nu') : NumOk b bd (updK K x (.copy j D n)) nu' := by
  refine ⟨by have := h.1; omega, fun y hy => ?_⟩
  by_cases e : y = x
  · subst e; rw [updK_at]; exact hn
  · rw [updK_ne _ e]; have := h.2 y hy; omega
/-- The last block that holds bytes of j is gone. -/
theorem Hold.del {j : Int} (h : Hold b bd K M) (t : Turn bd K bd' K' x) {D : List Int} {n : Int} (hx : K x = .copy j D n) (hno : ∀ y D n, GoodB b bd' y → K' y ≠ .copy j D n) : Hold b bd' K' (updM M j none) := by
  intro i h0 h64
  by_cases e : i = j
  · subst e
    exact .inl ⟨updM_at _ _ _, hno⟩
  · rw [updM_ne _ e]
    rcases h i h0 h64 with ⟨hm, hno'⟩ | ⟨D', x', n', hm, hb⟩
    · exact .inl ⟨hm, fun y D n hy hk => hno' y D n (t.good hy) (t.copy hy hk)⟩
    · refine .inr ⟨D', x', n', hm, hb.turn t (fun e' => ?_)⟩
      subst e'
      have := hx.symm.trans hb.is
      simp only [BK.copy.injEq] at this
      exact e this.1.symm
theorem StOk.del {j : Nat} (h : StOk b bd K M st) (t : Turn bd K bd' K' x) {D : List Int} {n : Int} (hx : K x = .copy j D n) (hj : j < st.length) : StOk b bd' K' (updM M j none) (st.set j (-1)) := by
  intro i hi
  rw [List.length_set] at hi
  by_cases e : i = j
  · subst e
    refine .inl ⟨updM_at _ _ _, ?_⟩
    rw [List.getElem?_set_self hi]
    rfl
  · have e' : (i : Int) ≠ (j : Int) := by omega
    rw [updM_ne _ e', List.getElem?_set_ne (Ne.symm e)]
    rcases h i hi with h1 | ⟨D', n', hm, hb⟩
    · exact .inl h1
    · refine .inr ⟨D', n', hm, hb.turn t (fun e2 => ?_)⟩
      rw [e2] at hb
      have := hx.symm.trans hb.is
      simp only [BK.copy.injEq] at this
      exact e' this.1.symm
/-- Opened with others of it: M alone says what stands. -/
theorem Hold.same {M' : Int → Option (List Int)} (h : Hold b bd K M) (e : ∀ j, 0 ≤ j → j < 64 → M j = M' j) : Hold b bd K M' := by
  intro j h0 h1
  rw [← e j h0 h1]
  exact h j h0 h1
end

/-! ### What a page, what a block is -/
/-- Few enough bits of a page are read wrongly. -/
def FewW (G : Geo) (wr : Int → Bool) : Prop :=
  (∀ p ∈ wrList G.L wr, 0 ≤ p ∧ p < 8 * ((G.s * G.W : Nat) : Int)) ∧ ∀ j, j < G.s → cntTo (8 * G.W) (8 * G.n + 13 * G.f) (wrList G.L wr) j ≤ G.f
theorem fewW_none (G : Geo) : FewW G (fun _ => false) := by
  have e : wrList G.L (fun _ => false) = [] := by
    unfold wrList
    rw [List.filter_eq_nil_iff.2 (fun _ _ => by simp)]
    rfl
  unfold FewW
  rw [e]
  exact ⟨fun p hp => absurd hp (by simp), fun j _ => Nat.zero_le _⟩
/-- Bits of the first sector, at most as many as may be. -/
theorem fewW_flip (G : Geo) {ps : List Int} (hl : ps.length ≤ G.f) (hp : ∀ p ∈ ps, 0 ≤ p ∧ p < ((8 * G.n + 13 * G.f : Nat) : Int)) : FewW G (flipW G.L ps ps.length) := by
  have g := G.ok
  have hsub : ∀ x ∈ wrList G.L (flipW G.L ps ps.length), x ∈ ps := by
    intro x hx
    have h2 := ((mem_wrList G.L _ x).1 hx).2
    unfold flipW at h2
    have h3 := (of_decide_eq_true h2).1
    rwa [List.take_length] at h3
  refine ⟨fun p hpw => ?_, fun j _ => ?_⟩
  · have h1 := hp p (hsub p hpw)
    have hm := g.hm
    have hW := g.hW
    have h2 : 1 * G.W ≤ G.s * G.W := Nat.mul_le_mul_right _ g.hs.1
    omega
  · refine Nat.le_trans (cnt_le _ _ _ _) (Nat.le_trans ?_ hl)
    exact nodup_len (nodup_wrList _ _) hsub
/-- The page y of x: bytes that may be read, or none. -/
def PIs (G : Geo) (z : List Int) (wr : Int → Bool) : Option (List Int) → Prop
  | none => z[G.L - 1]?.getD 0 ≠ 0 ∧ FewW G wr
  | some l => (IsB l ∧ l.length = G.R ∧ IsPack G.s G.n G.f G.m G.W l z) ∧ FewW G wr
theorem PIs.few {G : Geo} {z : List Int} {wr : Int → Bool} : ∀ {o : Option (List Int)}, PIs G z wr o → FewW G wr
  | none, h => h.2
  | some _, h => h.2
theorem PIs.flip {G : Geo} {z : List Int} {wr wr' : Int → Bool} (hw : FewW G wr') : ∀ {o : Option (List Int)}, PIs G z wr o → PIs G z wr' o
  | none, h => ⟨h.1, hw⟩
  | some _, h => ⟨h.1, hw⟩
theorem PIs.mark {G : Geo} {z : List Int} {wr : Int → Bool} : ∀ {o : Option (List Int)}, PIs G z wr o → ((readZ G.L z wr)[G.L - 1]?.getD 0 = 0 ↔ o.isSome = true)
  | none, h => by
    unfold readZ
    rw [flip_mark (s := G.s) (W := G.W) G.ok.hL h.2.1]
    simp [h.1]
  | some l, h => by
    unfold readZ
    rw [flip_mark (s := G.s) (W := G.W) G.ok.hL h.2.1, show G.L - 1 = G.s * G.W by have := G.ok.hL; omega, h.1.2.2.mark]
    simp
theorem PIs.read {G : Geo} {z l X : List Int} {wr : Int → Bool} {k : Nat} {er : Int} (h : PIs G z wr (some l)) (hr : IsRead G (readZ G.L z wr) X k er) : X = l ∧ er = 0 ∧ (wr = (fun _ => false) → k = 0) := by
  obtain ⟨⟨h1, h2, h3⟩, h4, h5⟩ := h
  refine ⟨(isRead_flips h3 h1 h2 (nodup_wrList _ _) h4 h5 hr).1, (isRead_flips h3 h1 h2 (nodup_wrList _ _) h4 h5 hr).2.2, fun e => ?_⟩
  subst e
  rw [readZ_none] at hr
  exact (isRead_clean h3 h1 h2 hr).2.1
theorem PIs.unread {G : Geo} {z X : List Int} {wr : Int → Bool} {k : Nat} {er : Int} (h : PIs G z wr none) (hr : IsRead G (readZ G.L z wr) X k er) : er ≠ 0 := by
  have h1 : ¬ (readZ G.L z wr)[G.L - 1]?.getD 0 = 0 := fun e => by have := h.mark.1 e; simp at this
  rcases hr with ⟨_, _, _, h3⟩ | ⟨h0, _⟩
  · rw [h3]; split <;> omega
  · exact absurd h0 h1
/-- The i-th piece of bytes, 00 behind it. -/
def chunkZ (R : Nat) (D : List Int) (i : Nat) : List Int := (D.drop (i * R)).take R ++ List.replicate (R - ((D.drop (i * R)).take R).length) 0
theorem chunkZ_len (R : Nat) (D : List Int) (i : Nat) : (chunkZ R D i).length = R := by
  unfold chunkZ
  have : ((D.drop (i * R)).take R).length ≤ R := List.length_take_le _ _
  rw [List.length_append, List.length_replicate]
  omega
theorem chunkZ_isB {R : Nat} {D : List Int} (h : IsB D) (i : Nat) : IsB (chunkZ R D i) := by
  intro v hv
  unfold chunkZ at hv
  rcases List.mem_append.1 hv with hv | hv
  · exact h v (List.mem_of_mem_drop (List.mem_of_mem_take hv))
  · rw [(List.mem_replicate.1 hv).2]; decide
/-- The first i pieces, one behind the other. -/
def joinZ (R : Nat) (D : List Int) : Nat → List Int
  | 0 => []
  | i + 1 => joinZ R D i ++ chunkZ R D i
theorem joinZ_len (R : Nat) (D : List Int) (i : Nat) : (joinZ R D i).length = i * R := by
  induction i with
  | zero => simp [joinZ]
  | succ i ih => simp only [joinZ, List.length_append, ih, chunkZ_len, Nat.add_mul]; omega
theorem joinZ_take (R : Nat) (D : List Int) : ∀ i, (joinZ R D i).take D.length = D.take (i * R)
  | 0 => by simp [joinZ]
  | i + 1 => by
    have ih := joinZ_take R D i
    simp only [joinZ]
    rcases Nat.lt_or_ge (i * R) D.length with h | h
    · rw [List.take_append, List.take_of_length_le (by rw [joinZ_len]; omega), joinZ_len]
      rw [List.take_of_length_le (by rw [joinZ_len]; omega)] at ih
      rw [ih, Nat.add_mul, Nat.one_mul, List.take_add]
      congr 1
      unfold chunkZ
      rw [List.take_append]
      rcases Nat.lt_or_ge (D.length - i * R) R with h1 | h1
      · have e : ((D.drop (i * R)).take R).length = D.length - i * R := by rw [List.length_take, List.length_drop]; omega
        rw [e, Nat.sub_self, List.take_zero, List.append_nil, List.take_of_length_le (by rw [e]; exact Nat.le_refl _)]
      · have e : ((D.drop (i * R)).take R).length = R := by rw [List.length_take, List.length_drop]; omega
        rw [e, Nat.sub_self, List.replicate_zero, List.take_nil, List.append_nil, List.take_of_length_le (by rw [e]; omega)]
    · rw [List.take_append_of_le_length (by rw [joinZ_len]; exact h), ih, List.take_of_length_le h, List.take_of_length_le (by rw [Nat.add_mul]; omega)]
theorem joinZ_all {R : Nat} (hR : 0 < R) (D : List Int) : (joinZ R D (pagesOf R D.length)).take D.length = D := by
  rw [joinZ_take, List.take_of_length_le (pagesOf_room hR)]

/-- What the block x of a chip holds. -/
def BIs (G : Geo) (pg : Int → List Int) (wr : Int → Int → Bool) : BK → Prop
  | .no => PIs G (pg 0) (wr 0) none
  | .part j b n => (mayH G.C j b n = true ∧ PIs G (pg 0) (wr 0) (some (pageOf G.R j b n))) ∧ ∃ i : Nat, i < pagesOf G.R b.toNat ∧ PIs G (pg (1 + i : Nat)) (wr (1 + i : Nat)) none
  | .copy j D n => (mayH G.C j (D.length : Nat) n = true ∧ IsB D ∧ PIs G (pg 0) (wr 0) (some (pageOf G.R j (D.length : Nat) n))) ∧ ∀ i : Nat, i < pagesOf G.R D.length → PIs G (pg (1 + i : Nat)) (wr (1 + i : Nat)) (some (chunkZ G.R D i))
theorem BIs.flip {G : Geo} {pg : Int → List Int} {wr wr' : Int → Int → Bool} (hw : ∀ p, FewW G (wr p) → FewW G (wr' p)) : ∀ {k : BK}, BIs G pg wr k → BIs G pg wr' k
  | .no, h => PIs.flip (o := none) (hw _ (PIs.few (o := none) h)) h
  | .part _ _ _, ⟨⟨h1, h2⟩, i, hi, h3⟩ => ⟨⟨h1, h2.flip (hw _ h2.few)⟩, i, hi, h3.flip (hw _ h3.few)⟩
  | .copy _ _ _, ⟨⟨h1, h2, h3⟩, h4⟩ => ⟨⟨h1, h2, h3.flip (hw _ h3.few)⟩, fun i hi => (h4 i hi).flip (hw _ (h4 i hi).few)⟩
/-- What all blocks hold. -/
def CInv (G : Geo) (S : CS) (K : Int → BK) : Prop := ∀ x, 0 ≤ x → x < G.b → BIs G (S.pg x) (S.wr x) (K x)
theorem geoC_lt (G : Geo) : (G.C : Int) < 4294967296 := G.gmay.C32
theorem may_pages {G : Geo} {n : Nat} (h : n ≤ G.C) : 1 + pagesOf G.R n ≤ G.p.toNat := by
  have h1 := pagesOf_mono (R := G.R) h
  have h2 : pagesOf G.R G.C = (G.p - 1).toNat := pagesOf_mul (by have := G.ok.hR1; omega)
  have := G.ok.hp
  omega
theorem markTo_yes {G : Geo} {S : CS} {x : Int} : ∀ {n : Nat}, (∀ k, k < n → (S.raw G x (k : Int))[G.L - 1]?.getD 0 = 0) → S.markTo G x n = true := by
  intro n
  induction n with
  | zero => intro _; rfl
  | succ n ih =>
    intro h
    unfold CS.markTo
    rw [ih (fun k hk => h k (by omega)), h n (by omega)]
    rfl
/-- What looking at a block tells. -/
theorem look_is {G : Geo} {S : CS} {x : Int} {k : BK} (hx : 0 ≤ x ∧ x < G.b) (hup : S.up = true) (hbd : S.bd x = false) (h : BIs G (S.pg x) (S.wr x) k) {o : Option Fnd} (hl : LookIs G S x o) : o = foundOf x k := by
  obtain ⟨X, kk, er, hr, hc⟩ := hl
  have hCl := geoC_lt G
  have hwh : ∀ n : Nat, n ≤ G.C → S.wholeD G x (1 + (pagesOf G.R n : Nat)) = (S.markTo G x (1 + pagesOf G.R n), 0) := by
    intro n hn
    have h1 := may_pages hn
    have hp := G.ok.hp
    have hr : S.rdy G x (within0 (1 + (pagesOf G.R n : Nat)) G.p) = 0 := rdy_of hup (inB0_of hx) (by unfold within0; rw [decide_eq_true_iff]; omega)
    unfold CS.wholeD
    rw [if_neg (by rw [hr]; simp), hbd, show (1 + ((pagesOf G.R n : Nat) : Int)).toNat = 1 + pagesOf G.R n by omega]
    rfl
  cases k with
  | no =>
    have := PIs.unread (show PIs G (S.pg x 0) (S.wr x 0) none from h) hr
    rcases hc with ⟨rfl, _⟩ | ⟨rfl, _⟩
    · rfl
    · exact absurd rfl this
  | part j b n =>
    obtain ⟨⟨hm, h0⟩, i, hi, hn⟩ := h
    obtain ⟨rfl, rfl, _⟩ := h0.read hr
    obtain ⟨e0, e1, e2, e3⟩ := readH_page (R := G.R) hCl hm
    have hmy := mayH_yes hm
    rcases hc with ⟨rfl, h1 | h1⟩ | ⟨_, _, rfl⟩
    · exact absurd rfl h1
    · rw [e3] at h1; cases h1
    · rw [e0, e1, e2, hwh b.toNat (by omega)]
      have hmk : S.markTo G x (1 + pagesOf G.R b.toNat) = false := markTo_no (k := 1 + i) (by omega) (fun e => by
        have := hn.mark.1 e
        simp at this)
      rw [hmk]
      rfl
  | copy j D n =>
    obtain ⟨⟨hm, hB, h0⟩, hn⟩ := h
    obtain ⟨rfl, rfl, _⟩ := h0.read hr
    obtain ⟨e0, e1, e2, e3⟩ := readH_page (R := G.R) hCl hm
    have hmy := mayH_yes hm
    rcases hc with ⟨rfl, h1 | h1⟩ | ⟨_, _, rfl⟩
    · exact absurd rfl h1
    · rw [e3] at h1; cases h1
    · rw [e0, e1, e2, show ((D.length : Nat) : Int).toNat = D.length by omega, hwh D.length (by omega)]
      have hmk : S.markTo G x (1 + pagesOf G.R D.length) = true := markTo_yes (fun k hk => by
        rcases Nat.eq_zero_or_pos k with rfl | hk0
        · exact h0.mark.2 rfl
        · obtain ⟨i, rfl⟩ : ∃ i, k = 1 + i := ⟨k - 1, by omega⟩
          exact (hn i (by omega)).mark.2 rfl)
      rw [hmk]
      rfl
/-- What is found. -/
def fndL (G : Geo) (S : CS) (K : Int → BK) : List Fnd := (S.goodTo G.b.toNat).filterMap fun x => foundOf x (K x)
theorem fndL_mem {G : Geo} {S : CS} {K : Int → BK} (hup : S.up = true) {f : Fnd} : f ∈ fndL G S K ↔ ∃ x, GoodB G.b S.bd x ∧ foundOf x (K x) = some f := by
  unfold fndL
  rw [List.mem_filterMap]
  constructor
  · rintro ⟨x, hx, h⟩
    obtain ⟨i, rfl, h1, _, h3⟩ := goodTo_mem hx
    exact ⟨i, ⟨⟨by omega, by omega⟩, h3⟩, h⟩
  · rintro ⟨x, ⟨⟨h0, h1⟩, h2⟩, h⟩
    refine ⟨x, ?_, h⟩
    obtain ⟨i, rfl⟩ := Int.eq_ofNat_of_zero_le h0
    unfold CS.goodTo
    rw [List.mem_map]
    exact ⟨i, by rw [List.mem_filter, List.mem_range, hup, h2]; exact ⟨by omega, rfl⟩, rfl⟩
theorem foundOf_block {x : Int} {k : BK} {f : Fnd} (h : foundOf x k = some f) : f.block = x ∧ f.number = k.num := by
  cases k <;> simp [foundOf] at h <;> subst h <;> exact ⟨rfl, rfl⟩
theorem foundOf_whole {x : Int} {k : BK} {f : Fnd} (h : foundOf x k = some f) (hw : f.whole = true) : ∃ D, k = .copy f.leb D f.number := by
  cases k with
  | no => simp [foundOf] at h
  | part => simp [foundOf] at h; subst h; simp at hw
  | copy j D n => simp [foundOf] at h; subst h; exact ⟨D, rfl⟩
theorem num_ge {G : Geo} {S : CS} {K : Int → BK} (h : CInv G S K) {x : Int} (h0 : 0 ≤ x) (h1 : x < G.b) : 0 ≤ (K x).num ∧ (K x).num ≤ 1000000000 ∧ ((K x).num = 0 → K x = .no) := by
  have := h x h0 h1
  cases hk : K x with
  | no => exact ⟨by simp [BK.num], by simp [BK.num], fun _ => rfl⟩
  | part j b n =>
    rw [hk] at this
    have := mayH_yes this.1.1
    simp only [BK.num]
    exact ⟨by omega, by omega, fun e => by omega⟩
  | copy j D n =>
    rw [hk] at this
    have := mayH_yes this.1.1
    simp only [BK.num]
    exact ⟨by omega, by omega, fun e => by omega⟩
theorem fndL_len (G : Geo) (S : CS) (K : Int → BK) : (fndL G S K).length ≤ 256 := by
  have h1 := List.length_filterMap_le (fun x => foundOf x (K x)) (S.goodTo G.b.toNat)
  have h2 := goodTo_len (S := S) G.b.toNat
  have := G.ok.hb
  unfold fndL
  omega
/-- What is picked stands. -/
theorem pick_ok {G : Geo} {S : CS} {K : Int → BK} {M : Int → Option (List Int)} {L : Nat} (h : Hold G.b S.bd K M) (hup : S.up = true) (hL : L ≤ 64) : StOk G.b S.bd K M (pickL L (fndL G S K)) := by
  intro j hj
  rw [pickL_length] at hj
  have e : (pickL L (fndL G S K))[j]?.getD 0 = standsL (ofLeb (j : Nat) (fndL G S K)) := by simp [pickL, hj]
  rw [e]
  have hst := standsL_is _ (j : Nat) (ofLeb_leb (j : Nat) (fndL G S K))
  have hin : ∀ f ∈ ofLeb (j : Nat) (fndL G S K), ∃ D, GoodB G.b S.bd f.block ∧ K f.block = .copy (j : Nat) D f.number := by
    intro f hf
    have hlb := ofLeb_leb _ _ f hf
    simp only [ofLeb, List.mem_filter, isOf, Bool.and_eq_true] at hf
    obtain ⟨x, hx, hfo⟩ := (fndL_mem hup).1 hf.1
    obtain ⟨D, hD⟩ := foundOf_whole hfo hf.2.1
    rw [(foundOf_block hfo).1]
    exact ⟨D, hx, by rw [hD, hlb]⟩
  rcases h j (by omega) (by omega) with ⟨hm, hno⟩ | ⟨D, x, n, hm, hb⟩
  · refine .inl ⟨hm, ?_⟩
    rcases hst with ⟨_, hv⟩ | ⟨m, hmm, _⟩
    · exact hv
    · obtain ⟨D, h1, h2⟩ := hin m hmm
      exact absurd h2 (hno _ D _ h1)
  · refine .inr ⟨D, n, hm, ?_⟩
    have hxm : (⟨x, (j : Nat), (D.length : Nat), n, true⟩ : Fnd) ∈ ofLeb (j : Nat) (fndL G S K) := by
      simp only [ofLeb, List.mem_filter, isOf]
      refine ⟨(fndL_mem hup).2 ⟨x, hb.good, by rw [hb.is]; rfl⟩, by simp⟩
    rcases hst with ⟨he, _⟩ | ⟨m, hmm, hv, hbest⟩
    · rw [he] at hxm; simp at hxm
    · obtain ⟨D', h1, h2⟩ := hin m hmm
      have hov := hbest _ hxm
      by_cases ex : m.block = x
      · rw [hv, ex]; exact hb
      · have := hb.top m.block D' m.number h1 h2 ex
        exact absurd (.inl this) hov
theorem nextS_ok {G : Geo} {S : CS} {K : Int → BK} (h : CInv G S K) (hup : S.up = true) : NumOk G.b S.bd K (nextL (fndL G S K)) := by
  have hge : ∀ f ∈ fndL G S K, 1 ≤ f.number := by
    intro f hf
    obtain ⟨x, hx, hfo⟩ := (fndL_mem hup).1 hf
    have h1 := num_ge h hx.1.1 hx.1.2
    have h2 := foundOf_block hfo
    rw [h2.2]
    rcases Int.lt_or_le (K x).num 1 with h3 | h3
    · rw [h1.2.2 (by omega)] at hfo; simp [foundOf] at hfo
    · exact h3
  have h1 : 1 ≤ nextL (fndL G S K) := by
    unfold nextL
    split
    · exact Int.le_refl _
    · rename_i hne
      have hl : 0 < (fndL G S K).length := by cases hq : fndL G S K with
        | nil => exact absurd hq hne
        | cons => simp
      obtain ⟨f, hf, e⟩ := mostNum_mem _ (fndL G S K).length (Nat.le_refl _) hl
      have := hge f hf
      omega
  refine ⟨h1, fun y hy => ?_⟩
  cases hk : K y with
  | no => simp only [BK.num]; omega
  | part j b n =>
    have hm : (⟨y, j, b, n, false⟩ : Fnd) ∈ fndL G S K := (fndL_mem hup).2 ⟨y, hy, by rw [hk]; rfl⟩
    obtain ⟨i, hi, e⟩ := List.mem_iff_getElem.1 hm
    have := mostNum_ge (fndL G S K) (fndL G S K).length i hi
    rw [List.getElem?_eq_getElem hi, e] at this
    simp only [Option.getD_some] at this
    unfold nextL
    rw [if_neg (by intro e2; rw [e2] at hm; simp at hm)]
    simp only [BK.num]
    omega
  | copy j D n =>
    have hm : (⟨y, j, (D.length : Nat), n, true⟩ : Fnd) ∈ fndL G S K := (fndL_mem hup).2 ⟨y, hy, by rw [hk]; rfl⟩
    obtain ⟨i, hi, e⟩ := List.mem_iff_getElem.1 hm
    have := mostNum_ge (fndL G S K) (fndL G S K).length i hi
    rw [List.getElem?_eq_getElem hi, e] at this
    simp only [Option.getD_some] at this
    unfold nextL
    rw [if_neg (by intro e2; rw [e2] at hm; simp at hm)]
    simp only [BK.num]
    omega
theorem nextS_le {G : Geo} {S : CS} {K : Int → BK} {c : Int} (h : NumLe G.b K c) (hc : 0 ≤ c) (hup : S.up = true) : nextL (fndL G S K) ≤ c + 1 := by
  unfold nextL
  split
  · omega
  · rename_i hne
    have hl : 0 < (fndL G S K).length := by cases hq : fndL G S K with
      | nil => exact absurd hq hne
      | cons => simp
    obtain ⟨f, hf, e⟩ := mostNum_mem _ (fndL G S K).length (Nat.le_refl _) hl
    obtain ⟨x, hx, hfo⟩ := (fndL_mem hup).1 hf
    have := h x hx.1.1 hx.1.2
    have := (foundOf_block hfo).2
    omega
theorem fndL_num {G : Geo} {S : CS} {K : Int → BK} (h : CInv G S K) (hup : S.up = true) : ∀ f ∈ fndL G S K, -4611686018427387904 ≤ f.number ∧ f.number ≤ 4611686018427387904 := by
  intro f hf
  obtain ⟨x, hx, hfo⟩ := (fndL_mem hup).1 hf
  have h1 := num_ge h hx.1.1 hx.1.2
  have h2 := foundOf_block hfo
  omega
end Go.Proofs.YtbafkakhhelcmaaGreat
