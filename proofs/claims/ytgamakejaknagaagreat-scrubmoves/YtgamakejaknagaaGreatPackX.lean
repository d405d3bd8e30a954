/-
  Layer 11, plain: what a block holds (BK); what the blocks hold of logical blocks (Hold), which stand (StOk); what becomes of it when a block is marked, emptied, written.
-/
import Derived.Test.YtgamakejaknagaaGreatPackW
import Derived.Test.YtgamakejaknagaaGreatPackV
import Derived.Test.YtgamakejaknagaaGreatPackA
import Derived.RangeFuncNested
import Derived.RangeFuncWrites
import Derived.TacticsIn
import Derived.OrdersIn
import Derived.Test.YtgamakejaknagaaGreatPackF
namespace Go.Proofs.YtgamakejaknagaaGreat
open Go.RowKit Go.Maps
set_option linter.unusedVariables false
set_option maxRecDepth 8192

/-- What a block holds: nothing that is found; a head whose pages are not all there; a logical block's bytes, whole. -/
inductive BK where
  | no
  | part (j b n : Int)
  | copy (j : Int) (D : List Int) (n : Int)
def BK.num : BK → Int
  | .no => 0
  | .part _ _ n => n
  | .copy _ _ n => n
def foundOf (x : Int) : BK → Option Fnd
  | .no => none
  | .part j b n => some ⟨x, j, b, n, false⟩
  | .copy j D n => some ⟨x, j, (D.length : Nat), n, true⟩
/-- A block that counts. -/
def GoodB (b : Int) (bd : Int → Bool) (x : Int) : Prop := (0 ≤ x ∧ x < b) ∧ bd x = false
/-- x holds the newest bytes of j. -/
structure Best (b : Int) (bd : Int → Bool) (K : Int → BK) (j x : Int) (D : List Int) (n : Int) : Prop where
  good : GoodB b bd x
  is : K x = .copy j D n
  top : ∀ y D' n', GoodB b bd y → K y = .copy j D' n' → y ≠ x → n' < n
/-- Of each logical block the newest bytes. -/
def Hold (b : Int) (bd : Int → Bool) (K : Int → BK) (M : Int → Option (List Int)) : Prop :=
  ∀ j, 0 ≤ j → j < 64 → (M j = none ∧ ∀ y D n, GoodB b bd y → K y ≠ .copy j D n) ∨ ∃ D x n, M j = some D ∧ Best b bd K j x D n
/-- A number above all that are found. -/
def NumOk (b : Int) (bd : Int → Bool) (K : Int → BK) (nu : Int) : Prop := 1 ≤ nu ∧ ∀ y, GoodB b bd y → (K y).num < nu
def NumLe (b : Int) (K : Int → BK) (c : Int) : Prop := ∀ y, 0 ≤ y → y < b → (K y).num ≤ c
/-- Which block stands for which logical block. -/
def StOk (b : Int) (bd : Int → Bool) (K : Int → BK) (M : Int → Option (List Int)) (st : List Int) : Prop :=
  ∀ j : Nat, j < st.length → (M j = none ∧ st[j]?.getD 0 = -1) ∨ ∃ D n, M j = some D ∧ Best b bd K j (st[j]?.getD 0) D n
def updK (K : Int → BK) (x : Int) (k : BK) : Int → BK := fun y => if y = x then k else K y
def updM (M : Int → Option (List Int)) (j : Int) (o : Option (List Int)) : Int → Option (List Int) := fun i => if i = j then o else M i
theorem updK_self (K : Int → BK) (x : Int) : updK K x (K x) = K := by
  funext y; unfold updK; split
  · rename_i h; rw [h]
  · rfl
theorem updK_at (K : Int → BK) (x : Int) (k : BK) : updK K x k x = k := by unfold updK; rw [if_pos rfl]
theorem updK_ne {K : Int → BK} {x y : Int} (k : BK) (h : y ≠ x) : updK K x k y = K y := by unfold updK; rw [if_neg h]
theorem updM_at (M : Int → Option (List Int)) (j : Int) (o : Option (List Int)) : updM M j o j = o := by unfold updM; rw [if_pos rfl]
theorem updM_ne {M : Int → Option (List Int)} {i j : Int} (o : Option (List Int)) (h : i ≠ j) : updM M j o i = M i := by unfold updM; rw [if_neg h]

section
variable {b : Int} {bd bd' : Int → Bool} {K K' : Int → BK} {M : Int → Option (List Int)} {st : List Int} {x : Int}
theorem Best.one {j x' : Int} {D D' : List Int} {n n' : Int} (h : Best b bd K j x D n) (h' : Best b bd K j x' D' n') : x = x' ∧ D = D' ∧ n = n' := by
  by_cases e : x = x'
  · subst e
    have h1 := h.is.symm.trans h'.is
    simp only [BK.copy.injEq, true_and] at h1
    exact ⟨rfl, h1.1, h1.2⟩
  · have h1 := h.top x' D' n' h'.good h'.is (Ne.symm e)
    have h2 := h'.top x D n h.good h.is e
    omega
/-- What turns at x alone, and makes no new bytes there. -/
structure Turn (bd : Int → Bool) (K : Int → BK) (bd' : Int → Bool) (K' : Int → BK) (x : Int) : Prop where
  bds : ∀ y, y ≠ x → bd' y = bd y
  ks : ∀ y, y ≠ x → K' y = K y
  mark : bd' x = false → bd x = false
  less : bd' x = false → K' x = K x ∨ ∀ j D n, K' x ≠ .copy j D n
theorem Turn.good (t : Turn bd K bd' K' x) {y : Int} (h : GoodB b bd' y) : GoodB b bd y := by
  refine ⟨h.1, ?_⟩
  by_cases e : y = x
  · subst e; exact t.mark h.2
  · rw [← t.bds y e]; exact h.2
theorem Turn.copy (t : Turn bd K bd' K' x) {y j : Int} {D : List Int} {n : Int} (h : GoodB b bd' y) (hk : K' y = .copy j D n) : K y = .copy j D n := by
  by_cases e : y = x
  · subst e
    rcases t.less h.2 with h1 | h1
    · rw [← h1]; exact hk
    · exact absurd hk (h1 j D n)
  · rw [← t.ks y e]; exact hk
theorem Best.turn {j x' : Int} {D : List Int} {n : Int} (h : Best b bd K j x' D n) (t : Turn bd K bd' K' x) (hne : x' ≠ x) : Best b bd' K' j x' D n :=
  ⟨⟨h.good.1, by rw [t.bds x' hne]; exact h.good.2⟩, by rw [t.ks x' hne]; exact h.is, fun y D' n' hy hk hn => h.top y D' n' (t.good hy) (t.copy hy hk) hn⟩
/-- x holds the newest bytes of no logical block. -/
def NotBest (b : Int) (bd : Int → Bool) (K : Int → BK) (x : Int) : Prop := ∀ j D n, 0 ≤ j → j < 64 → ¬ Best b bd K j x D n
theorem notBest_of (h : Hold b bd K M) (hs : StOk b bd K M st) (hM : ∀ j, (st.length : Int) ≤ j → M j = none) (hx : x ∉ st) : NotBest b bd K x := by
  intro j D n h0 h64 hb
  rcases h j h0 h64 with ⟨_, hno⟩ | ⟨D', x', n', hm, hb'⟩
  · exact hno x D n hb.good hb.is
  · obtain ⟨i, rfl⟩ := Int.eq_ofNat_of_zero_le h0
    have hl : i < st.length := by
      rcases Nat.lt_or_ge i st.length with h | h
      · exact h
      · rw [hM i (by omega)] at hm; cases hm
    rcases hs i hl with ⟨hn, _⟩ | ⟨D2, n2, _, hb2⟩
    · rw [hn] at hm; cases hm
    · have := (hb.one hb2).1
      exact hx (this ▸ mem_getD st i hl)
theorem Hold.turn (h : Hold b bd K M) (hn : NotBest b bd K x) (t : Turn bd K bd' K' x) : Hold b bd' K' M := by
  intro j h0 h64
  rcases h j h0 h64 with ⟨hm, hno⟩ | ⟨D, x', n, hm, hb⟩
  · exact .inl ⟨hm, fun y D n hy hk => hno y D n (t.good hy) (t.copy hy hk)⟩
  · exact .inr ⟨D, x', n, hm, hb.turn t (fun e => hn j D n h0 h64 (e ▸ hb))⟩
theorem StOk.turn (h : StOk b bd K M st) (hx : x ∉ st) (t : Turn bd K bd' K' x) : StOk b bd' K' M st := by
  intro j hj
  rcases h j hj with h1 | ⟨D, n, hm, hb⟩
  · exact .inl h1
  · exact .inr ⟨D, n, hm, hb.turn t (fun e => hx (e ▸ mem_getD st j hj))⟩
theorem NumOk.turn {nu nu' : Int} (h : NumOk b bd K nu) (t : Turn bd K bd' K' x) (hnu : nu ≤ nu') (hx : (K' x).num < nu') : NumOk b bd' K' nu' := by
  refine ⟨by have := h.1; omega, fun y hy => ?_⟩
  by_cases e : y = x
  · rw [e]; exact hx
  · rw [t.ks y e]; have := h.2 y (t.good hy); omega
theorem NumLe.upd {c c' : Int} {k : BK} (h : NumLe b K c) (hc : c ≤ c') (hk : k.num ≤ c') : NumLe b (updK K x k) c' := by
  intro y h0 h1
  by_cases e : y = x
  · rw [e, updK_at]; exact hk
  · rw [updK_ne k e]; have := h y h0 h1; omega
/-- Bytes of j are written to x, whole. -/
theorem Best.put {j : Int} {D : List Int} {nu n : Int} (hnu : NumOk b bd K nu) (hn : nu ≤ n) (hx : GoodB b bd x) : Best b bd (updK K x (.copy j D n)) j x D n := by
  refine ⟨hx, updK_at _ _ _, fun y D' n' hy hk hne => ?_⟩
  rw [updK_ne _ hne] at hk
  have := hnu.2 y hy
  rw [hk] at this
  simp only [BK.num] at this
  omega
theorem Best.put_other {i j x' : Int} {D D' : List Int} {n n' : Int} (h : Best b bd K i x' D' n') (hij : i ≠ j) (hne : x' ≠ x) : Best b bd (updK K x (.copy j D n)) i x' D' n' := by
  refine ⟨h.good, by rw [updK_ne _ hne]; exact h.is, fun y D2 n2 hy hk hy2 => ?_⟩
  by_cases e : y = x
  · subst e
    rw [updK_at] at hk
    simp only [BK.copy.injEq] at hk
    exact absurd hk.1.symm hij
  · rw [updK_ne _ e] at hk
    exact h.top y D2 n2 hy hk hy2
theorem Hold.put {j : Int} {D : List Int} {nu n : Int} (h : Hold b bd K M) (hnu : NumOk b bd K nu) (hn : nu ≤ n) (hx : GoodB b bd x) (hnb : NotBest b bd K x) : Hold b bd (updK K x (.copy j D n)) (updM M j (some D)) := by
  intro i h0 h64
  by_cases e : i = j
  · subst e
    exact .inr ⟨D, x, n, updM_at _ _ _, Best.put hnu hn hx⟩
  · rw [updM_ne _ e]
    rcases h i h0 h64 with ⟨hm, hno⟩ | ⟨D', x', n', hm, hb⟩
    · refine .inl ⟨hm, fun y D' n' hy hk => ?_⟩
      by_cases ey : y = x
      · subst ey
        rw [updK_at] at hk
        simp only [BK.copy.injEq] at hk
        exact e hk.1.symm
      · rw [updK_ne _ ey] at hk
        exact hno y D' n' hy hk
    · exact .inr ⟨D', x', n', hm, hb.put_other e (fun e' => hnb i D' n' h0 h64 (e' ▸ hb))⟩
theorem StOk.put {j : Nat} {D : List Int} {nu n : Int} (h : StOk b bd K M st) (hnu : NumOk b bd K nu) (hn : nu ≤ n) (hx : GoodB b bd x) (hxs : x ∉ st) (hj : j < st.length) : StOk b bd (updK K x (.copy j D n)) (updM M j (some D)) (st.set j x) := by
  intro i hi
  rw [List.length_set] at hi
  by_cases e : i = j
  · subst e
    refine .inr ⟨D, n, updM_at _ _ _, ?_⟩
    rw [List.getElem?_set_self hi]
    exact Best.put hnu hn hx
  · have e' : (i : Int) ≠ (j : Int) := by omega
    rw [updM_ne _ e', List.getElem?_set_ne (Ne.symm e)]
    rcases h i hi with h1 | ⟨D', n', hm, hb⟩
    · exact .inl h1
    · exact .inr ⟨D', n', hm, hb.put_other e' (fun e2 => hxs (e2 ▸ mem_getD st i hi))⟩
theorem NumOk.put {j : Int} {D : List Int} {nu n nu' : Int} (h : NumOk b bd K nu) (hn : n < nu') (hnu : nu ≤ nu') : NumOk b bd (updK K x (.copy j D n)) nu' := by
  refine ⟨by have := h.1; omega, fun y hy => ?_⟩
  by_cases e : y = x
  · subst e; rw [updK_at]; exact hn
  · rw [updK_ne _ e]; have := h.2 y hy; omega
/-- The last block that holds bytes of j is gone. -/
theorem Hold.del {j : Int} (h : Hold b bd K M) (t : Turn bd K bd' K' x) {D : List Int} {n : Int} (hx : K x = .copy j D n) (hno : ∀ y D n, GoodB b bd' y → K' y ≠ .copy j D n) : Hold b bd' K' (updM M j none) := by
  intro i h0 h64
  by_cases e : i = j
  · subst e
    exact .inl ⟨updM_at _ _ _, hno⟩
  · rw [updM_ne _ e]
    rcases h i h0 h64 with ⟨hm, hno'⟩ | ⟨D', x', n', hm, hb⟩
    · exact .inl ⟨hm, fun y D n hy hk => hno' y D n (t.good hy) (t.copy hy hk)⟩
    · refine .inr ⟨D', x', n', hm, hb.turn t (fun e' => ?_)⟩
      subst e'
      have := hx.symm.trans hb.is
      simp only [BK.copy.injEq] at this
      exact e this.1.symm
theorem StOk.del {j : Nat} (h : StOk b bd K M st) (t : Turn bd K bd' K' x) {D : List Int} {n : Int} (hx : K x = .copy j D n) (hj : j < st.length) : StOk b bd' K' (updM M j none) (st.set j (-1)) := by
  intro i hi
  rw [List.length_set] at hi
  by_cases e : i = j
  · subst e
    refine .inl ⟨updM_at _ _ _, ?_⟩
    rw [List.getElem?_set_self hi]
    rfl
  · have e' : (i : Int) ≠ (j : Int) := by omega
    rw [updM_ne _ e', List.getElem?_set_ne (Ne.symm e)]
    rcases h i hi with h1 | ⟨D', n', hm, hb⟩
    · exact .inl h1
    · refine .inr ⟨D', n', hm, hb.turn t (fun e2 => ?_)⟩
      rw [e2] at hb
      have := hx.symm.trans hb.is
      simp only [BK.copy.injEq] at this
      exact e' this.1.symm
/-- Opened with others of it: M alone says what stands. -/
theorem Hold.same {M' : Int → Option (List Int)} (h : Hold b bd K M) (e : ∀ j, 0 ≤ j → j < 64 → M j = M' j) : Hold b bd K M' := by
  intro j h0 h1
  rw [← e j h0 h1]
  exact h j h0 h1
end

/-! ### What a page, what a block is -/
/-- Few enough bits of a page are read wrongly. -/
def FewW (G : Geo) (wr : Int → Bool) : Prop :=
  (∀ p ∈ wrList G.L wr, 0 ≤ p ∧ p < 8 * ((G.s * G.W : Nat) : Int)) ∧ ∀ j, j < G.s → cntTo (8 * G.W) (8 * G.n + 13 * G.f) (wrList G.L wr) j ≤ G.f
theorem fewW_none (G : Geo) : FewW G (fun _ => false) := by
  have e : wrList G.L (fun _ => false) = [] := by
    unfold wrList
    rw [List.filter_eq_nil_iff.2 (fun _ _ => by simp)]
    rfl
  unfold FewW
  rw [e]
  exact ⟨fun p hp => absurd hp (by simp), fun j _ => Nat.zero_le _⟩
/-- Bits of the first sector, at most as many as may be. -/
theorem fewW_flip (G : Geo) {ps : List Int} (hl : ps.length ≤ G.f) (hp : ∀ p ∈ ps, 0 ≤ p ∧ p < ((8 * G.n + 13 * G.f : Nat) : Int)) : FewW G (flipW G.L ps ps.length) := by
  have g := G.ok
  have hsub : ∀ x ∈ wrList G.L (flipW G.L ps ps.length), x ∈ ps := by
    intro x hx
    have h2 := ((mem_wrList G.L _ x).1 hx).2
    unfold flipW at h2
    have h3 := (of_decide_eq_true h2).1
    rwa [List.take_length] at h3
  refine ⟨fun p hpw => ?_, fun j _ => ?_⟩
  · have h1 := hp p (hsub p hpw)
    have hm := g.hm
    have hW := g.hW
    have h2 : 1 * G.W ≤ G.s * G.W := Nat.mul_le_mul_right _ g.hs.1
    omega
  · refine Nat.le_trans (cnt_le _ _ _ _) (Nat.le_trans ?_ hl)
    exact nodup_len (nodup_wrList _ _) hsub
/-- The page y of x: bytes that may be read, or none. -/
def PIs (G : Geo) (z : List Int) (wr : Int → Bool) : Option (List Int) → Prop
  | none => z[G.L - 1]?.getD 0 ≠ 0 ∧ FewW G wr
  | some l => (IsB l ∧ l.length = G.R ∧ IsPack G.s G.n G.f G.m G.W l z) ∧ FewW G wr
theorem PIs.few {G : Geo} {z : List Int} {wr : Int → Bool} : ∀ {o : Option (List Int)}, PIs G z wr o → FewW G wr
  | none, h => h.2
  | some _, h => h.2
theorem PIs.flip {G : Geo} {z : List Int} {wr wr' : Int → Bool} (hw : FewW G wr') : ∀ {o : Option (List Int)}, PIs G z wr o → PIs G z wr' o
  | none, h => ⟨h.1, hw⟩
  | some _, h => ⟨h.1, hw⟩
theorem PIs.mark {G : Geo} {z : List Int} {wr : Int → Bool} : ∀ {o : Option (List Int)}, PIs G z wr o → ((readZ G.L z wr)[G.L - 1]?.getD 0 = 0 ↔ o.isSome = true)
  | none, h => by
    unfold readZ
    rw [flip_mark (s := G.s) (W := G.W) G.ok.hL h.2.1]
    simp [h.1]
  | some l, h => by
    unfold readZ
    rw [flip_mark (s := G.s) (W := G.W) G.ok.hL h.2.1, show G.L - 1 = G.s * G.W by have := G.ok.hL; omega, h.1.2.2.mark]
    simp
/-- The most bits that are put right in a sector of a page. -/
def cntP (G : Geo) (wr : Int → Bool) : Nat := maxC (cntTo (8 * G.W) (8 * G.n + 13 * G.f) (wrList G.L wr)) G.s
theorem cntP_none (G : Geo) : cntP G (fun _ => false) = 0 := by
  have e : wrList G.L (fun _ => false) = [] := by
    unfold wrList
    rw [List.filter_eq_nil_iff.2 (fun _ _ => by simp)]
    rfl
  unfold cntP
  rw [e]
  exact maxC_zero _
/-- .. of a block's first page and so many more. -/
def mostW (G : Geo) (wr : Int → Int → Bool) : Nat → Nat
  | 0 => cntP G (wr 0)
  | i + 1 => max (mostW G wr i) (cntP G (wr (1 + i : Nat)))
theorem mostW_zero (G : Geo) (wr : Int → Int → Bool) : ∀ (n : Nat), (∀ p : Int, 0 ≤ p → p < 1 + (n : Int) → wr p = fun _ => false) → mostW G wr n = 0
  | 0, h => by show cntP G (wr 0) = 0; rw [h 0 (by omega) (by omega)]; exact cntP_none G
  | n + 1, h => by
    show max (mostW G wr n) (cntP G (wr (1 + n : Nat))) = 0
    rw [mostW_zero G wr n (fun p h0 h1 => h p h0 (by omega)), h (1 + n : Nat) (by omega) (by omega), cntP_none]
    rfl
theorem mostW_none (G : Geo) (wr : Int → Int → Bool) (n : Nat) (h : ∀ p, wr p = fun _ => false) : mostW G wr n = 0 := mostW_zero G wr n fun p _ _ => h p
theorem PIs.read {G : Geo} {z l X : List Int} {wr : Int → Bool} {k : Nat} {er : Int} (h : PIs G z wr (some l)) (hr : IsRead G (readZ G.L z wr) X k er) : X = l ∧ er = 0 ∧ k = cntP G wr := by
  obtain ⟨⟨h1, h2, h3⟩, h4, h5⟩ := h
  have := isRead_flips h3 h1 h2 (nodup_wrList _ _) h4 h5 hr
  exact ⟨this.1, this.2.2, this.2.1⟩
theorem PIs.unread {G : Geo} {z X : List Int} {wr : Int → Bool} {k : Nat} {er : Int} (h : PIs G z wr none) (hr : IsRead G (readZ G.L z wr) X k er) : er ≠ 0 := by
  have h1 : ¬ (readZ G.L z wr)[G.L - 1]?.getD 0 = 0 := fun e => by have := h.mark.1 e; simp at this
  rcases hr with ⟨_, _, _, h3⟩ | ⟨h0, _⟩
  · rw [h3]; split <;> omega
  · exact absurd h0 h1
/-- The i-th piece of bytes, 00 behind it. -/
def chunkZ (R : Nat) (D : List Int) (i : Nat) : List Int := (D.drop (i * R)).take R ++ List.replicate (R - ((D.drop (i * R)).take R).length) 0
theorem chunkZ_len (R : Nat) (D : List Int) (i : Nat) : (chunkZ R D i).length = R := by
  unfold chunkZ
  have : ((D.drop (i * R)).take R).length ≤ R := List.length_take_le _ _
  rw [List.length_append, List.length_replicate]
  omega
theorem chunkZ_isB {R : Nat} {D : List Int} (h : IsB D) (i : Nat) : IsB (chunkZ R D i) := by
  intro v hv
  unfold chunkZ at hv
  rcases List.mem_append.1 hv with hv | hv
  · exact h v (List.mem_of_mem_drop (List.mem_of_mem_take hv))
  · rw [(List.mem_replicate.1 hv).2]; decide
/-- The first i pieces, one behind the other. -/
def joinZ (R : Nat) (D : List Int) : Nat → List Int
  | 0 => []
  | i + 1 => joinZ R D i ++ chunkZ R D i
theorem joinZ_len (R : Nat) (D : List Int) (i : Nat) : (joinZ R D i).length = i * R := by
  induction i with
  | zero => simp [joinZ]
  | succ i ih => simp only [joinZ, List.length_append, ih, chunkZ_len, Nat.add_mul]; omega
theorem joinZ_take (R : Nat) (D : List Int) : ∀ i, (joinZ R D i).take D.length = D.take (i * R)
  | 0 => by simp [joinZ]
  | i + 1 => by
    have ih := joinZ_take R D i
    simp only [joinZ]
    rcases Nat.lt_or_ge (i * R) D.length with h | h
    · rw [List.take_append, List.take_of_length_le (by rw [joinZ_len]; omega), joinZ_len]
      rw [List.take_of_length_le (by rw [joinZ_len]; omega)] at ih
      rw [ih, Nat.add_mul, Nat.one_mul, List.take_add]
      congr 1
      unfold chunkZ
      rw [List.take_append]
      rcases Nat.lt_or_ge (D.length - i * R) R with h1 | h1
      · have e : ((D.drop (i * R)).take R).length = D.length - i * R := by rw [List.length_take, List.length_drop]; omega
        rw [e, Nat.sub_self, List.take_zero, List.append_nil, List.take_of_length_le (by rw [e]; exact Nat.le_refl _)]
      · have e : ((D.drop (i * R)).take R).length = R := by rw [List.length_take, List.length_drop]; omega
        rw [e, Nat.sub_self, List.replicate_zero, List.take_nil, List.append_nil, List.take_of_length_le (by rw [e]; omega)]
    · rw [List.take_append_of_le_length (by rw [joinZ_len]; exact h), ih, List.take_of_length_le h, List.take_of_length_le (by rw [Nat.add_mul]; omega)]
theorem joinZ_all {R : Nat} (hR : 0 < R) (D : List Int) : (joinZ R D (pagesOf R D.length)).take D.length = D := by
  rw [joinZ_take, List.take_of_length_le (pagesOf_room hR)]

/-- What the block x of a chip holds. -/
def BIs (G : Geo) (pg : Int → List Int) (wr : Int → Int → Bool) : BK → Prop
  | .no => PIs G (pg 0) (wr 0) none
  | .part j b n => (mayH G.C j b n = true ∧ PIs G (pg 0) (wr 0) (some (pageOf G.R j b n))) ∧ ∃ i : Nat, i < pagesOf G.R b.toNat ∧ PIs G (pg (1 + i : Nat)) (wr (1 + i : Nat)) none
  | .copy j D n => (mayH G.C j (D.length : Nat) n = true ∧ IsB D ∧ PIs G (pg 0) (wr 0) (some (pageOf G.R j (D.length : Nat) n))) ∧ ∀ i : Nat, i < pagesOf G.R D.length → PIs G (pg (1 + i : Nat)) (wr (1 + i : Nat)) (some (chunkZ G.R D i))
theorem BIs.flip {G : Geo} {pg : Int → List Int} {wr wr' : Int → Int → Bool} (hw : ∀ p, FewW G (wr p) → FewW G (wr' p)) : ∀ {k : BK}, BIs G pg wr k → BIs G pg wr' k
  | .no, h => PIs.flip (o := none) (hw _ (PIs.few (o := none) h)) h
  | .part _ _ _, ⟨⟨h1, h2⟩, i, hi, h3⟩ => ⟨⟨h1, h2.flip (hw _ h2.few)⟩, i, hi, h3.flip (hw _ h3.few)⟩
  | .copy _ _ _, ⟨⟨h1, h2, h3⟩, h4⟩ => ⟨⟨h1, h2, h3.flip (hw _ h3.few)⟩, fun i hi => (h4 i hi).flip (hw _ (h4 i hi).few)⟩
/-- What all blocks hold. -/
def CInv (G : Geo) (S : CS) (K : Int → BK) : Prop := ∀ x, 0 ≤ x → x < G.b → BIs G (S.pg x) (S.wr x) (K x)
theorem geoC_lt (G : Geo) : (G.C : Int) < 4294967296 := G.gmay.C32
theorem may_pages {G : Geo} {n : Nat} (h : n ≤ G.C) : 1 + pagesOf G.R n ≤ G.p.toNat := by
  have h1 := pagesOf_mono (R := G.R) h
  have h2 : pagesOf G.R G.C = (G.p - 1).toNat := pagesOf_mul (by have := G.ok.hR1; omega)
  have := G.ok.hp
  omega
theorem markTo_yes {G : Geo} {S : CS} {x : Int} : ∀ {n : Nat}, (∀ k, k < n → (S.raw G x (k : Int))[G.L - 1]?.getD 0 = 0) → S.markTo G x n = true := by
  intro n
  induction n with
  | zero => intro _; rfl
  | succ n ih =>
    intro h
    unfold CS.markTo
    rw [ih (fun k hk => h k (by omega)), h n (by omega)]
    rfl
/-- What looking at a block tells. -/
theorem look_is {G : Geo} {S : CS} {x : Int} {k : BK} (hx : 0 ≤ x ∧ x < G.b) (hup : S.up = true) (hbd : S.bd x = false) (h : BIs G (S.pg x) (S.wr x) k) {o : Option Fnd} (hl : LookIs G S x o) : o = foundOf x k := by
  obtain ⟨X, kk, er, hr, hc⟩ := hl
  have hCl := geoC_lt G
  have hwh : ∀ n : Nat, n ≤ G.C → S.wholeD G x (1 + (pagesOf G.R n : Nat)) = (S.markTo G x (1 + pagesOf G.R n), 0) := by
    intro n hn
    have h1 := may_pages hn
    have hp := G.ok.hp
    have hr : S.rdy G x (within0 (1 + (pagesOf G.R n : Nat)) G.p) = 0 := rdy_of hup (inB0_of hx) (by unfold within0; rw [decide_eq_true_iff]; omega)
    unfold CS.wholeD
    rw [if_neg (by rw [hr]; simp), hbd, show (1 + ((pagesOf G.R n : Nat) : Int)).toNat = 1 + pagesOf G.R n by omega]
    rfl
  cases k with
  | no =>
    have := PIs.unread (show PIs G (S.pg x 0) (S.wr x 0) none from h) hr
    rcases hc with ⟨rfl, _⟩ | ⟨rfl, _⟩
    · rfl
    · exact absurd rfl this
  | part j b n =>
    obtain ⟨⟨hm, h0⟩, i, hi, hn⟩ := h
    obtain ⟨rfl, rfl, _⟩ := h0.read hr
    obtain ⟨e0, e1, e2, e3⟩ := readH_page (R := G.R) hCl hm
    have hmy := mayH_yes hm
    rcases hc with ⟨rfl, h1 | h1⟩ | ⟨_, _, rfl⟩
    · exact absurd rfl h1
    · rw [e3] at h1; cases h1
    · rw [e0, e1, e2, hwh b.toNat (by omega)]
      have hmk : S.markTo G x (1 + pagesOf G.R b.toNat) = false := markTo_no (k := 1 + i) (by omega) (fun e => by
        have := hn.mark.1 e
        simp at this)
      rw [hmk]
      rfl
  | copy j D n =>
    obtain ⟨⟨hm, hB, h0⟩, hn⟩ := h
    obtain ⟨rfl, rfl, _⟩ := h0.read hr
    obtain ⟨e0, e1, e2, e3⟩ := readH_page (R := G.R) hCl hm
    have hmy := mayH_yes hm
    rcases hc with ⟨rfl, h1 | h1⟩ | ⟨_, _, rfl⟩
    · exact absurd rfl h1
    · rw [e3] at h1; cases h1
    · rw [e0, e1, e2, show ((D.length : Nat) : Int).toNat = D.length by omega, hwh D.length (by omega)]
      have hmk : S.markTo G x (1 + pagesOf G.R D.length) = true := markTo_yes (fun k hk => by
        rcases Nat.eq_zero_or_pos k with rfl | hk0
        · exact h0.mark.2 rfl
        · obtain ⟨i, rfl⟩ : ∃ i, k = 1 + i := ⟨k - 1, by omega⟩
          exact (hn i (by omega)).mark.2 rfl)
      rw [hmk]
      rfl
/-- What is found. -/
def fndL (G : Geo) (S : CS) (K : Int → BK) : List Fnd := (S.goodTo G.b.toNat).filterMap fun x => foundOf x (K x)
theorem fndL_mem {G : Geo} {S : CS} {K : Int → BK} (hup : S.up = true) {f : Fnd} : f ∈ fndL G S K ↔ ∃ x, GoodB G.b S.bd x ∧ foundOf x (K x) = some f := by
  unfold fndL
  rw [List.mem_filterMap]
  constructor
  · rintro ⟨x, hx, h⟩
    obtain ⟨i, rfl, h1, _, h3⟩ := goodTo_mem hx
    exact ⟨i, ⟨⟨by omega, by omega⟩, h3⟩, h⟩
  · rintro ⟨x, ⟨⟨h0, h1⟩, h2⟩, h⟩
    refine ⟨x, ?_, h⟩
    obtain ⟨i, rfl⟩ := Int.eq_ofNat_of_zero_le h0
    unfold CS.goodTo
    rw [List.mem_map]
    exact ⟨i, by rw [List.mem_filter, List.mem_range, hup, h2]; exact ⟨by omega, rfl⟩, rfl⟩
theorem foundOf_block {x : Int} {k : BK} {f : Fnd} (h : foundOf x k = some f) : f.block = x ∧ f.number = k.num := by
  cases k <;> simp [foundOf] at h <;> subst h <;> exact ⟨rfl, rfl⟩
theorem foundOf_whole {x : Int} {k : BK} {f : Fnd} (h : foundOf x k = some f) (hw : f.whole = true) : ∃ D, k = .copy f.leb D f.number := by
  cases k with
  | no => simp [foundOf] at h
  | part => simp [foundOf] at h; subst h; simp at hw
  | copy j D n => simp [foundOf] at h; subst h; exact ⟨D, rfl⟩
theorem num_ge {G : Geo} {S : CS} {K : Int → BK} (h : CInv G S K) {x : Int} (h0 : 0 ≤ x) (h1 : x < G.b) : 0 ≤ (K x).num ∧ (K x).num ≤ 1000000000 ∧ ((K x).num = 0 → K x = .no) := by
  have := h x h0 h1
  cases hk : K x with
  | no => exact ⟨by simp [BK.num], by simp [BK.num], fun _ => rfl⟩
  | part j b n =>
    rw [hk] at this
    have := mayH_yes this.1.1
    simp only [BK.num]
    exact ⟨by omega, by omega, fun e => by omega⟩
  | copy j D n =>
    rw [hk] at this
    have := mayH_yes this.1.1
    simp only [BK.num]
    exact ⟨by omega, by omega, fun e => by omega⟩
theorem fndL_len (G : Geo) (S : CS) (K : Int → BK) : (fndL G S K).length ≤ 256 := by
  have h1 := List.length_filterMap_le (fun x => foundOf x (K x)) (S.goodTo G.b.toNat)
  have h2 := goodTo_len (S := S) G.b.toNat
  have := G.ok.hb
  unfold fndL
  omega
/-- What is picked stands. -/
theorem pick_ok {G : Geo} {S : CS} {K : Int → BK} {M : Int → Option (List Int)} {L : Nat} (h : Hold G.b S.bd K M) (hup : S.up = true) (hL : L ≤ 64) : StOk G.b S.bd K M (pickL L (fndL G S K)) := by
  intro j hj
  rw [pickL_length] at hj
  have e : (pickL L (fndL G S K))[j]?.getD 0 = standsL (ofLeb (j : Nat) (fndL G S K)) := by simp [pickL, hj]
  rw [e]
  have hst := standsL_is _ (j : Nat) (ofLeb_leb (j : Nat) (fndL G S K))
  have hin : ∀ f ∈ ofLeb (j : Nat) (fndL G S K), ∃ D, GoodB G.b S.bd f.block ∧ K f.block = .copy (j : Nat) D f.number := by
    intro f hf
    have hlb := ofLeb_leb _ _ f hf
    simp only [ofLeb, List.mem_filter, isOf, Bool.and_eq_true] at hf
    obtain ⟨x, hx, hfo⟩ := (fndL_mem hup).1 hf.1
    obtain ⟨D, hD⟩ := foundOf_whole hfo hf.2.1
    rw [(foundOf_block hfo).1]
    exact ⟨D, hx, by rw [hD, hlb]⟩
  rcases h j (by omega) (by omega) with ⟨hm, hno⟩ | ⟨D, x, n, hm, hb⟩
  · refine .inl ⟨hm, ?_⟩
    rcases hst with ⟨_, hv⟩ | ⟨m, hmm, _⟩
    · exact hv
    · obtain ⟨D, h1, h2⟩ := hin m hmm
      exact absurd h2 (hno _ D _ h1)
  · refine .inr ⟨D, n, hm, ?_⟩
    have hxm : (⟨x, (j : Nat), (D.length : Nat), n, true⟩ : Fnd) ∈ ofLeb (j : Nat) (fndL G S K) := by
      simp only [ofLeb, List.mem_filter, isOf]
      refine ⟨(fndL_mem hup).2 ⟨x, hb.good, by rw [hb.is]; rfl⟩, by simp⟩
    rcases hst with ⟨he, _⟩ | ⟨m, hmm, hv, hbest⟩
    · rw [he] at hxm; simp at hxm
    · obtain ⟨D', h1, h2⟩ := hin m hmm
      have hov := hbest _ hxm
      by_cases ex : m.block = x
      · rw [hv, ex]; exact hb
      · have := hb.top m.block D' m.number h1 h2 ex
        exact absurd (.inl this) hov
theorem nextS_ok {G : Geo} {S : CS} {K : Int → BK} (h : CInv G S K) (hup : S.up = true) : NumOk G.b S.bd K (nextL (fndL G S K)) := by
  have hge : ∀ f ∈ fndL G S K, 1 ≤ f.number := by
    intro f hf
    obtain ⟨x, hx, hfo⟩ := (fndL_mem hup).1 hf
    have h1 := num_ge h hx.1.1 hx.1.2
    have h2 := foundOf_block hfo
    rw [h2.2]
    rcases Int.lt_or_le (K x).num 1 with h3 | h3
    · rw [h1.2.2 (by omega)] at hfo; simp [foundOf] at hfo
    · exact h3
  have h1 : 1 ≤ nextL (fndL G S K) := by
    unfold nextL
    split
    · exact Int.le_refl _
    · rename_i hne
      have hl : 0 < (fndL G S K).length := by cases hq : fndL G S K with
        | nil => exact absurd hq hne
        | cons => simp
      obtain ⟨f, hf, e⟩ := mostNum_mem _ (fndL G S K).length (Nat.le_refl _) hl
      have := hge f hf
      omega
  refine ⟨h1, fun y hy => ?_⟩
  cases hk : K y with
  | no => simp only [BK.num]; omega
  | part j b n =>
    have hm : (⟨y, j, b, n, false⟩ : Fnd) ∈ fndL G S K := (fndL_mem hup).2 ⟨y, hy, by rw [hk]; rfl⟩
    obtain ⟨i, hi, e⟩ := List.mem_iff_getElem.1 hm
    have := mostNum_ge (fndL G S K) (fndL G S K).length i hi
    rw [List.getElem?_eq_getElem hi, e] at this
    simp only [Option.getD_some] at this
    unfold nextL
    rw [if_neg (by intro e2; rw [e2] at hm; simp at hm)]
    simp only [BK.num]
    omega
  | copy j D n =>
    have hm : (⟨y, j, (D.length : Nat), n, true⟩ : Fnd) ∈ fndL G S K := (fndL_mem hup).2 ⟨y, hy, by rw [hk]; rfl⟩
    obtain ⟨i, hi, e⟩ := List.mem_iff_getElem.1 hm
    have := mostNum_ge (fndL G S K) (fndL G S K).length i hi
    rw [List.getElem?_eq_getElem hi, e] at this
    simp only [Option.getD_some] at this
    unfold nextL
    rw [if_neg (by intro e2; rw [e2] at hm; simp at hm)]
    simp only [BK.num]
    omega
theorem nextS_le {G : Geo} {S : CS} {K : Int → BK} {c : Int} (h : NumLe G.b K c) (hc : 0 ≤ c) (hup : S.up = true) : nextL (fndL G S K) ≤ c + 1 := by
  unfold nextL
  split
  · omega
  · rename_i hne
    have hl : 0 < (fndL G S K).length := by cases hq : fndL G S K with
      | nil => exact absurd hq hne
      | cons => simp
    obtain ⟨f, hf, e⟩ := mostNum_mem _ (fndL G S K).length (Nat.le_refl _) hl
    obtain ⟨x, hx, hfo⟩ := (fndL_mem hup).1 hf
    have := h x hx.1.1 hx.1.2
    have := (foundOf_block hfo).2
    omega
theorem fndL_num {G : Geo} {S : CS} {K : Int → BK} (h : CInv G S K) (hup : S.up = true) : ∀ f ∈ fndL G S K, -4611686018427387904 ≤ f.number ∧ f.number ≤ 4611686018427387904 := by
  intro f hf
  obtain ⟨x, hx, hfo⟩ := (fndL_mem hup).1 hf
  have h1 := num_ge h hx.1.1 hx.1.2
  have h2 := foundOf_block hfo
  omega
end Go.Proofs.YtgamakejaknagaaGreat

/-
  Layer 11, plain: what an erasure, and what writing a block page by page, whole or cut, make of what the blocks hold.
-/
namespace Go.Proofs.YtgamakejaknagaaGreat
open Go.RowKit Go.Maps
set_option linter.unusedVariables false
set_option maxRecDepth 8192

/-- S' is S but for the block x. -/
structure Apart (S S' : CS) (x : Int) : Prop where
  pg : ∀ y, y ≠ x → S'.pg y = S.pg y
  wr : ∀ y, y ≠ x → S'.wr y = S.wr y
  bd : ∀ y, y ≠ x → S'.bd y = S.bd y
  wk : S'.wk = S.wk
  ah : S.ah = 0 → S'.ah = 0
  mark : S.bd x = true → S'.bd x = true
  cl : (∀ y p, S.wr y p = fun _ => false) → ∀ y p, S'.wr y p = fun _ => false
theorem Apart.refl (S : CS) (x : Int) : Apart S S x := ⟨fun _ _ => rfl, fun _ _ => rfl, fun _ _ => rfl, rfl, id, id, id⟩
theorem Apart.trans {S S' S'' : CS} {x : Int} (h : Apart S S' x) (k : Apart S' S'' x) : Apart S S'' x :=
  ⟨fun y e => (k.pg y e).trans (h.pg y e), fun y e => (k.wr y e).trans (h.wr y e), fun y e => (k.bd y e).trans (h.bd y e), k.wk.trans h.wk, fun e => k.ah (h.ah e), fun e => k.mark (h.mark e), fun e => k.cl (h.cl e)⟩
section
variable {G : Geo} {S S' : CS} {x : Int}
theorem counted_is (S : CS) : S.counted.pg = S.pg ∧ S.counted.nx = S.nx ∧ S.counted.bd = S.bd ∧ S.counted.wk = S.wk ∧ S.counted.wr = S.wr ∧ (S.ah = 0 → S.counted.ah = 0) ∧ (S.ah ≠ 1 → S.counted.up = S.up) ∧ (S.ah = 1 → S.counted.up = false) ∧ S.counted.ke = S.ke := by
  unfold CS.counted
  split
  · rename_i h; exact ⟨rfl, rfl, rfl, rfl, rfl, fun e => e, fun _ => rfl, fun e => by omega, rfl⟩
  · split
    · rename_i h1 h2; exact ⟨rfl, rfl, rfl, rfl, rfl, fun _ => rfl, fun e => absurd h2 e, fun _ => rfl, rfl⟩
    · rename_i h1 h2; exact ⟨rfl, rfl, rfl, rfl, rfl, fun e => absurd e h1, fun _ => rfl, fun e => absurd e h2, rfl⟩
theorem apart_counted (S : CS) (x : Int) : Apart S S.counted x := by
  obtain ⟨h1, h2, h3, h4, h5, h6, h7, h8, _⟩ := counted_is S
  exact ⟨fun y _ => by rw [h1], fun y _ => by rw [h5], fun y _ => by rw [h3], h4, h6, fun e => by rw [h3]; exact e, fun e y p => by rw [h5]; exact e y p⟩
theorem apart_mark (S : CS) (x : Int) : Apart S (S.mark x) x :=
  ⟨fun _ _ => rfl, fun _ _ => rfl, fun y e => by show (if y = x then true else S.bd y) = _; rw [if_neg e], rfl, id, fun _ => by show (if x = x then true else S.bd x) = true; rw [if_pos rfl], id⟩
theorem apart_wipe (S : CS) (L : Nat) (x : Int) (k : Nat) : Apart S (S.wipe L x k) x := by
  refine ⟨fun y e => ?_, fun y e => ?_, fun _ _ => rfl, rfl, id, id, fun e y p => ?_⟩
  · funext p; show (if y = x ∧ 0 ≤ p ∧ p < (k : Int) then _ else S.pg y p) = _; rw [if_neg (fun h => e h.1)]
  · funext p; show (if y = x ∧ 0 ≤ p ∧ p < (k : Int) then _ else S.wr y p) = _; rw [if_neg (fun h => e h.1)]
  · show (if y = x ∧ 0 ≤ p ∧ p < (k : Int) then _ else S.wr y p) = _
    split
    · rfl
    · exact e y p
theorem apart_next0 (S : CS) (x : Int) : Apart S (S.next0 x) x := ⟨fun _ _ => rfl, fun _ _ => rfl, fun _ _ => rfl, rfl, id, id, id⟩
theorem apart_lay (S : CS) (x y : Int) (z : List Int) : Apart S (S.lay x y z) x := by
  refine ⟨fun b e => ?_, fun _ _ => rfl, fun _ _ => rfl, rfl, id, id, id⟩
  funext p; show (if b = x ∧ p = y then z else S.pg b p) = _; rw [if_neg (fun h => e h.1)]
/-- What an erasure makes of a chip. -/
def EraseRes (G : Geo) (S : CS) (x : Int) (r : Int) (S' : CS) : Prop :=
  Apart S S' x ∧
  ((r = 73 ∧ S.bd x = true ∧ S' = S) ∨
   (r = 72 ∧ (S.wk x = true ∧ S.bd x = false) ∧ S'.up = true ∧ S'.bd x = true ∧ S'.pg x = S.pg x ∧ S'.wr x = S.wr x) ∨
   (r = 70 ∧ (S.ah ≠ 0 ∧ S.bd x = false ∧ (S.wk x = false → S'.bd x = false)) ∧ S'.up = false ∧ ((S'.pg x = S.pg x ∧ S'.wr x = S.wr x) ∨ (S'.pg x 0 = List.replicate G.L 255 ∧ S'.wr x 0 = fun _ => false))) ∨
   (r = 0 ∧ (S.wk x = false ∧ S.bd x = false) ∧ S'.up = true ∧ S'.bd x = false ∧ S'.nx x = 0 ∧ ∀ p, 0 ≤ p → p < G.p → S'.pg x p = List.replicate G.L 255 ∧ S'.wr x p = fun _ => false))
theorem erase_res (hx : 0 ≤ x ∧ x < G.b) (hu : S.up = true) : EraseRes G S x (S.eraseD G x).1 (S.eraseD G x).2 := by
  cases hb : S.bd x with
  | true => rw [eraseD_bad hu hx hb]; exact ⟨Apart.refl _ _, .inl ⟨rfl, hb, rfl⟩⟩
  | false =>
    have hE : S.eraseD G x = CS.after G (S.doErase G x) x := by unfold CS.eraseD; rw [use_of hu (inB0_of hx) rfl hb, if_neg (by simp)]
    obtain ⟨c1, c2, c3, c4, c5, c6, c7, c8, c9⟩ := counted_is S
    rw [hE]
    by_cases ha : S.ah = 1
    · have hd : S.doErase G x = (70, S.counted.wipe G.L x (keptN S.ke G.p.toNat)) := by
        unfold CS.doErase; rw [if_neg (by rw [hu]; simp), if_neg (by rw [inB0_of hx]; simp), if_pos ha]
      rw [hd, after_ok (by simp)]
      refine ⟨(apart_counted S x).trans (apart_wipe _ _ _ _), .inr (.inr (.inl ⟨rfl, ⟨by omega, hb, fun _ => by show S.counted.bd x = false; rw [c3]; exact hb⟩, c8 ha, ?_⟩))⟩
      rcases Nat.eq_zero_or_pos (keptN S.ke G.p.toNat) with h0 | h0
      · left
        simp only [h0, CS.wipe_zero]
        exact ⟨by rw [c1], by rw [c5]⟩
      · right
        constructor
        · show (if x = x ∧ (0 : Int) ≤ 0 ∧ (0 : Int) < (keptN S.ke G.p.toNat : Int) then List.replicate G.L 255 else _) = _
          rw [if_pos ⟨rfl, Int.le_refl _, by omega⟩]
        · show (if x = x ∧ (0 : Int) ≤ 0 ∧ (0 : Int) < (keptN S.ke G.p.toNat : Int) then (fun _ => false) else _) = _
          rw [if_pos ⟨rfl, Int.le_refl _, by omega⟩]
    · cases hw : S.wk x with
      | true =>
        have hd : S.doErase G x = (72, S.counted) := by
          unfold CS.doErase; rw [if_neg (by rw [hu]; simp), if_neg (by rw [inB0_of hx]; simp), if_neg ha, if_pos hw]
        have hcu : S.counted.up = true := (c7 ha).trans hu
        obtain ⟨d1, d2, d3, d4, d5, d6, d7, d8, _⟩ := counted_is S.counted
        rw [hd]
        by_cases hca : S.counted.ah = 1
        · have hm : S.counted.doMark G x = (70, if 0 < S.counted.ke then S.counted.counted.mark x else S.counted.counted) := by
            unfold CS.doMark; rw [if_neg (by rw [hcu]; simp), if_neg (by rw [inB0_of hx]; simp), if_pos hca]
          have hA : CS.after G (72, S.counted) x = (70, if 0 < S.counted.ke then S.counted.counted.mark x else S.counted.counted) := by
            unfold CS.after; rw [if_neg (by simp)]; simp only [hm]; rw [if_pos (by simp)]
          rw [hA]
          have hn0 : S.ah ≠ 0 := fun e => by have := c6 e; omega
          have hup : S.counted.counted.up = false := d8 hca
          split
          · refine ⟨((apart_counted S x).trans (apart_counted _ x)).trans (apart_mark _ x), .inr (.inr (.inl ⟨rfl, ⟨hn0, hb, fun e => by rw [hw] at e; cases e⟩, hup, .inl ⟨?_, ?_⟩⟩))⟩
            · show S.counted.counted.pg x = _; rw [d1, c1]
            · show S.counted.counted.wr x = _; rw [d5, c5]
          · exact ⟨(apart_counted S x).trans (apart_counted _ x), .inr (.inr (.inl ⟨rfl, ⟨hn0, hb, fun e => by rw [hw] at e; cases e⟩, hup, .inl ⟨by rw [d1, c1], by rw [d5, c5]⟩⟩))⟩
        · have hm : S.counted.doMark G x = (0, S.counted.counted.mark x) := by
            unfold CS.doMark; rw [if_neg (by rw [hcu]; simp), if_neg (by rw [inB0_of hx]; simp), if_neg hca]
          have hA : CS.after G (72, S.counted) x = (72, S.counted.counted.mark x) := by
            unfold CS.after; rw [if_neg (by simp)]; simp only [hm]; rw [if_neg (by simp)]
          rw [hA]
          refine ⟨((apart_counted S x).trans (apart_counted _ x)).trans (apart_mark _ x), .inr (.inl ⟨rfl, ⟨hw, hb⟩, (d7 hca).trans hcu, ?_, ?_, ?_⟩)⟩
          · show (if x = x then true else _) = true; rw [if_pos rfl]
          · show S.counted.counted.pg x = _; rw [d1, c1]
          · show S.counted.counted.wr x = _; rw [d5, c5]
      | false =>
        rw [erase_ok hu hx ha hw, after_ok (by simp)]
        refine ⟨((apart_counted S x).trans (apart_wipe _ _ _ _)).trans (apart_next0 _ x), .inr (.inr (.inr ⟨rfl, ⟨hw, hb⟩, (c7 ha).trans hu, ?_, ?_, fun p h0 h1 => ?_⟩))⟩
        · show S.counted.bd x = false; rw [c3]; exact hb
        · show (if x = x then (0 : Int) else _) = 0; rw [if_pos rfl]
        · have hp : x = x ∧ 0 ≤ p ∧ p < ((G.p.toNat : Nat) : Int) := ⟨rfl, h0, by omega⟩
          constructor
          · show (if x = x ∧ 0 ≤ p ∧ p < ((G.p.toNat : Nat) : Int) then List.replicate G.L 255 else _) = _; rw [if_pos hp]
          · show (if x = x ∧ 0 ≤ p ∧ p < ((G.p.toNat : Nat) : Int) then (fun _ => false) else _) = _; rw [if_pos hp]
theorem CInv.apart {K : Int → BK} {k : BK} (h : CInv G S K) (a : Apart S S' x) (hk : BIs G (S'.pg x) (S'.wr x) k) : CInv G S' (updK K x k) := by
  intro y h0 h1
  by_cases e : y = x
  · subst e; rw [updK_at]; exact hk
  · rw [updK_ne _ e, a.pg y e, a.wr y e]; exact h y h0 h1
theorem blank_pis (G : Geo) : PIs G (List.replicate G.L 255) (fun _ => false) none := by
  refine ⟨?_, fewW_none G⟩
  have := G.ok.L2
  rw [List.getElem?_replicate, if_pos (by omega)]
  simp
theorem turn_updK {bd bd' : Int → Bool} {K : Int → BK} {k : BK} (hbd : ∀ y, y ≠ x → bd' y = bd y) (hm : bd x = true → bd' x = true) (hk : bd' x = false → k = K x ∨ ∀ j D n, k ≠ .copy j D n) : Turn bd K bd' (updK K x k) x := by
  refine ⟨hbd, fun y e => updK_ne _ e, fun h => ?_, fun h => ?_⟩
  · cases hb : bd x
    · rfl
    · rw [hm hb] at h; cases h
  · rw [updK_at]; exact hk h
/-- What an erasure makes of what the blocks hold. -/
theorem EraseRes.inv {r : Int} {K : Int → BK} (h : EraseRes G S x r S') (hc : CInv G S K) (hx : 0 ≤ x ∧ x < G.b) :
    ∃ k, (CInv G S' (updK K x k) ∧ Turn S.bd K S'.bd (updK K x k) x) ∧ (k = K x ∨ k = .no) ∧ (r = 0 → k = .no) ∧ (r = 72 ∨ r = 73 → k = K x) := by
  obtain ⟨a, h⟩ := h
  have hold := hc x hx.1 hx.2
  have htn := fun k (hk : k = K x ∨ k = BK.no) => turn_updK (x := x) (K := K) (k := k) a.bd a.mark (fun _ => hk.imp id (fun e j D n => by rw [e]; simp))
  rcases h with ⟨rfl, _, rfl⟩ | ⟨rfl, _, _, _, e1, e2⟩ | ⟨rfl, _, _, ⟨e1, e2⟩ | ⟨e1, e2⟩⟩ | ⟨rfl, _, _, _, _, hp⟩
  · exact ⟨K x, ⟨hc.apart a hold, htn _ (.inl rfl)⟩, .inl rfl, fun e => by omega, fun _ => rfl⟩
  · exact ⟨K x, ⟨hc.apart a (by rw [e1, e2]; exact hold), htn _ (.inl rfl)⟩, .inl rfl, fun e => by omega, fun _ => rfl⟩
  · exact ⟨K x, ⟨hc.apart a (by rw [e1, e2]; exact hold), htn _ (.inl rfl)⟩, .inl rfl, fun e => by omega, fun _ => rfl⟩
  · exact ⟨.no, ⟨hc.apart a (by show PIs G (S'.pg x 0) (S'.wr x 0) none; rw [e1, e2]; exact blank_pis G), htn _ (.inr rfl)⟩, .inr rfl, fun _ => rfl, fun e => by omega⟩
  · have := hp 0 (Int.le_refl _) (by have := G.ok.hp; omega)
    exact ⟨.no, ⟨hc.apart a (by show PIs G (S'.pg x 0) (S'.wr x 0) none; rw [this.1, this.2]; exact blank_pis G), htn _ (.inr rfl)⟩, .inr rfl, fun _ => rfl, fun e => by omega⟩

/-- The block x is written page by page, ls so far. -/
structure Fil (G : Geo) (S : CS) (x : Int) (ls : List (List Int)) : Prop where
  up : S.up = true
  wk : S.wk x = false
  bd : S.bd x = false
  nx : S.nx x = (ls.length : Nat)
  pgs : ∀ i : Nat, i < ls.length → PIs G (S.pg x (i : Nat)) (S.wr x (i : Nat)) (some (ls[i]?.getD []))
  rest : ∀ p : Int, (ls.length : Nat) ≤ p → p < G.p → S.pg x p = List.replicate G.L 255
  wr : ∀ p : Int, 0 ≤ p → p < G.p → S.wr x p = fun _ => false
/-- The power went behind the pages ls. -/
structure Torn (G : Geo) (S : CS) (x : Int) (ls : List (List Int)) : Prop where
  up : S.up = false
  bd : S.bd x = false
  pgs : ∀ i : Nat, i < ls.length → PIs G (S.pg x (i : Nat)) (S.wr x (i : Nat)) (some (ls[i]?.getD []))
  next : (ls.length : Int) < G.p → PIs G (S.pg x (ls.length : Nat)) (S.wr x (ls.length : Nat)) none
theorem fil_zero (hx : 0 ≤ x ∧ x < G.b) (h : EraseRes G S x 0 S') : Fil G S' x [] := by
  obtain ⟨a, h⟩ := h
  rcases h with ⟨e, _⟩ | ⟨e, _⟩ | ⟨e, _⟩ | ⟨_, ⟨hw, _⟩, hu, hb, hn, hp⟩
  · omega
  · omega
  · omega
  · exact ⟨hu, by rw [a.wk]; exact hw, hb, hn, fun i hi => absurd hi (Nat.not_lt_zero i), fun p h0 h1 => (hp p h0 h1).1, fun p h0 h1 => (hp p h0 h1).2⟩
theorem torn_mark {G : Geo} {z : List Int} {k : Nat} (hl : z.length = G.L) (hk : k < G.L) : (padF G.L (z.take k))[G.L - 1]?.getD 0 ≠ 0 := by
  have e : (z.take k).length = k := by rw [List.length_take]; omega
  unfold padF
  rw [List.getElem?_append_right (by omega), e, List.getElem?_replicate, if_pos (by omega)]
  simp
/-- What writing the next page makes. -/
theorem write_res {ls : List (List Int)} {l z : List Int} (hx : 0 ≤ x ∧ x < G.b) (h : Fil G S x ls) (hlen : (ls.length : Int) < G.p) (hB : IsB l) (hR : l.length = G.R) (hz : IsPack G.s G.n G.f G.m G.W l z) :
    Apart S (CS.after G (S.doProgram G x (ls.length : Nat) z) x).2 x ∧
    (((CS.after G (S.doProgram G x (ls.length : Nat) z) x).1 = 0 ∧ Fil G (CS.after G (S.doProgram G x (ls.length : Nat) z) x).2 x (ls ++ [l])) ∨
     ((CS.after G (S.doProgram G x (ls.length : Nat) z) x).1 = 70 ∧ S.ah ≠ 0 ∧ ∃ ls', (ls' = ls ∨ ls' = ls ++ [l]) ∧ Torn G (CS.after G (S.doProgram G x (ls.length : Nat) z) x).2 x ls')) := by
  have hzl : z.length = G.L := by rw [hz.len]; exact G.ok.hL
  have hy : 0 ≤ ((ls.length : Nat) : Int) ∧ ((ls.length : Nat) : Int) < G.p := ⟨by omega, hlen⟩
  obtain ⟨c1, c2, c3, c4, c5, c6, c7, c8, c9⟩ := counted_is S
  have hat : ∀ (T : List Int) (q : Int), (S.counted.lay x (ls.length : Nat) T).pg x q = if q = (ls.length : Nat) then T else S.pg x q := by
    intro T q
    show (if x = x ∧ q = ((ls.length : Nat) : Int) then T else S.counted.pg x q) = _
    rw [c1]
    simp only [true_and]
  have hwr : ∀ (T : List Int) (q : Int), (S.counted.lay x (ls.length : Nat) T).wr x q = S.wr x q := fun T q => by show S.counted.wr x q = _; rw [c5]
  have hfew : ∀ (T : List Int) (q : Int), 0 ≤ q → q < G.p → FewW G ((S.counted.lay x (ls.length : Nat) T).wr x q) := fun T q h0 h1 => by rw [hwr, h.wr q h0 h1]; exact fewW_none G
  have hold : ∀ (T : List Int) (i : Nat), i < ls.length → PIs G ((S.counted.lay x (ls.length : Nat) T).pg x (i : Nat)) ((S.counted.lay x (ls.length : Nat) T).wr x (i : Nat)) (some (ls[i]?.getD [])) := fun T i hi => by
    rw [hat, if_neg (by omega), hwr]; exact h.pgs i hi
  have hnew : PIs G ((S.counted.lay x (ls.length : Nat) z).pg x (ls.length : Nat)) ((S.counted.lay x (ls.length : Nat) z).wr x (ls.length : Nat)) (some l) := by
    rw [hat, if_pos rfl]; exact ⟨⟨hB, hR, hz⟩, hfew z _ hy.1 hy.2⟩
  have hall : ∀ i : Nat, i < (ls ++ [l]).length → PIs G ((S.counted.lay x (ls.length : Nat) z).pg x (i : Nat)) ((S.counted.lay x (ls.length : Nat) z).wr x (i : Nat)) (some ((ls ++ [l])[i]?.getD [])) := fun i hi => by
    rw [List.length_append, List.length_singleton] at hi
    rcases Nat.lt_or_ge i ls.length with h1 | h1
    · rw [List.getElem?_append_left h1]; exact hold z i h1
    · obtain rfl : i = ls.length := by omega
      rw [List.getElem?_append_right (Nat.le_refl _), Nat.sub_self]
      exact hnew
  by_cases ha : S.ah = 1
  · rw [write_cut h.up hx hy h.nx.symm ha hzl]
    refine ⟨(apart_counted S x).trans (apart_lay _ _ _ _), .inr ⟨rfl, by omega, ?_⟩⟩
    have hbd : ∀ T, (S.counted.lay x (ls.length : Nat) T).bd x = false := fun T => by show S.counted.bd x = false; rw [c3]; exact h.bd
    rcases Nat.lt_or_ge (keptN S.ke z.length) G.L with hk | hk
    · refine ⟨ls, .inl rfl, c8 ha, hbd _, hold _, fun _ => ?_⟩
      rw [hat, if_pos rfl]
      exact ⟨torn_mark hzl hk, hfew _ _ hy.1 hy.2⟩
    · have e : padF G.L (z.take (keptN S.ke z.length)) = z := by rw [List.take_of_length_le (by omega), padF_full hzl]
      rw [e]
      refine ⟨ls ++ [l], .inr rfl, c8 ha, hbd _, hall, fun hn => ?_⟩
      rw [List.length_append, List.length_singleton] at hn ⊢
      rw [hat, if_neg (by omega), h.rest _ (by omega) (by omega), hwr, h.wr _ (by omega) (by omega)]
      exact blank_pis G
  · rw [program_ok h.up (fitsP_of hx hy hzl) h.nx.symm ha h.wk, after_ok (by simp)]
    refine ⟨(apart_counted S x).trans (apart_lay _ _ _ _), .inl ⟨rfl, (c7 ha).trans h.up, ?_, ?_, ?_, hall, fun p h0 h1 => ?_, fun p h0 h1 => ?_⟩⟩
    · show S.counted.wk x = false; rw [c4]; exact h.wk
    · show S.counted.bd x = false; rw [c3]; exact h.bd
    · show (if x = x then max (S.counted.nx x) (((ls.length : Nat) : Int) + 1) else _) = _
      rw [if_pos rfl, c2, h.nx, List.length_append, List.length_singleton]
      omega
    · rw [List.length_append, List.length_singleton] at h0
      rw [hat, if_neg (by omega)]
      exact h.rest p (by omega) h1
    · rw [hwr]; exact h.wr p h0 h1
/-- All pages of a logical block's bytes. -/
def fullP (R : Nat) (j : Int) (D : List Int) (n : Int) : List (List Int) := pageOf R j (D.length : Nat) n :: (List.range (pagesOf R D.length)).map (chunkZ R D)
theorem fullP_len (R : Nat) (j : Int) (D : List Int) (n : Int) : (fullP R j D n).length = 1 + pagesOf R D.length := by unfold fullP; simp; omega
theorem fullP_zero (R : Nat) (j : Int) (D : List Int) (n : Int) : (fullP R j D n)[0]?.getD [] = pageOf R j (D.length : Nat) n := rfl
theorem fullP_succ (R : Nat) (j : Int) (D : List Int) (n : Int) (i : Nat) (h : i < pagesOf R D.length) : (fullP R j D n)[1 + i]?.getD [] = chunkZ R D i := by
  unfold fullP
  rw [Nat.add_comm, List.getElem?_cons_succ, List.getElem?_map, List.getElem?_range h]
  rfl
theorem take_getD {ls : List (List Int)} {m i : Nat} (h : i < m) : (ls.take m)[i]?.getD [] = ls[i]?.getD [] := by rw [List.getElem?_take, if_pos h]
theorem fil_copy {j n : Int} {D : List Int} (h : Fil G S x (fullP G.R j D n)) (hm : mayH G.C j (D.length : Nat) n = true) (hB : IsB D) : BIs G (S.pg x) (S.wr x) (.copy j D n) := by
  have hl := fullP_len G.R j D n
  refine ⟨⟨hm, hB, ?_⟩, fun i hi => ?_⟩
  · have := h.pgs 0 (by omega); rwa [fullP_zero] at this
  · have := h.pgs (1 + i) (by omega); rwa [fullP_succ _ _ _ _ _ hi] at this
theorem torn_is {j n : Int} {D : List Int} {m : Nat} (hm : m ≤ (fullP G.R j D n).length) (h : Torn G S x ((fullP G.R j D n).take m)) (hmay : mayH G.C j (D.length : Nat) n = true) (hB : IsB D) :
    ∃ k, BIs G (S.pg x) (S.wr x) k ∧ (k = .no ∨ k = .part j (D.length : Nat) n ∨ k = .copy j D n) := by
  have hl := fullP_len G.R j D n
  have hmy := mayH_yes hmay
  have hpg := may_pages (G := G) (n := D.length) (by omega)
  have hp := G.ok.hp
  have htl : ((fullP G.R j D n).take m).length = m := by rw [List.length_take]; omega
  have hpgs := h.pgs
  have hnx := h.next
  rw [htl] at hpgs hnx
  have hat : ∀ i, i < m → PIs G (S.pg x (i : Nat)) (S.wr x (i : Nat)) (some ((fullP G.R j D n)[i]?.getD [])) := fun i hi => by have := hpgs i hi; rwa [take_getD hi] at this
  rcases Nat.eq_zero_or_pos m with h0 | h0
  · subst h0
    exact ⟨.no, hnx (by omega), .inl rfl⟩
  · have hd := hat 0 h0
    rw [fullP_zero] at hd
    rcases Nat.lt_or_ge m (fullP G.R j D n).length with h1 | h1
    · refine ⟨.part j (D.length : Nat) n, ⟨⟨hmay, hd⟩, m - 1, ?_, ?_⟩, .inr (.inl rfl)⟩
      · rw [show ((D.length : Nat) : Int).toNat = D.length by omega]; omega
      · rw [show 1 + (m - 1) = m by omega]; exact hnx (by omega)
    · refine ⟨.copy j D n, ⟨⟨hmay, hB, hd⟩, fun i hi => ?_⟩, .inr (.inr rfl)⟩
      have := hat (1 + i) (by omega)
      rwa [fullP_succ _ _ _ _ _ hi] at this
end
end Go.Proofs.YtgamakejaknagaaGreat

/-
  The code of layer 11 (store), as it landed: a store in memory (SBox, StAt); slices.Contains, ready, tell, Lebs, Cap, Has, spare, Open.
-/
namespace Go.Proofs.YtgamakejaknagaaGreat
open Go.RowKit Go.Maps
set_option linter.unusedVariables false
set_option maxRecDepth 8192

/-- A store lies in the block s: its drive in d, which blocks stand in the block g. -/
structure SBox (w : World) (s d g : Nat) (st : List Int) (nu : Int) (dn : Bool) : Prop where
  box : w.heap[s]? = some (.cells #[.pointer (some ⟨d, 0, none⟩), .slice (some ⟨g, 0, none⟩) st.length st.length, .int .i64 nu, .bool dn] 62 (0, 0))
  row : w.heap[g]? = some (.cells (st.map (Value.int .i64)).toArray 3 (0, 0))
  ne : s ≠ g
  len : 1 ≤ st.length ∧ st.length ≤ 64
section
variable {w w' : World} {s d g : Nat} {st : List Int} {nu : Int} {dn : Bool}
theorem SBox.same (h : SBox w s d g st nu dn) (hs : w'.heap[s]? = w.heap[s]?) (hg : w'.heap[g]? = w.heap[g]?) : SBox w' s d g st nu dn := ⟨hs.trans h.box, hg.trans h.row, h.ne, h.len⟩
theorem SBox.slt (h : SBox w s d g st nu dn) : s < w.heap.size := (Array.getElem?_eq_some_iff.1 h.box).1
theorem SBox.glt (h : SBox w s d g st nu dn) : g < w.heap.size := (Array.getElem?_eq_some_iff.1 h.row).1
theorem SBox.below (h : SBox w s d g st nu dn) {B : Nat} (q : Below B w w') (hB : w.heap.size ≤ B) : SBox w' s d g st nu dn := h.same (q.block s (by have := h.slt; omega)) (q.block g (by have := h.glt; omega))
theorem SBox.turned {F : Nat → Prop} (h : SBox w s d g st nu dn) (t : Turned F w w') (hs : ¬ F s) (hg : ¬ F g) : SBox w' s d g st nu dn := h.same (t.block s h.slt hs) (t.block g h.glt hg)
theorem SBox.c0 (h : SBox w s d g st nu dn) : w.cell? ⟨s, 0, none⟩ = some (.pointer (some ⟨d, 0, none⟩)) := by simp [World.cell?, h.box]
theorem SBox.c1 (h : SBox w s d g st nu dn) : w.cell? ⟨s, 1, none⟩ = some (.slice (some ⟨g, 0, none⟩) st.length st.length) := by simp [World.cell?, h.box]
theorem SBox.c2 (h : SBox w s d g st nu dn) : w.cell? ⟨s, 2, none⟩ = some (.int .i64 nu) := by simp [World.cell?, h.box]
theorem SBox.c3 (h : SBox w s d g st nu dn) : w.cell? ⟨s, 3, none⟩ = some (.bool dn) := by simp [World.cell?, h.box]
theorem SBox.soft (h : SBox w s d g st nu dn) (i : Nat) : w.frozen? ⟨s, i, none⟩ = false := by simp [World.frozen?, h.box]
theorem SBox.softg (h : SBox w s d g st nu dn) (i : Nat) : w.frozen? ⟨g, i, none⟩ = false := by simp [World.frozen?, h.row]
theorem SBox.at (h : SBox w s d g st nu dn) (i : Nat) (hi : i < st.length) : w.cell? ⟨g, i, none⟩ = some (.int .i64 (st[i]?.getD 0)) := by simp [World.cell?, h.row, hi]
theorem SBox.ints (h : SBox w s d g st nu dn) : Row .i64 w (some ⟨g, 0, none⟩) st.length st.length st := by
  have hl := h.len
  refine ⟨rfl, Nat.le_refl _, by unfold maxLen; omega, fun e => (by cases e), fun _ => ⟨g, 0, rfl, h.glt, fun i hi => ?_⟩⟩
  rw [Nat.zero_add]; exact h.at i hi
theorem SBox.setNum (h : SBox w s d g st nu dn) (v : Int) : SBox (w.setCell ⟨s, 2, none⟩ (.int .i64 v)) s d g st v dn := by
  refine ⟨?_, (Below.heap_setCell w ⟨s, 2, none⟩ _ g (Ne.symm h.ne)).trans h.row, h.ne, h.len⟩
  have := block_setC (i := 2) h.box (.int .i64 v)
  simpa using this
theorem SBox.setDown (h : SBox w s d g st nu dn) (v : Bool) : SBox (w.setCell ⟨s, 3, none⟩ (.bool v)) s d g st nu v := by
  refine ⟨?_, (Below.heap_setCell w ⟨s, 3, none⟩ _ g (Ne.symm h.ne)).trans h.row, h.ne, h.len⟩
  have := block_setC (i := 3) h.box (.bool v)
  simpa using this
theorem SBox.setAt (h : SBox w s d g st nu dn) (i : Nat) (v : Int) : SBox (w.setCell ⟨g, i, none⟩ (.int .i64 v)) s d g (st.set i v) nu dn := by
  refine ⟨?_, ?_, h.ne, by rw [List.length_set]; exact h.len⟩
  · rw [List.length_set]; exact (Below.heap_setCell w ⟨g, i, none⟩ _ s h.ne).trans h.box
  · have := block_setC (i := i) h.row (.int .i64 v)
    rw [List.map_set]
    simpa using this
end

/-- A store, its drive and its chip. -/
structure StAt (G : Geo) (B : CB) (F : Nat → Prop) (N : Nat) (S : CS) (d s g : Nat) (st : List Int) (nu : Int) (dn : Bool) (w : World) : Prop where
  chip : ChipAt G B F N S w
  db : DBox w d B.c
  sb : SBox w s d g st nu dn
  fd : ¬ F d
  fs : ¬ F s
  fg : ¬ F g
  sd : s ≠ d
  gd : g ≠ d
/-- What a store's calls may turn. -/
def SetF (F : Nat → Prop) (s g : Nat) : Nat → Prop := fun x => F x ∨ x = s ∨ x = g
/-- What a call of a store turned: its chip, its own blocks; what is new of the chip is new. -/
structure SDoes (F : Nat → Prop) (s g : Nat) (w : World) (F' : Nat → Prop) (w' : World) : Prop where
  tn : Turned (SetF F s g) w w'
  nw : ∀ x, F' x → F x ∨ w.heap.size ≤ x
section
variable {G : Geo} {B : CB} {F F' F'' : Nat → Prop} {N N' : Nat} {S S' : CS} {d s g : Nat} {st : List Int} {nu : Int} {dn : Bool} {w w' w'' : World}
theorem SDoes.refl (F : Nat → Prop) (s g : Nat) (w : World) : SDoes F s g w F w := ⟨Turned.refl _ _, fun _ h => .inl h⟩
theorem SDoes.trans (h : SDoes F s g w F' w') (k : SDoes F' s g w' F'' w'') : SDoes F s g w F'' w'' := by
  refine ⟨h.tn.andThen k.tn (fun i hi => ?_), fun x hx => ?_⟩
  · rcases hi with hi | hi
    · exact (h.nw i hi).imp .inl id
    · exact .inl (.inr hi)
  · rcases k.nw x hx with h1 | h1
    · exact h.nw x h1
    · exact .inr (Nat.le_trans h.tn.size h1)
theorem SDoes.of_below (q : Below w.heap.size w w') : SDoes F s g w F w' := ⟨Turned.of_below _ q, fun _ h => .inl h⟩
theorem SDoes.of_turned (t : Turned F w w') (f : ∀ x, F' x → F x ∨ w.heap.size ≤ x) : SDoes F s g w F' w' := ⟨t.mono (fun _ _ h => .inl h), f⟩
theorem SDoes.below {W : World} (h : SDoes F s g w F' w') (hW : Below W.heap.size W w) (hF : ∀ x, F x → W.heap.size ≤ x) (hs : W.heap.size ≤ s) (hg : W.heap.size ≤ g) : Below W.heap.size W w' ∧ ∀ x, F' x → W.heap.size ≤ x := by
  refine ⟨hW.trans (h.tn.below hW.size (fun k hk => ?_)), fun x hx => ?_⟩
  · rcases hk with hk | rfl | rfl
    · exact hF k hk
    · exact hs
    · exact hg
  · rcases h.nw x hx with h1 | h1
    · exact hF x h1
    · exact Nat.le_trans hW.size h1
theorem StAt.below (h : StAt G B F N S d s g st nu dn w) (q : Below w.heap.size w w') : StAt G B F N S d s g st nu dn w' :=
  ⟨h.chip.below q, h.db.below q (Nat.le_refl _), h.sb.below q (Nat.le_refl _), h.fd, h.fs, h.fg, h.sd, h.gd⟩
theorem StAt.drew (h : StAt G B F N S d s g st nu dn w) : StAt G B F N S d s g st nu dn w.drew := h.below ((Below.refl _ _).drew)
theorem StAt.mono (h : StAt G B F N S d s g st nu dn w) (hN : N ≤ N') : StAt G B F N' S d s g st nu dn w :=
  ⟨h.chip.mono hN, h.db, h.sb, h.fd, h.fs, h.fg, h.sd, h.gd⟩
theorem StAt.does (h : StAt G B F N S d s g st nu dn w) (dd : Does G B F N' w S' w') : ∃ F', StAt G B F' N' S' d s g st nu dn w' ∧ SDoes F s g w F' w' ∧ Turned F w w' := by
  obtain ⟨F', h1, t, f⟩ := dd
  have hn : ∀ x, x < w.heap.size → ¬ F x → ¬ F' x := fun x hx hf hf' => (f x hf').elim hf (fun e => by omega)
  exact ⟨F', ⟨h1, h.db.turned t h.fd, h.sb.turned t h.fs h.fg, hn d h.db.lt h.fd, hn s h.sb.slt h.fs, hn g h.sb.glt h.fg, h.sd, h.gd⟩, SDoes.of_turned t f, t⟩
theorem StAt.chipTo (h : StAt G B F N S d s g st nu dn w) (hc : ChipAt G B F N' S' w') (t : Turned F w w') : StAt G B F N' S' d s g st nu dn w' ∧ SDoes F s g w F w' :=
  ⟨⟨hc, h.db.turned t h.fd, h.sb.turned t h.fs h.fg, h.fd, h.fs, h.fg, h.sd, h.gd⟩, SDoes.of_turned t (fun _ h => .inl h)⟩
/-- A store into one of its own blocks. -/
theorem StAt.setCell (h : StAt G B F N S d s g st nu dn w) {p : Addr} (hp : p.block = s ∨ p.block = g) (v : Value) {st' : List Int} {nu' : Int} {dn' : Bool} (hb : SBox (w.setCell p v) s d g st' nu' dn') :
    StAt G B F N S d s g st' nu' dn' (w.setCell p v) ∧ SDoes F s g w F (w.setCell p v) := by
  have t : Turned (fun x => x = s ∨ x = g) w (w.setCell p v) := (Turned.refl _ _).setCell (.inl hp) v
  refine ⟨⟨h.chip.turned t (fun x hx e => ?_), h.db.turned t (fun e => ?_), hb, h.fd, h.fs, h.fg, h.sd, h.gd⟩, t.mono (fun _ _ e => .inr e), fun _ h => .inl h⟩
  · rcases e with rfl | rfl
    · exact h.fs hx
    · exact h.fg hx
  · rcases e with e | e
    · exact h.sd e.symm
    · exact h.gd e.symm
theorem StAt.setNum (h : StAt G B F N S d s g st nu dn w) (v : Int) : StAt G B F N S d s g st v dn (w.setCell ⟨s, 2, none⟩ (.int .i64 v)) ∧ SDoes F s g w F (w.setCell ⟨s, 2, none⟩ (.int .i64 v)) := h.setCell (.inl rfl) _ (h.sb.setNum v)
theorem StAt.setDown (h : StAt G B F N S d s g st nu dn w) (v : Bool) : StAt G B F N S d s g st nu v (w.setCell ⟨s, 3, none⟩ (.bool v)) ∧ SDoes F s g w F (w.setCell ⟨s, 3, none⟩ (.bool v)) := h.setCell (.inl rfl) _ (h.sb.setDown v)
theorem StAt.setAt (h : StAt G B F N S d s g st nu dn w) (i : Nat) (v : Int) : StAt G B F N S d s g (st.set i v) nu dn (w.setCell ⟨g, i, none⟩ (.int .i64 v)) ∧ SDoes F s g w F (w.setCell ⟨g, i, none⟩ (.int .i64 v)) := h.setCell (.inr rfl) _ (h.sb.setAt i v)
/-- A row that lies in none of them. -/
structure OffS (F : Nat → Prop) (s g : Nat) (k : IntKind) (w : World) (a : Option Addr) (len cap : Nat) (z : List Int) : Prop where
  row : Row k w a len cap z
  off : 0 < len → ∀ x, a = some x → ¬ SetF F s g x.block
theorem OffS.step {k : IntKind} {a : Option Addr} {len cap : Nat} {z : List Int} (h : OffS F s g k w a len cap z) (q : SDoes F s g w F' w') : OffS F' s g k w' a len cap z := by
  refine ⟨⟨h.row.hlen, h.row.hcap, h.row.hmax, h.row.hnil, fun h0 => ?_⟩, fun h0 x hx hf => ?_⟩
  · obtain ⟨b, off, rfl, hb, hc⟩ := h.row.hcell h0
    refine ⟨b, off, rfl, Nat.lt_of_lt_of_le hb q.tn.size, fun i hi => ?_⟩
    rw [q.tn.cell (p := ⟨b, off + i, none⟩) hb (h.off h0 ⟨b, off, none⟩ rfl)]
    exact hc i hi
  · rcases hf with hf | hf
    · rcases q.nw _ hf with h1 | h1
      · exact h.off h0 x hx (.inl h1)
      · have := h.row.blk_lt h0 x hx; omega
    · exact h.off h0 x hx (.inr hf)
theorem OffS.chip {k : IntKind} {a : Option Addr} {len cap : Nat} {z : List Int} (h : OffS F s g k w a len cap z) : Off F k w a len cap z := ⟨h.row, fun h0 x hx hf => h.off h0 x hx (.inl hf)⟩
end

theorem indexI_any (a : Option Addr) (len cap : Nat) (zs : List Int) (x : Int) (w : World) (hr : Row .i64 w a len cap zs) (hlen : len ≤ 100000) :
    Calls Tryz.prog 93 #[.slice a len cap, .int .i64 x] w fun e w' => (∃ i : Int, e = .returned (.int .i64 i) ∧ (0 ≤ i ↔ x ∈ zs)) ∧ w = w' := by
  have hl := hr.hlen
  have HL : Hid (zs.length = len) := hl
  clear hl
  go_enter Tryz.func93, Tryz.ntmps93
  go_wp2
  go_loop [8] (fun i => ∃ k : Nat, k ≤ len ∧ i = .int .i64 (k : Int) ∧ Hid (x ∉ zs.take k)) (fun i => len - (RowKit.intOf i).toNat)
  case atStart => exact ⟨0, Nat.zero_le _, rfl, by show _ ∉ _; simp⟩
  case round =>
    obtain ⟨k, hk, rfl, HN⟩ := hrel
    by_cases hlt : k < len
    · have hlt' : (k : Int) < (len : Int) := by omega
      obtain ⟨b, off, rfl, _, hcell⟩ := hr.hcell (by omega)
      have hc := hcell k hlt
      have HM : Hid (zs[k]?.getD 0 ∈ zs) := mem_getD zs k (by have := HL.out; omega)
      have HT : Hid (zs.take (k + 1) = zs.take k ++ [zs[k]?.getD 0]) := take_snocB zs k (by have := HL.out; omega)
      clear hcell
      generalize zs[k]?.getD 0 = y at *
      by_cases hxy : x = y
      · subst hxy
        go_wp2
        go_ret
        exact ⟨⟨k, rfl, ⟨fun _ => HM.out, fun _ => by omega⟩⟩, rfl⟩
      · have hne : (x == y) = false := by simp [hxy]
        have HN2 : Hid (x ∉ zs.take (k + 1)) := by show _ ∉ _; rw [HT.out]; simp [HN.out, hxy]
        clear hxy
        go_wp2
        go_round
        case rel => exact ⟨k + 1, by omega, by go_num, HN2⟩
        case measure => simp [RowKit.intOf]; omega
    · obtain rfl : k = len := by omega
      have HN2 : Hid (x ∉ zs) := by have := HN.out; rw [List.take_of_length_le (by have := HL.out; omega)] at this; exact this
      go_wp2
      go_ret
      exact ⟨⟨-1, rfl, ⟨fun h => by omega, fun h => absurd h HN2.out⟩⟩, rfl⟩
theorem contI_any (a : Option Addr) (len cap : Nat) (zs : List Int) (x : Int) (w : World) (hr : Row .i64 w a len cap zs) (hlen : len ≤ 100000) :
    Calls Tryz.prog 60 #[.slice a len cap, .int .i64 x] w fun e w' => e = .returned (.bool (decide (x ∈ zs))) ∧ w = w' := by
  go_enter Tryz.func60, Tryz.ntmps60
  go_wp2_with fail
  refine (indexI_any a len cap zs x w hr hlen).mono ?_
  rintro e w1 ⟨⟨i, rfl, hi⟩, rfl⟩
  have HI : Hid (0 ≤ i ↔ x ∈ zs) := hi
  clear hi
  go_wp2_with fail
  go_ret
  exact ⟨ret_bool (by rw [decide_eq_decide]; exact HI.out), rfl⟩

/-- What keeps a call from a logical block. -/
def rdyS (dn : Bool) (L : Nat) (j : Int) : Int := if dn = true then 70 else if 0 ≤ j ∧ j < (L : Int) then 0 else 1
theorem rdyS_in {L : Nat} {j : Int} (h : 0 ≤ j ∧ j < (L : Int)) : rdyS false L j = 0 := by unfold rdyS; rw [if_neg (by simp), if_pos h]
section
variable {G : Geo} {B : CB} {F : Nat → Prop} {N : Nat} {S : CS} {d s g : Nat} {st : List Int} {nu : Int} {dn : Bool}
theorem stReady_nil (j : Int) (w : World) : Calls Tryz.prog 28 #[.pointer none, .int .i64 j] w fun e w' => e = .returned (.int .i64 3) ∧ w = w' := by
  go_enter Tryz.func28, Tryz.ntmps28
  go_wp2
  go_ret
  exact ⟨rfl, rfl⟩
theorem stReady_any (j : Int) (w : World) (h : SBox w s d g st nu dn) : Calls Tryz.prog 28 #[.pointer (some ⟨s, 0, none⟩), .int .i64 j] w fun e w' => e = .returned (.int .i64 (rdyS dn st.length j)) ∧ w = w' := by
  have c1 := h.c1
  have c3 := h.c3
  have hl := h.len
  have HR : Hid (∀ r, r = rdyS dn st.length j → r = rdyS dn st.length j) := fun _ h => h
  have HE : Hid (rdyS dn st.length j = if dn = true then 70 else if 0 ≤ j ∧ j < (st.length : Int) then 0 else 1) := rfl
  clear h
  generalize st.length = L at *
  cases dn
  · by_cases h0 : j < 0
    · have e : rdyS false L j = 1 := by rw [HE.out, if_neg (by simp), if_neg (by omega)]
      rw [e]
      go_enter Tryz.func28, Tryz.ntmps28
      go_wp2
      go_ret
      exact ⟨rfl, rfl⟩
    · by_cases h1 : (L : Int) ≤ j
      · have e : rdyS false L j = 1 := by rw [HE.out, if_neg (by simp), if_neg (by omega)]
        rw [e]
        go_enter Tryz.func28, Tryz.ntmps28
        go_wp2
        go_ret
        exact ⟨rfl, rfl⟩
      · have e : rdyS false L j = 0 := by rw [HE.out, if_neg (by simp), if_pos (by omega)]
        rw [e]
        go_enter Tryz.func28, Tryz.ntmps28
        go_wp2
        go_ret
        exact ⟨rfl, rfl⟩
  · have e : rdyS true L j = 70 := by rw [HE.out, if_pos rfl]
    rw [e]
    go_enter Tryz.func28, Tryz.ntmps28
    go_wp2
    go_ret
    exact ⟨rfl, rfl⟩
theorem stTell_no (r : Int) (hr : r ≠ 70) (w : World) : Calls Tryz.prog 30 #[.pointer (some ⟨s, 0, none⟩), .int .i64 r] w fun e w' => e = .returned (.int .i64 r) ∧ w = w' := by
  have hr' : (r == 70) = false := by simp [hr]
  go_enter Tryz.func30, Tryz.ntmps30
  go_wp2
  go_ret
  exact ⟨rfl, rfl⟩
theorem stTell_yes (w : World) (h : StAt G B F N S d s g st nu dn w) : Calls Tryz.prog 30 #[.pointer (some ⟨s, 0, none⟩), .int .i64 70] w fun e w' => e = .returned (.int .i64 70) ∧ StAt G B F N S d s g st nu true w' ∧ SDoes F s g w F w' := by
  have c3 := h.sb.c3
  have hf := h.sb.soft 3
  have HD : Hid _ := h.setDown true
  clear h
  go_enter Tryz.func30, Tryz.ntmps30
  go_wp2
  go_ret
  exact ⟨rfl, HD.out⟩
theorem stLebs_any (w : World) (h : SBox w s d g st nu dn) : Calls Tryz.prog 31 #[.pointer (some ⟨s, 0, none⟩)] w fun e w' => e = .returned (.int .i64 (st.length : Int)) ∧ w = w' := by
  have c1 := h.c1
  have hl := h.len
  clear h
  generalize st.length = L at *
  go_enter Tryz.func31, Tryz.ntmps31
  go_wp2
  go_ret
  exact ⟨rfl, rfl⟩
theorem stCap_any (w : World) (h : StAt G B F N S d s g st nu dn w) : Calls Tryz.prog 42 #[.pointer (some ⟨s, 0, none⟩)] w fun e w' => e = .returned (.int .i64 (G.C : Int)) ∧ Below w.heap.size w w' := by
  have c0 := h.sb.c0
  have hgm := drvGeometry_any w h.db h.chip.cell h.chip.lt
  have hcp := fun w1 => hCap_yes G.gmay w1
  generalize G.C = C at *
  clear h
  go_enter Tryz.func42, Tryz.ntmps42
  go_wp2_with fail
  refine hgm.mono ?_
  rintro e w1 ⟨rfl, q1⟩
  clear hgm
  go_wp2_with fail
  refine (hcp _).mono ?_
  rintro e w2 ⟨rfl, q2⟩
  clear hcp
  go_wp2_with fail
  go_ret
  exact ⟨rfl, btrans q1 q2⟩
theorem spare_any (w : World) : Calls Tryz.prog 43 #[.pointer (some ⟨s, 0, none⟩)] w fun e w' => e = .returned (.func (.func 68) #[] #[.pointer (some ⟨w.heap.size, 0, none⟩)]) ∧ w' = w.alloc (.cells #[.pointer (some ⟨s, 0, none⟩)] 29) := by
  go_enter Tryz.func43, Tryz.ntmps43
  go_wp2_with fail
  go_ret
  exact ⟨rfl, rfl⟩
theorem frow_nil (w : World) : FRow w none 0 0 [] := ⟨rfl, Nat.le_refl _, Nat.zero_le _, fun _ => rfl, fun h => absurd h (by omega)⟩
set_option maxHeartbeats 800000 in
theorem open_yes (L : Nat) (h1 : 1 ≤ L) (hL : L ≤ 64) (w : World) (db : DBox w d B.c) (h : ChipAt G B F N S w) (hd : ¬ F d) (hup : S.up = true) (K : Int → BK) (hK : CInv G S K) :
    Calls Tryz.prog 20 #[.pointer (some ⟨d, 0, none⟩), .int .i64 (L : Int)] w fun e w' => ∃ s g, (w.heap.size ≤ s ∧ w.heap.size ≤ g) ∧ e = .returned (.tuple #[.pointer (some ⟨s, 0, none⟩), .int .i64 0]) ∧ StAt G B F N S d s g (pickL L (fndL G S K)) (nextL (fndL G S K)) false w' ∧ Below w.heap.size w w' := by
  have hp := attPick_yes L h1 hL none 0 0 [] w (frow_nil w) (by omega) (fun f hf => absurd hf (by simp))
  have hlen := fndL_len G S K
  have hnum := fndL_num hK hup
  have hpl := pickL_length L (fndL G S K)
  have hscan := fun w1 (q1 : Below w.heap.size w w1) => scan_yes w1 (db.below q1 (Nat.le_refl _)) (h.below q1) hup (fun x => foundOf x (K x)) (fun x hx o' ho => by
    obtain ⟨i, rfl, hi, _, hb⟩ := goodTo_mem hx
    exact look_is ⟨by omega, by omega⟩ hup hb (hK i (by omega) (by omega)) ho)
  have HD : Hid (DBox w d B.c) := db
  have HC : Hid (ChipAt G B F N S w) := h
  have hdl := db.lt
  have hfr : Hid (∀ x, F x → x < w.heap.size) := h.fresh
  clear db h hK
  change ∀ w1, Below w.heap.size w w1 → Calls Tryz.prog 35 #[.pointer (some ⟨d, 0, none⟩)] w1 fun e w' => ∃ v, e = .returned (.tuple #[v, .int .i64 0]) ∧ w'.ownsRow w1.heap.size 103 5 v (fndL G S K).length (fcells (fndL G S K)) ∧ Below w1.heap.size w1 w' at hscan
  generalize fndL G S K = fs at *
  go_enter Tryz.func20, Tryz.ntmps20
  go_wp2_with fail
  refine hp.mono ?_
  rintro e w1 ⟨g0, rfl, _, q1⟩
  clear hp
  go_wp2_with fail
  refine (hscan w1 q1).mono ?_
  rintro e w2 ⟨v, rfl, own, q2⟩
  obtain ⟨a, cap, rfl, fr⟩ := frow_of_owns own
  clear own hscan
  have hn := attPick_own L h1 hL a fs.length cap fs w2 fr (by omega) hnum
  have q3 := btrans q1 q2
  clear fr q1 q2 hnum
  generalize fs.length = n at *
  go_wp2_with fail
  refine hn.mono ?_
  rintro e w3 ⟨g, rfl, _, own, q4⟩
  clear hn
  have hg : w2.heap.size ≤ g := (owns_lt own rfl).1
  have hrow := heap_of_owns own
  have hglt : g < w3.heap.size := (owns_lt own rfl).2
  have HQ : Hid (Below w.heap.size w w3) := btrans q3 q4
  have HS2 := q3.size
  have HS3 := q4.size
  clear own q3 q4
  have q5 := below_one w3 (.cells #[.pointer (some ⟨d, 0, none⟩), .slice (some ⟨g, 0, none⟩) L L, .int .i64 (nextL fs), .bool false] 62)
  have hsb : SBox (w3.alloc (.cells #[.pointer (some ⟨d, 0, none⟩), .slice (some ⟨g, 0, none⟩) L L, .int .i64 (nextL fs), .bool false] 62)) w3.heap.size d g (pickL L fs) (nextL fs) false := by
    refine ⟨?_, (q5.block g hglt).trans hrow, by omega, by rw [hpl]; omega⟩
    rw [hpl]
    exact (MapKept.heap_alloc w3 _).1
  have HF : Hid (StAt G B F N S d w3.heap.size g (pickL L fs) (nextL fs) false (w3.alloc (.cells #[.pointer (some ⟨d, 0, none⟩), .slice (some ⟨g, 0, none⟩) L L, .int .i64 (nextL fs), .bool false] 62))) := by
    refine ⟨(HC.out.below HQ.out).below q5, (HD.out.below HQ.out (Nat.le_refl _)).below q5 (Nat.le_refl _), hsb, hd, fun hf => ?_, fun hf => ?_, ?_, ?_⟩
    · have := hfr.out _ hf; omega
    · have := hfr.out _ hf; omega
    · omega
    · omega
  have HQ5 : Hid (Below w.heap.size w (w3.alloc (.cells #[.pointer (some ⟨d, 0, none⟩), .slice (some ⟨g, 0, none⟩) L L, .int .i64 (nextL fs), .bool false] 62))) := btrans HQ.out q5
  clear hsb q5 hrow HQ
  go_wp2_with fail
  go_ret2
  exact ⟨_, g, ⟨by omega, by omega⟩, rfl, HF.out, HQ5.out⟩
end
end Go.Proofs.YtgamakejaknagaaGreat

/-
  The code of layer 11 (store), as it landed: bytes, Read.
-/
namespace Go.Proofs.YtgamakejaknagaaGreat
open Go.RowKit Go.Maps
set_option linter.unusedVariables false
set_option maxRecDepth 8192

section
variable {G : Geo} {B : CB} {F : Nat → Prop} {N : Nat} {S : CS} {d s g : Nat} {st : List Int} {nu : Int} {dn : Bool}
set_option maxHeartbeats 3200000 in
theorem bytes_any (x : Int) (hx : 0 ≤ x ∧ x < G.b) (j : Int) (D : List Int) (nn : Int) (w : World) (h : StAt G B F N S d s g st nu dn w) (hup : S.up = true) (hbd : S.bd x = false) (hk : BIs G (S.pg x) (S.wr x) (.copy j D nn)) :
    Calls Tryz.prog 29 #[.pointer (some ⟨s, 0, none⟩), .int .i64 x] w fun e w' => ∃ a cap, ∃ k : Nat, ((0 < D.length → ∀ q : Addr, a = some q → w.heap.size ≤ q.block) ∧ k = mostW G (S.wr x) (pagesOf G.R D.length)) ∧ e = .returned (.tuple #[.slice a D.length cap, .int .i64 (k : Nat), .int .i64 0]) ∧ Row .u8 w' a D.length cap D ∧ Below w.heap.size w w' := by
  obtain ⟨⟨hm, hDB, h0⟩, hpg⟩ := hk
  obtain ⟨kk, hkk⟩ : ∃ kk, kk = mostW G (S.wr x) (pagesOf G.R D.length) := ⟨_, rfl⟩
  rw [← hkk]
  have HKK : Hid (kk = mostW G (S.wr x) (pagesOf G.R D.length)) := hkk
  clear hkk
  have hmy := mayH_yes hm
  have hDC : D.length ≤ G.C := by omega
  have hpn := may_pages hDC
  have hGC := G.gmay.hC1
  have hR16 := G.ok.hR1
  have hGp := G.ok.hp
  have hGb := G.ok.hb
  have hu : S.use G x true = 0 := use_of hup (inB0_of hx) rfl hbd
  have hxi : I64 x := by unfold I64; omega
  have hp0 : inB0 0 G.p = true := inB0_of (by omega)
  obtain ⟨i0, hi0, hz0, hz1, hz2⟩ := info_parts Tryz.info5
  have c0 := h.sb.c0
  go_enter Tryz.func29, Tryz.ntmps29
  go_wp2_with fail
  refine (drvRead_yes x 0 hxi (by unfold I64; omega) w h.db h.chip hp0 hu).mono ?_
  rintro e w1 ⟨X, k1, er, ao, co, ⟨hR, hXB, _⟩, rfl, rX, q1⟩
  obtain ⟨hXe, rfl, hk0⟩ := h0.read hR
  have HK0 : Hid (k1 = cntP G (S.wr x 0)) := hk0
  clear hk0
  obtain ⟨e0, e1, e2, e3⟩ := readH_page (R := G.R) (geoC_lt G) hm
  have hXl : X.length = G.R := by rw [hXe]; exact pageOf_len _ _ _ hR16.1
  rw [← hXe] at e0 e1 e2 e3
  rw [hXl] at rX
  rw [hXl]
  clear hXl hXe hR h0 c0 hm
  replace h := h.below q1
  have c0 := h.sb.c0
  go_wp2_with fail
  refine (drvGeometry_any w1 h.db h.chip.cell h.chip.lt).mono ?_
  rintro e w2 ⟨rfl, q2⟩
  replace h := h.below q2
  replace rX := rX.below q2 (Nat.le_refl _)
  replace q1 := btrans q1 q2
  clear q2 c0
  go_wp2_with fail
  refine (hParse_any G.gmay ao co X w2 rX hXB).mono ?_
  rintro e w3 ⟨hp, q2⟩
  replace h := h.below q2
  replace q1 := btrans q1 q2
  clear q2 rX
  rcases hp with ⟨_, hrd⟩ | ⟨rfl, _⟩
  · rw [e3] at hrd; cases hrd
  rw [e0, e1, e2]
  clear e0 e1 e2 e3 hXB
  have q2 := below_one w3 (.cells #[.int .i64 j, .int .i64 (D.length : Nat), .int .i64 nn] 90)
  have hbx := hbox_new w3 90 j (D.length : Nat) nn
  replace h := h.below q2
  replace q1 := btrans q1 q2
  clear q2
  go_wp2_with fail
  generalize w3.alloc (.cells #[.int .i64 j, .int .i64 (D.length : Nat), .int .i64 nn] 90) = w4 at *
  generalize w3.heap.size = bh at *
  refine held_begin (by kernel_rfl) ?_
  refine held_reads (rs := [0, 1, 2, 3, 5, 6]) (fuel := 7) (by kernel_rfl) (fun c d v a w h => by cases d <;> exact h) (by kernel_rfl) (Since.drew _) (fun K hK => ?_)
  refine calm_move _ rfl (by rfl) rfl ?_
  go_simp
  refine calm_do (.pointer (some ⟨s, 0, none⟩)) rfl (by rfl) (fun w' hw' => ?_) ?_
  · have c0 := (h.sb.below hw' (Nat.le_refl _)).c0
    go_simp
  go_simp
  refine calm_do (.pointer (some ⟨s, 0, none⟩)) rfl (by rfl) (fun w' hw' => ?_) ?_
  · go_simp
  go_simp
  refine calm_do (.pointer (some ⟨d, 0, none⟩)) rfl (by rfl) (fun w' hw' => ?_) ?_
  · have c0 := (h.sb.below hw' (Nat.le_refl _)).c0
    go_simp
  go_simp
  refine calm_do (.pointer (some ⟨bh, 1, none⟩)) rfl (by rfl) (fun w' hw' => ?_) ?_
  · go_simp
  go_simp
  refine calm_do (.int .i64 (D.length : Nat)) rfl (by rfl) (fun w' hw' => ?_) ?_
  · have c1 := (hbx.below hw' (Nat.le_refl _)).c1
    go_simp
  go_simp
  refine calm_nil (hK.out _ ?_)
  clear hK K
  refine held_call (i := 4) (fuel := 6) (by kernel_rfl) rfl (by rfl) (fun K hK => ?_)
  go_simp
  have hd4 := h.drew
  refine (drvGeometry_any w4.drew hd4.db hd4.chip.cell hd4.chip.lt).mono ?_
  clear hd4
  rintro e w5 ⟨rfl, qq0⟩
  have q3 : Since w4 w5 := Since.trans (Since.drew _) qq0
  refine hK _ _ q3 ?_
  clear hK K qq0
  replace h := h.below q3
  replace hbx := hbx.below q3 (Nat.le_refl _)
  replace q1 := btrans q1 q3
  clear q3
  refine held_call (i := 7) (fuel := 5) (by kernel_rfl) rfl (by rfl) (fun K hK => ?_)
  go_simp
  refine (hPages_yes G.gmay D.length w5 hDC).mono ?_
  rintro e w6 ⟨rfl, qq0⟩
  have q3 : Since w5 w6 := qq0
  refine hK _ _ q3 ?_
  clear hK K qq0
  replace h := h.below q3
  replace hbx := hbx.below q3 (Nat.le_refl _)
  replace q1 := btrans q1 q3
  clear q3
  have HALL : Hid ((joinZ G.R D (pagesOf G.R D.length)).take D.length = D) := joinZ_all (by omega) D
  have HRM : Hid (D.length ≤ pagesOf G.R D.length * G.R) := pagesOf_room (by omega)
  have HPG : Hid (∀ i : Nat, i < pagesOf G.R D.length → PIs G (S.pg x (1 + i : Nat)) (S.wr x (1 + i : Nat)) (some (chunkZ G.R D i))) := hpg
  have HCL : Hid (k1 = mostW G (S.wr x) 0) := HK0.out
  have hpR : pagesOf G.R D.length * G.R ≤ 64 * 64 := Nat.mul_le_mul (by omega) (by omega)
  clear hpg HK0
  generalize pagesOf G.R D.length = pg at *
  refine held_reads (rs := [8, 9, 10, 11, 12]) (fuel := 0) (by kernel_rfl) (fun c d v a w h => by cases d <;> exact h) (by kernel_rfl) (Since.refl _) (fun K hK => ?_)
  go_simp
  refine calm_move _ rfl (by rfl) rfl ?_
  go_simp
  refine calm_do (.int .i64 (pg : Nat)) rfl (by rfl) (fun w' hw' => ?_) ?_
  · go_simp
  go_simp
  refine calm_do (.int .i64 0) rfl (by rfl) (fun w' hw' => ?_) ?_
  · go_simp
  go_simp
  refine calm_assign _ rfl (by rfl) rfl ?_
  go_simp
  refine calm_assign _ rfl (by rfl) rfl ?_
  go_simp
  refine calm_nil (hK.out _ ?_)
  clear hK K
  refine wpAnyH_done (by kernel_rfl) ?_ _
  have HST : Hid (StAt G B F N S d s g st nu dn w6) := h
  have HBX : Hid (HBox w6 bh j (D.length : Nat) nn) := hbx
  have HQ1 : Hid (Below w.heap.size w w6) := q1
  have hq1s := q1.size
  obtain ⟨R, HRE⟩ : ∃ R, R = G.R := ⟨_, rfl⟩
  have HR : Hid (R = G.R) := HRE
  rw [← HRE] at hpR HALL HRM HPG hR16
  rw [← HRE]
  clear HRE h hbx q1
  obtain ⟨P, HPE⟩ : ∃ P : Nat, P = pg * R := ⟨_, rfl⟩
  have hmul : (pg : Int) * (R : Int) = (P : Int) := by rw [HPE, Int.natCast_mul]
  have HP : Hid (P = pg * R) := HPE
  rw [← HPE] at hpR HRM
  clear HPE
  have hmaxP : P ≤ maxLen := by unfold maxLen; omega
  go_wp2_with (at_make; refine wpList_make_own _ rfl _ _ 33 rfl w6.heap.size 5 i0 (.int .u8 0) 1 Tryz.underlying33 hi0 hz0 hz1 _ _ _ P rfl rfl ?c1 (by rw [hz2]; omega) hmaxP (Nat.le_refl _) ?_)
  case c1 => first | rfl | exact hmul | simp
  intro w7 hown7 hgrow7
  have qb : Below w6.heap.size w6 w7 := (Below.refl _ _).grown hgrow7 (Nat.le_refl _) (by simp)
  clear hgrow7 hmul
  go_wp2_with fail
  generalize hgx : w6.heap.size = B6 at *
  go_loopw [8, 13, 61] (fun mo v y wr => ∃ i m : Nat, i ≤ pg ∧ y = .int .i64 i ∧ mo = .int .i64 (m : Nat) ∧ Hid (m = mostW G (S.wr x) i) ∧ wr.ownsRow B6 5 1 v (joinZ R D i).length ((joinZ R D i).map (Value.int .u8)) ∧ Below B6 w6 wr) (fun _ _ y _ => pg - (RowKit.intOf y).toNat)
  case atStart => exact ⟨0, k1, Nat.zero_le _, rfl, rfl, HCL, hown7, qb⟩
  case round =>
    clear hown7 qb
    obtain ⟨i, m, hi, rfl, rfl, HM, hown, qb⟩ := hrel
    have hsz := qb.size
    rw [hgx] at hsz
    have QB : Hid (Below w6.heap.size w6 wr) := by rw [hgx]; exact qb
    have hjl := joinZ_len R D i
    by_cases hlt : i < pg
    case neg =>
      obtain rfl : i = pg := by omega
      rw [hjl, ← HP.out] at hown
      obtain ⟨ao2, co2, rfl, ro⟩ := row_of_owns hown
      have hcap := ro.hcap
      have hmx := ro.hmax
      unfold maxLen at hmx
      have HHD : Hid (0 < D.length → ∀ q : Addr, ao2 = some q → w.heap.size ≤ q.block) := fun h0 q hq => by
        obtain ⟨g', h1, h2⟩ := owns_head hown (by have := HRM.out; omega)
        rw [h2] at hq
        cases hq
        exact Nat.le_trans hq1s h1
      have HRT : Hid (Row .u8 wr ao2 D.length co2 D) := by
        have hh := HRM.out
        refine ⟨rfl, by omega, ro.hmax, ro.hnil, fun h0 => ?_⟩
        obtain ⟨bb, off, rfl, hbs, hc⟩ := ro.hcell (by omega)
        refine ⟨bb, off, rfl, hbs, fun q hq => ?_⟩
        rw [hc q (by omega), ← HALL.out, List.getElem?_take]
        have hql : q < ((joinZ R D i).take D.length).length := by rw [HALL.out]; exact hq
        rw [HALL.out, if_pos hq]
      have c1 := (HBX.out.below QB.out (Nat.le_refl _)).c1
      have HQ : Hid (Below w.heap.size w wr) := btrans HQ1.out QB.out
      have hDP := HRM.out
      clear hown ro qb QB hjl HALL HP
      go_wp2_with fail
      go_ret3
      exact ⟨ao2, co2, m, ⟨HHD.out, HM.out.trans HKK.out.symm⟩, rfl, HRT.out, HQ.out⟩
    have hlt' : (i : Int) < (pg : Int) := by omega
    have hst := HST.out.below QB.out
    have c0 := hst.sb.c0
    have hpi := HPG.out i hlt
    have e1i : ((1 + i : Nat) : Int) = 1 + (i : Int) := by omega
    rw [e1i] at hpi
    have hyi : inB0 (1 + (i : Int)) G.p = true := inB0_of (by omega)
    have HJ : Hid (joinZ R D (i + 1) = joinZ R D i ++ chunkZ R D i) := rfl
    have HCH : Hid ((chunkZ R D i).length = R) := chunkZ_len R D i
    have hdl : (joinZ R D i).length ≤ 4096 := by
      rw [hjl]
      have : i * R ≤ 64 * 64 := Nat.mul_le_mul (by omega) (by omega)
      omega
    clear qb hjl
    have hrd := drvRead_yes x (1 + (i : Int)) hxi (by unfold I64; omega) wr hst.db hst.chip hyi hu
    clear hst hyi
    have OW : Hid (wr.ownsRow B6 5 1 _ (joinZ R D i).length ((joinZ R D i).map (Value.int .u8))) := hown
    clear hown
    generalize hld : (joinZ R D i).length = ld at *
    have HLD : Hid ((joinZ R D i).length = ld) := hld
    clear hld
    go_wp2_with fail
    refine hrd.mono ?_
    clear hrd
    rintro e w8 ⟨X, k2, er, a8, c8, ⟨hR, hXB, hXn⟩, rfl, rX, q8⟩
    obtain ⟨rfl, rfl, hk2⟩ := hpi.read hR
    have HM2 : Hid (max m k2 = mostW G (S.wr x) (i + 1)) := by
      show max m k2 = max _ (cntP G (S.wr x ((1 + i : Nat) : Int)))
      rw [e1i, ← hk2, ← HM.out]
    have QB8 : Hid (Below B6 w6 w8) := by
      have := btrans QB.out q8
      rw [hgx] at this
      exact this
    have hs8 := QB8.out.size
    rw [hgx] at hs8
    have OW8 : Hid (w8.ownsRow B6 5 1 _ ld ((joinZ R D i).map (Value.int .u8))) := owns_same (w' := w8) OW.out (fun b hb => q8.block b (owns_lt OW.out hb).2)
    rw [HCH.out] at rX
    rw [HCH.out]
    clear hR hXB hXn hpi hk2 HM OW QB q8 c0
    by_cases hmx : k2 ≤ m
    · have hmx1 : (k2 : Int) ≤ (m : Int) := by omega
      have HMX : Hid (max m k2 = m) := by show _ = _; omega
      go_wp2_with (at_builtin; refine wpList_append_row _ rfl _ _ 33 rfl B6 5 i0 (.int .u8 0) 1 Tryz.underlying33 hi0 hz0 hz1 hz2 rfl _ _ _ rfl OW8.out .u8 a8 R c8 (chunkZ R D i) rfl rX ?c1 ?c2 ?c3 ?_)
      case c1 => unfold maxLen; omega
      case c2 => omega
      case c3 => omega
      intro v9 w9 own9 grow9
      have HO9 : Hid (w9.ownsRow B6 5 1 v9 (joinZ R D (i + 1)).length ((joinZ R D (i + 1)).map (Value.int .u8))) := by
        show World.ownsRow _ _ _ _ _ _ _
        rw [HJ.out, List.length_append, HLD.out, HCH.out, List.map_append]
        exact own9
      have HQ9 : Hid (Below B6 w6 w9) := QB8.out.grown grow9 (by omega) (fun k hk => (owns_lt OW8.out hk).1)
      clear own9 grow9 OW8 QB8 rX
      rw [HMX.out] at HM2
      go_wp2_with fail
      go_roundw
      case rel => exact ⟨i + 1, m, by omega, by go_num, by rw [show max (m : Int) (k2 : Int) = (m : Int) by omega], HM2, HO9.out, HQ9.out⟩
      case measure => simp [RowKit.intOf]; omega
    · have hmx1 : (m : Int) ≤ (k2 : Int) := by omega
      have HMX : Hid (max m k2 = k2) := by show _ = _; omega
      go_wp2_with (at_builtin; refine wpList_append_row _ rfl _ _ 33 rfl B6 5 i0 (.int .u8 0) 1 Tryz.underlying33 hi0 hz0 hz1 hz2 rfl _ _ _ rfl OW8.out .u8 a8 R c8 (chunkZ R D i) rfl rX ?c1 ?c2 ?c3 ?_)
      case c1 => unfold maxLen; omega
      case c2 => omega
      case c3 => omega
      intro v9 w9 own9 grow9
      have HO9 : Hid (w9.ownsRow B6 5 1 v9 (joinZ R D (i + 1)).length ((joinZ R D (i + 1)).map (Value.int .u8))) := by
        show World.ownsRow _ _ _ _ _ _ _
        rw [HJ.out, List.length_append, HLD.out, HCH.out, List.map_append]
        exact own9
      have HQ9 : Hid (Below B6 w6 w9) := QB8.out.grown grow9 (by omega) (fun k hk => (owns_lt OW8.out hk).1)
      clear own9 grow9 OW8 QB8 rX
      rw [HMX.out] at HM2
      go_wp2_with fail
      go_roundw
      case rel => exact ⟨i + 1, k2, by omega, by go_num, by rw [show max (m : Int) (k2 : Int) = (k2 : Int) by omega], HM2, HO9.out, HQ9.out⟩
      case measure => simp [RowKit.intOf]; omega
theorem stRead_nil (j : Int) (w : World) : Calls Tryz.prog 10 #[.pointer none, .int .i64 j] w fun e w' => e = .returned (.tuple #[.slice none 0 0, .int .i64 0, .int .i64 3]) ∧ w = w' := by
  go_enter Tryz.func10, Tryz.ntmps10
  go_wp2_with fail
  refine (stReady_nil j _).mono ?_
  rintro e w1 ⟨rfl, rfl⟩
  go_wp2_with fail
  go_ret3
  exact ⟨rfl, rfl⟩
theorem stRead_no (j : Int) (w : World) (h : SBox w s d g st nu dn) (hr : rdyS dn st.length j ≠ 0) : Calls Tryz.prog 10 #[.pointer (some ⟨s, 0, none⟩), .int .i64 j] w fun e w' => e = .returned (.tuple #[.slice none 0 0, .int .i64 0, .int .i64 (rdyS dn st.length j)]) ∧ w = w' := by
  have hr' : (rdyS dn st.length j != 0) = true := by simp [hr]
  have hrd := stReady_any j w h
  clear h hr
  generalize rdyS dn st.length j = r at *
  go_enter Tryz.func10, Tryz.ntmps10
  go_wp2_with fail
  refine hrd.mono ?_
  rintro e w1 ⟨rfl, rfl⟩
  go_wp2_with fail
  go_ret3
  exact ⟨rfl, rfl⟩
theorem stRead_none (j : Nat) (w : World) (h : SBox w s d g st nu false) (hj : j < st.length) (hn : st[j]?.getD 0 = -1) : Calls Tryz.prog 10 #[.pointer (some ⟨s, 0, none⟩), .int .i64 (j : Int)] w fun e w' => e = .returned (.tuple #[.slice none 0 0, .int .i64 0, .int .i64 5]) ∧ w = w' := by
  have hrd := stReady_any (j : Int) w h
  rw [rdyS_in (by omega)] at hrd
  have c1 := h.c1
  have ca := h.at j hj
  rw [hn] at ca
  have hl := h.len
  clear h hn
  generalize st.length = L at *
  go_enter Tryz.func10, Tryz.ntmps10
  go_wp2_with fail
  refine hrd.mono ?_
  rintro e w1 ⟨rfl, rfl⟩
  clear hrd
  go_wp2_with fail
  go_ret3
  exact ⟨rfl, rfl⟩
set_option maxHeartbeats 800000 in
theorem stRead_yes (j : Nat) (D : List Int) (nn : Int) (w : World) (h : StAt G B F N S d s g st nu false w) (hj : j < st.length) (hup : S.up = true) (hx : 0 ≤ st[j]?.getD 0 ∧ st[j]?.getD 0 < G.b) (hbd : S.bd (st[j]?.getD 0) = false)
    (hk : BIs G (S.pg (st[j]?.getD 0)) (S.wr (st[j]?.getD 0)) (.copy j D nn)) :
    Calls Tryz.prog 10 #[.pointer (some ⟨s, 0, none⟩), .int .i64 (j : Int)] w fun e w' => ∃ a cap, ∃ k : Nat, ((0 < D.length → ∀ q : Addr, a = some q → w.heap.size ≤ q.block) ∧ k = mostW G (S.wr (st[j]?.getD 0)) (pagesOf G.R D.length)) ∧ e = .returned (.tuple #[.slice a D.length cap, .int .i64 (k : Nat), .int .i64 0]) ∧ Row .u8 w' a D.length cap D ∧ Below w.heap.size w w' := by
  have hrd := stReady_any (j : Int) w h.sb
  rw [rdyS_in (by omega)] at hrd
  have c1 := h.sb.c1
  have ca := h.sb.at j hj
  have hl := h.sb.len
  have hby := bytes_any _ hx j D nn w h hup hbd hk
  have hne : (st[j]?.getD 0 == -1) = false := by simp; omega
  clear h hk
  generalize st[j]?.getD 0 = x at *
  generalize st.length = L at *
  generalize D.length = n at *
  go_enter Tryz.func10, Tryz.ntmps10
  go_wp2_with fail
  refine hrd.mono ?_
  rintro e w1 ⟨rfl, rfl⟩
  clear hrd
  go_wp2_with fail
  refine hby.mono ?_
  rintro e w2 ⟨a, cap, k, HH, rfl, hrow, q⟩
  clear hby
  have HH2 : Hid _ := HH
  clear HH
  go_wp2_with fail
  refine (stTell_no 0 (by decide) _).mono ?_
  rintro e w3 ⟨rfl, rfl⟩
  go_wp2_with fail
  go_ret3
  exact ⟨a, cap, k, HH2.out, rfl, hrow, q⟩
end
end Go.Proofs.YtgamakejaknagaaGreat

/-
  Regions that draw their order, in a round of a range over a function: what holds of such a region elsewhere holds in a round, where no operation of it defers.
-/
namespace Go.Proofs.YtgamakejaknagaaGreat
open Go Go.RowKit
set_option linter.unusedVariables false
set_option maxRecDepth 8192

section
variable {P : Program} {ops : Array Oper} {Q : Exit → Act → World → Prop} {md : Region.Mode} {l n : Nat}
theorem rows_wide {row : String} {args : Array Value} {w : World} {R : Value → World → Prop} (h : Rows P row args w R) : RowsIn Fence.wide n P row args w R :=
  fun c cs _ => let ⟨v, w', r, s⟩ := h c cs; ⟨v, w', r, stepsIn_wide.2 s⟩
theorem oper_round {o : Oper} {a : Act} {w : World} {K : Act → World → Prop} (hd : ∀ c, o.op ≠ .defer c) (h : o.wp P a w K Q) : o.wpIn (Fence.wide.inRound l) n P a w K Q := by
  refine ⟨fun _ _ => trivial, ?_⟩
  rw [show (Fence.wide.inRound l).round = some l from rfl, Oper.semAt_some l _ o hd]
  unfold Oper.wp at h
  generalize (execOp a.eval o).run P w = r at *
  cases r with
  | ok x w' =>
    cases x <;> simp only [Oper.upon, Oper.uponIn] at h ⊢
    case value => exact h
    case skip => exact h
    case defer => exact h
    case enter f args => exact ⟨fun h => (by cases h), callsIn_wide.2 h⟩
    case row => exact ⟨fun h => (by cases h), rows_wide h⟩
  | halt x w' => cases x <;> simp only [Oper.upon, Oper.uponIn] at h ⊢ <;> exact h
/-- Does no operation defer? -/
def noDefer (ops : Array Oper) : Bool := ops.all fun o => match o.op with
  | .defer _ => false
  | _ => true
theorem noDefer_at (h : noDefer ops = true) {i : Nat} {o : Oper} (ho : ops[i]? = some o) : ∀ c, o.op ≠ .defer c := by
  intro c e
  obtain ⟨hi, rfl⟩ := Array.getElem?_eq_some_iff.1 ho
  have := (Array.all_eq_true.1 h) i hi
  rw [e] at this
  cases this
theorem wpOp_round (hd : noDefer ops = true) (hl : ¬ LetsOut Q) {i : Nat} {K K' : Act → World → Prop} (hK : ∀ a w, K a w → K' a w) {a : Act} {w : World} (h : wpOp P ops Q i K a w) : wpOpIn (Fence.wide.inRound l) n P ops Q i K' a w := by
  unfold wpOp at h
  unfold wpOpIn
  cases ho : ops[i]? with
  | none => simp only [ho] at h; exact hK _ _ h
  | some o =>
    simp only [ho] at h ⊢
    split
    · rename_i hw
      rw [if_pos hw] at h
      rcases h with h | h
      · exact oper_round (noDefer_at hd ho) (Oper.wp_mono hK h)
      · exact absurd h.2 hl
    · rename_i hw
      rw [if_neg hw] at h
      exact ⟨fun _ _ => trivial, hK _ _ h⟩
theorem wpAny_round (hd : noDefer ops = true) (hl : ¬ LetsOut Q) : ∀ (fuel : Nat) (listed : Array Bool) (a : Act) (w : World), wpAny P md ops Q fuel listed a w → wpAnyIn (Fence.wide.inRound l) n P md ops Q fuel listed a w
  | 0, _, _, _, h => h
  | fuel + 1, listed, a, w, h => ⟨h.1, fun i hi => wpOp_round hd hl (fun a w => wpAny_round hd hl fuel _ a w) (h.2 i hi)⟩
/-- A drawn region in a round. -/
theorem region_round {id : Nat} {a : Act} {w : World} {S : World → Prop} (hd : noDefer ops = true) (hl : ¬ LetsOut Q) (hm : P.follows .mixedOrders = true)
    (h : wpAnyH P .any ops Q S ops.size (Array.replicate ops.size false) a w.drew) : (Code.region id ops true).wpIn (Fence.wide.inRound l) n P Q a w :=
  wpIn_region_any hm (wpAny_round hd hl _ _ _ _ (wpAny_of_held _ _ _ _ h))
/-- Where nothing panics. -/
theorem wpIn_calm {F : Fence} {c : Code} {a : Act} {w : World} (h : c.wpIn F n P (fun e a w => e = Exit.normal ∧ Q Exit.normal a w) a w) : c.wpIn F n P Q a w :=
  wpIn_mono h (fun e a w he => by obtain ⟨rfl, h⟩ := he; exact h)
end
end Go.Proofs.YtgamakejaknagaaGreat

/-
  A store inside a range over a function: of the chip's blocks those that are no cells lie ahead of the loop (LAt), so that what the loop itself lays and turns leaves it alone.
-/
namespace Go.Proofs.YtgamakejaknagaaGreat
open Go.RowKit Go.Maps
set_option linter.unusedVariables false
set_option maxRecDepth 8192

def CellsAt (w : World) (x : Nat) : Prop := ∃ o : Obj, w.heap[x]? = some o ∧ o.isCells = true
theorem cellsAt_of {w : World} {a : Addr} {v : Value} (h : w.cell? a = some v) : CellsAt w a.block := by
  unfold World.cell? at h
  split at h
  · rename_i c t f e; exact ⟨_, e, rfl⟩
  · cases h
theorem CellsAt.same {w w' : World} {x : Nat} (h : CellsAt w x) (e : w'.heap[x]? = w.heap[x]?) : CellsAt w' x := by obtain ⟨o, h1, h2⟩ := h; exact ⟨o, e.trans h1, h2⟩
theorem CellsAt.lt {w : World} {x : Nat} (h : CellsAt w x) : x < w.heap.size := by obtain ⟨o, h1, _⟩ := h; exact (Array.getElem?_eq_some_iff.1 h1).1
/-- What the loop's law may turn: no cells. -/
theorem CellsAt.ne {w : World} {x : Nat} {row : Option Nat} {k : Nat} (h : CellsAt w x) (hr : ∀ r, row = some r → k ≤ r ∧ ∃ o : Obj, w.heap[r]? = some o ∧ o.isCells = false) : some x ≠ row := by
  intro e
  obtain ⟨_, o, h1, h2⟩ := hr x e.symm
  obtain ⟨o', h1', h2'⟩ := h
  rw [h1] at h1'
  cases h1'
  rw [h2] at h2'
  cases h2'
section
variable {G : Geo} {B : CB} {F F' : Nat → Prop} {N N' : Nat} {S S' : CS} {d s g k : Nat} {st : List Int} {nu : Int} {dn : Bool} {w w' : World}
theorem ChipAt.limit (h : ChipAt G B F N S w) (hk : w.heap.size ≤ k) : ChipAt G { B with lim := k } F N S w := by
  obtain ⟨m, hm, hb⟩ := h.wrong
  refine ⟨h.cell, h.apart, h.inF, h.fresh, h.pages, h.next, h.marked, h.weak, ⟨m, hm, fun b p => ?_⟩, h.fu, h.ah, h.ke⟩
  obtain ⟨h1, h2⟩ := hb b p
  refine ⟨h1, h2.imp id (fun ⟨x, e, hF, hB, hs⟩ => ⟨x, e, hF, ⟨hB.1, .inr ?_⟩, hs⟩)⟩
  exact Nat.lt_of_lt_of_le (h.fresh x hF) hk
theorem ChipAt.free (h : ChipAt G { B with lim := k } F N S w) (hl : B.lim = 0) : ChipAt G B F N S w := by
  obtain ⟨m, hm, hb⟩ := h.wrong
  refine ⟨h.cell, h.apart, h.inF, h.fresh, h.pages, h.next, h.marked, h.weak, ⟨m, hm, fun b p => ?_⟩, h.fu, h.ah, h.ke⟩
  obtain ⟨h1, h2⟩ := hb b p
  exact ⟨h1, h2.imp id (fun ⟨x, e, hF, hB, hs⟩ => ⟨x, e, hF, ⟨hB.1, .inl hl⟩, hs⟩)⟩
def trimF (F : Nat → Prop) (k : Nat) (w : World) : Nat → Prop := fun x => F x ∧ (x < k ∨ CellsAt w x)
theorem ChipAt.trim (h : ChipAt G B F N S w) (h0 : 0 < B.lim ∧ B.lim ≤ k) (hall : ∀ x ∈ B.all, x < k) : ChipAt G B (trimF F k w) N S w := by
  obtain ⟨m, hm, hb⟩ := h.wrong
  obtain ⟨m2, hm2, hp⟩ := h.pages
  refine ⟨h.cell, h.apart, fun x hx => ⟨h.inF x hx, .inl (hall x hx)⟩, fun x hx => h.fresh x hx.1, ⟨m2, hm2, fun b p => ?_⟩, h.next, h.marked, h.weak, ⟨m, hm, fun b p => ?_⟩, h.fu, h.ah, h.ke⟩
  · obtain ⟨h1, h2, h3⟩ := hp b p
    refine ⟨h1, h2, h3.imp id (fun ⟨x, e, hF, hB, hr⟩ => ⟨x, e, ⟨hF, .inr ?_⟩, hB, hr⟩)⟩
    have := G.ok.L2
    obtain ⟨b', off, e', _, hc⟩ := hr.hcell (by omega)
    simp only [Option.some.injEq, Addr.mk.injEq, and_true] at e'
    have hc0 := hc 0 (by omega)
    have := cellsAt_of hc0
    rw [e'.1]; exact this
  · obtain ⟨h1, h2⟩ := hb b p
    refine ⟨h1, h2.imp id (fun ⟨x, e, hF, hB, hs⟩ => ⟨x, e, ⟨hF, .inl ?_⟩, hB, hs⟩)⟩
    rcases hB.2 with hl | hl
    · omega
    · omega
/-- A store in a loop that began at k. -/
structure LAt (G : Geo) (B : CB) (k : Nat) (F : Nat → Prop) (N : Nat) (S : CS) (d s g : Nat) (st : List Int) (nu : Int) (dn : Bool) (w : World) : Prop where
  at_ : StAt G B F N S d s g st nu dn w
  tr : ∀ x, F x → x < k ∨ CellsAt w x
  all : ∀ x ∈ B.all, x < k
  lm : 0 < B.lim ∧ B.lim ≤ k
theorem lat_of (h : StAt G B F N S d s g st nu dn w) (hlim : B.lim ≤ w.heap.size) : ∃ B' : CB, LAt G B' w.heap.size F N S d s g st nu dn w ∧ ∀ F N S st nu dn w', StAt G B' F N S d s g st nu dn w' → StAt G B F N S d s g st nu dn w' := by
  have hp : 0 < w.heap.size := Nat.lt_of_le_of_lt (Nat.zero_le _) h.sb.slt
  have hall : ∀ x ∈ B.all, x < w.heap.size := fun x hx => h.chip.fresh x (h.chip.inF x hx)
  by_cases h0 : B.lim = 0
  · exact ⟨{ B with lim := w.heap.size }, ⟨⟨h.chip.limit (Nat.le_refl _), h.db, h.sb, h.fd, h.fs, h.fg, h.sd, h.gd⟩, fun x hx => .inl (h.chip.fresh x hx), hall, hp, Nat.le_refl _⟩, fun F N S st nu dn w' k => ⟨k.chip.free h0, k.db, k.sb, k.fd, k.fs, k.fg, k.sd, k.gd⟩⟩
  · exact ⟨B, ⟨h, fun x hx => .inl (h.chip.fresh x hx), hall, by omega, hlim⟩, fun F N S st nu dn w' k => k⟩
theorem LAt.below (h : LAt G B k F N S d s g st nu dn w) (q : Below w.heap.size w w') : LAt G B k F N S d s g st nu dn w' :=
  ⟨h.at_.below q, fun x hx => (h.tr x hx).imp id (fun c => c.same (q.block x c.lt)), h.all, h.lm⟩
theorem SBox.cells (h : SBox w s d g st nu dn) : CellsAt w s ∧ CellsAt w g := ⟨⟨_, h.box, rfl⟩, ⟨_, h.row, rfl⟩⟩
/-- It abides what the loop's law turns. -/
theorem LAt.own (h : LAt G B k F N S d s g st nu dn w) {row : Option Nat} (hg : w.grownBy w' row) (hr : ∀ r, row = some r → k ≤ r ∧ ∃ o : Obj, w.heap[r]? = some o ∧ o.isCells = false) : LAt G B k F N S d s g st nu dn w' := by
  have hne : ∀ x, F x → some x ≠ row := fun x hx e => by
    rcases h.tr x hx with h1 | h1
    · have := (hr x e.symm).1; omega
    · exact h1.ne hr e
  have hsb := h.at_.sb.cells
  have hdc := cellsAt_of h.at_.db.c0
  refine ⟨⟨h.at_.chip.kept hg.size (fun x hx => hg.block x (h.at_.chip.fresh x hx) (hne x hx)), ?_, ?_, h.at_.fd, h.at_.fs, h.at_.fg, h.at_.sd, h.at_.gd⟩, fun x hx => ?_, h.all, h.lm⟩
  · exact ⟨Nat.lt_of_lt_of_le h.at_.db.lt hg.size, by rw [World.cell?_of_block (hg.block d h.at_.db.lt (hdc.ne hr))]; exact h.at_.db.c0⟩
  · exact h.at_.sb.same (hg.block s h.at_.sb.slt (hsb.1.ne hr)) (hg.block g h.at_.sb.glt (hsb.2.ne hr))
  · exact (h.tr x hx).imp id (fun c => c.same (hg.block x (h.at_.chip.fresh x hx) (hne x hx)))
theorem LAt.keeps (h : LAt G B k F N S d s g st nu dn w) (t : Turned F w w') : KeepsFrom k w w' := by
  refine ⟨t.size, fun j o hj ho hc => ?_⟩
  rw [t.block j (Array.getElem?_eq_some_iff.1 ho).1 (fun hf => ?_)]
  · exact ho
  · rcases h.tr j hf with h1 | ⟨o', h1, h2⟩
    · omega
    · rw [ho] at h1; cases h1; rw [hc] at h2; cases h2
/-- A call of its drive or chip. -/
theorem LAt.does (h : LAt G B k F N S d s g st nu dn w) (dd : Does G B F N' w S' w') : ∃ F', LAt G B k F' N' S' d s g st nu dn w' ∧ SDoes F s g w F' w' ∧ Turned F w w' ∧ KeepsFrom k w w' := by
  obtain ⟨F', h1, t, f⟩ := dd
  have hn : ∀ x, x < w.heap.size → ¬ F x → ¬ trimF F' k w' x := fun x hx hf hf' => (f x hf'.1).elim hf (fun e => by omega)
  refine ⟨trimF F' k w', ⟨⟨h1.trim h.lm h.all, h.at_.db.turned t h.at_.fd, h.at_.sb.turned t h.at_.fs h.at_.fg, hn d h.at_.db.lt h.at_.fd, hn s h.at_.sb.slt h.at_.fs, hn g h.at_.sb.glt h.at_.fg, h.at_.sd, h.at_.gd⟩, fun x hx => hx.2, h.all, h.lm⟩, SDoes.of_turned t (fun x hx => f x hx.1), t, h.keeps t⟩
theorem LAt.mono (h : LAt G B k F N S d s g st nu dn w) (hN : N ≤ N') : LAt G B k F N' S d s g st nu dn w := ⟨h.at_.mono hN, h.tr, h.all, h.lm⟩
theorem LAt.setCell (h : LAt G B k F N S d s g st nu dn w) {p : Addr} (hp : p.block = s ∨ p.block = g) (v : Value) {st' : List Int} {nu' : Int} {dn' : Bool} (hb : SBox (w.setCell p v) s d g st' nu' dn') :
    LAt G B k F N S d s g st' nu' dn' (w.setCell p v) ∧ SDoes F s g w F (w.setCell p v) := by
  obtain ⟨h1, h2⟩ := h.at_.setCell hp v hb
  refine ⟨⟨h1, fun x hx => (h.tr x hx).imp id (fun c => c.same (Below.heap_setCell w p v x (fun e => ?_))), h.all, h.lm⟩, h2⟩
  rcases hp with hp | hp
  · exact h.at_.fs (hp ▸ e ▸ hx)
  · exact h.at_.fg (hp ▸ e ▸ hx)
/-- A store into a block that lies in none of it. -/
theorem LAt.setOff (h : LAt G B k F N S d s g st nu dn w) {p : Addr} (hF : ¬ F p.block) (hs : p.block ≠ s) (hg : p.block ≠ g) (hd : p.block ≠ d) (v : Value) : LAt G B k F N S d s g st nu dn (w.setCell p v) := by
  have hb : ∀ x, x ≠ p.block → (w.setCell p v).heap[x]? = w.heap[x]? := fun x hx => Below.heap_setCell w p v x hx
  have hsz : w.heap.size ≤ (w.setCell p v).heap.size := by simp
  refine ⟨⟨h.at_.chip.kept hsz (fun x hx => hb x (fun e => hF (e ▸ hx))), ?_, h.at_.sb.same (hb s (Ne.symm hs)) (hb g (Ne.symm hg)), h.at_.fd, h.at_.fs, h.at_.fg, h.at_.sd, h.at_.gd⟩, fun x hx => (h.tr x hx).imp id (fun c => c.same (hb x (fun e => hF (e ▸ hx)))), h.all, h.lm⟩
  exact ⟨Nat.lt_of_lt_of_le h.at_.db.lt hsz, by rw [World.cell?_of_block (hb d (Ne.symm hd))]; exact h.at_.db.c0⟩
theorem SDoes.own {W : World} (h : SDoes F s g W F' w) {row : Option Nat} (hg : w.grownBy w' row) (hr : ∀ r, row = some r → W.heap.size ≤ r) : SDoes F s g W F' w' := ⟨h.tn.grown hg (fun r e => .inr (hr r e)), h.nw⟩
theorem OffS.own {kd : IntKind} {a : Option Addr} {len cap : Nat} {z : List Int} (h : OffS F s g kd w a len cap z) {row : Option Nat} (hg : w.grownBy w' row) (hr : ∀ r, row = some r → ∃ o : Obj, w.heap[r]? = some o ∧ o.isCells = false) : OffS F s g kd w' a len cap z := ⟨row_kept h.row hg hr, h.off⟩
end

/-! ### slices.Chunk -/
/-- The places of the pieces. -/
abbrev Ch (R len : Nat) := { i : Nat // i * R < len }
def Keeps2 (b1 b2 : Nat) (W W' : World) : Prop := KeepsBox b1 W W' ∧ KeepsBox b2 W W'
theorem keeps2_t {b1 b2 : Nat} {A B C : World} (h : Keeps2 b1 b2 A B) (k : Keeps2 b1 b2 B C) : Keeps2 b1 b2 A C := ⟨keepsBox_t h.1 k.1, keepsBox_t h.2 k.2⟩
theorem keeps2_b {b1 b2 : Nat} {w : World} (W : World) (l : Nat) (o o' : Obj) (h0 : w.heap.size ≤ l) (h : W.heap[l]? = some o) (hc : o.isCells = false) (hw : o.isWalk = false) : Keeps2 b1 b2 W (W.putObj l o') := ⟨keepsBox_b (w := w) W l o o' h0 h hc hw, keepsBox_b (w := w) W l o o' h0 h hc hw⟩
end Go.Proofs.YtgamakejaknagaaGreat

/-
  The code of layer 11 (store), as it landed: slices.Chunk's iterator.
-/
namespace Go.Proofs.YtgamakejaknagaaGreat
open Go.RowKit Go.Maps Go.Shelf
set_option linter.unusedVariables false
set_option maxRecDepth 8192
attribute [local go_sem] Oper.semAt_some

set_option maxHeartbeats 2000000 in
set_option maxRecDepth 100000 in
theorem chunk_stops (n : Nat) (hn : 1 ≤ n) (b1 b2 b off : Nat) (a : Option Addr) (len cap R : Nat) (ha : 0 < len → a = some ⟨b, off, none⟩) (hlc : len ≤ cap) (hcm : cap ≤ maxLen) (hlen : len ≤ 100000) (hR : 1 ≤ R ∧ R ≤ 1000) (w : World) (hb1 : b1 < w.heap.size) (hb2 : b2 < w.heap.size)
    (hc1 : w.cell? ⟨b1, 0, none⟩ = some (.slice a len cap)) (hc2 : w.cell? ⟨b2, 0, none⟩ = some (.int .i64 (R : Int))) :
    SeqStopsK Fence.wide n Tryz.prog 127 #[.pointer (some ⟨b1, 0, none⟩), .pointer (some ⟨b2, 0, none⟩)] (fun c : Ch R len => #[.slice (some ⟨b, off + c.1 * R, none⟩) (min R (len - c.1 * R)) (min R (len - c.1 * R))]) (Keeps2 b1 b2)
      (fun xs => xs.map (·.1) = List.range (pagesOf R len)) (fun pre => ∃ k, k ≤ pagesOf R len ∧ pre.map (·.1) = List.range k) (pagesOf R len) w := fun l J Jx W hW hJ hJx hY h0J => by
  have hc1W : W.cell? ⟨b1, 0, none⟩ = some (.slice a len cap) := by rw [hW.cell (p := ⟨b1, 0, none⟩) hb1]; exact hc1
  have hc2W : W.cell? ⟨b2, 0, none⟩ = some (.int .i64 (R : Int)) := by rw [hW.cell (p := ⟨b2, 0, none⟩) hb2]; exact hc2
  have hcap : cap ≤ 9223372036854775807 := by unfold maxLen at hcm; omega
  clear hc1 hc2 hJx hW hcm
  have HJ : Hid (AbidesFrom W.heap.size J) := hJ
  clear hJ
  refine callsIn_of_wp Tryz.func127 rfl trivial ?_ rfl
  simp only [Tryz.ntmps127, List.size_toArray, List.length_cons, List.length_nil, Nat.reduceAdd, Nat.reduceSub, Array.replicate_succ, Array.replicate_zero, List.push_toArray, List.append_toArray, List.nil_append, List.cons_append]
  gi_wp2
  gi_loopw [4] (fun p wr => ∃ (k : Nat) (pre : List (Ch R len)), k ≤ pagesOf R len ∧ p = .int .i64 ((k * R : Nat) : Int) ∧ pre.map (·.1) = List.range k ∧ wr.cell? ⟨b1, 0, none⟩ = some (.slice a len cap) ∧ wr.cell? ⟨b2, 0, none⟩ = some (.int .i64 (R : Int)) ∧ J pre wr)
    (fun p _ => len + 2000 - (intOf p).toNat)
  case atStart => exact ⟨0, [], Nat.zero_le _, by simp, rfl, hc1W, hc2W, h0J⟩
  case round =>
    clear hc1W hc2W h0J
    obtain ⟨k, pre, hk, rfl, hpre, hc1, hc2, hJs⟩ := hrel
    have HPRE : Hid (pre.map (·.1) = List.range k) := hpre
    clear hpre
    by_cases hlt : k * R < len
    · have hkp : k < pagesOf R len := (pagesOf_lt (by omega)).2 hlt
      have hl0 : pre.length < pagesOf R len := by have := congrArg List.length HPRE.out; simp at this; omega
      have ha' := ha (by omega)
      subst ha'
      obtain ⟨m, hm⟩ : ∃ m, m = min R (len - k * R) := ⟨_, rfl⟩
      have HMI : Hid (m = min R (len - k * R)) := hm
      have hm1 : m ≤ R ∧ k * R + m ≤ len ∧ 1 ≤ m := by omega
      have HSUC : Hid ((k + 1) * R = k * R + R) := by show _ = _; rw [Nat.add_mul, Nat.one_mul]
      have hJd : J pre wr.drew := HJ.out pre wr wr.drew none hJs ⟨rfl, rfl, rfl, Nat.le_refl _, fun _ _ _ => rfl⟩ (fun r e => by cases e)
      obtain ⟨c, hck⟩ : ∃ c : Ch R len, c.1 = k := ⟨⟨k, hlt⟩, rfl⟩
      obtain ⟨fn, tmps, assign, body, hy, hR'⟩ := hY pre c wr.drew hJd hl0
      rw [hck, ← hm] at hy
      have HPR2 : Hid ((pre ++ [c]).map (·.1) = List.range (k + 1)) := by show _ = _; rw [List.map_append, HPRE.out, List.range_succ]; simp [hck]
      have HYR : Hid _ := hR'
      clear hR' HPRE hY ha hm hck HJ
      generalize hkr : k * R = o at *
      have HKR : Hid (k * R = o) := hkr
      clear hkr
      have hlt' : (o : Int) < (len : Int) := by omega
      have hoc : o ≤ cap := by omega
      gi_wp2
      refine wpIn_wide.2 ?_
      refine held_begin (by kernel_rfl) ?_
      refine held_reads (rs := [0, 1, 2, 3, 4, 5, 6]) (fuel := 0) (by kernel_rfl) (fun c d v a w h => by cases d <;> exact h) (by kernel_rfl) (Since.drew _) (fun K hK => ?_)
      refine calm_do (.int .i64 (R : Int)) rfl (by rfl) (fun w' hw' => ?_) ?_
      · have c2 : w'.cell? ⟨b2, 0, none⟩ = some (.int .i64 (R : Int)) := by rw [Below.cell hw' (p := ⟨b2, 0, none⟩) (lt_of_cell hc2)]; exact hc2
        go_simp
      go_simp
      refine calm_do (.slice (some ⟨b, off, none⟩) len cap) rfl (by rfl) (fun w' hw' => ?_) ?_
      · have c1 : w'.cell? ⟨b1, 0, none⟩ = some (.slice (some ⟨b, off, none⟩) len cap) := by rw [Below.cell hw' (p := ⟨b1, 0, none⟩) (lt_of_cell hc1)]; exact hc1
        go_simp
      go_simp
      refine calm_move _ rfl (by rfl) rfl ?_
      go_simp
      refine calm_do (.slice (some ⟨b, off + o, none⟩) (len - o) (cap - o)) rfl (by rfl) (fun w' hw' => ?_) ?_
      · go_simp
        rw [if_pos (by omega), if_neg (by omega)]
      go_simp
      refine calm_do (.int .i64 ((len - o : Nat) : Int)) rfl (by rfl) (fun w' hw' => ?_) ?_
      · go_simp
      go_simp
      refine calm_do (.int .i64 (m : Int)) rfl (by rfl) (fun w' hw' => ?_) ?_
      · go_simp
        have := HMI.out
        omega
      go_simp
      refine calm_assign _ rfl (by rfl) rfl ?_
      go_simp
      refine calm_nil (hK.out _ ?_)
      clear hK K
      refine wpAnyH_done (by kernel_rfl) ?_ _
      have hc1d : wr.drew.cell? ⟨b1, 0, none⟩ = some (.slice (some ⟨b, off, none⟩) len cap) := hc1
      have hc2d : wr.drew.cell? ⟨b2, 0, none⟩ = some (.int .i64 (R : Int)) := hc2
      clear hc1 hc2 hJs hJd
      generalize wr.drew = wd at *
      gi_wp2
      refine RoundIn.mono HYR.out ?_
      rintro e W3 (⟨rfl, hJ3, hk3⟩ | ⟨rfl, hJx3⟩)
      · have hc13 := hk3.1 _ hc1d
        have hc23 := hk3.2 _ hc2d
        clear hy HYR hc1d hc2d hk3
        gi_wp2
        go_roundw
        case rel => exact ⟨k + 1, _, by omega, by rw [HSUC.out]; go_num, HPR2.out, hc13, hc23, hJ3⟩
        case measure => simp [intOf]; omega
      · gi_wp2
        refine bodyPost_ret (results_none rfl _ _ _) rfl ?_
        exact ⟨⟨_, rfl⟩, .inr ⟨_, ⟨k + 1, by omega, HPR2.out⟩, hJx3⟩⟩
    · have hkp : ¬ k < pagesOf R len := fun h => hlt ((pagesOf_lt (by omega)).1 h)
      obtain rfl : k = pagesOf R len := by omega
      have hlt' : ¬ ((pagesOf R len * R : Nat) : Int) < (len : Int) := by omega
      generalize pagesOf R len * R = o at *
      clear hY ha hlt hkp
      gi_wp2
      go_end0
      exact ⟨⟨_, rfl⟩, .inl ⟨_, HPRE.out, hJs⟩⟩
theorem chunk_any (a : Option Addr) (len cap R : Nat) (hR : 1 ≤ R ∧ R ≤ 1000) (w : World) : Calls Tryz.prog 106 #[.slice a len cap, .int .i64 (R : Int)] w fun e w' => e = .returned (.func (.func 127) #[] #[.pointer (some ⟨w.heap.size, 0, none⟩), .pointer (some ⟨w.heap.size + 1, 0, none⟩)]) ∧ w' = (w.alloc (.cells #[.slice a len cap] 33)).alloc (.cells #[.int .i64 (R : Int)] 3) := by
  have hR1 : ¬ (R : Int) < 1 := by omega
  go_enter Tryz.func106, Tryz.ntmps106
  go_wp2_with fail
  go_ret
  exact ⟨rfl, rfl⟩
end Go.Proofs.YtgamakejaknagaaGreat

/-
  The code of layer 11 (store), as it landed: lay: bytes on a block's pages behind the first one, by a range over slices.Chunk.
-/
namespace Go.Proofs.YtgamakejaknagaaGreat
open Go.RowKit Go.Maps Go.Shelf
set_option linter.unusedVariables false
set_option maxRecDepth 8192
attribute [local go_sem] Oper.semAt_some

/-- 'make([]byte, n)'. -/
theorem makeZ11 (n : Nat) (hn : n ≤ 1000) (w : World) : ∃ w', Sem.run Tryz.prog (Instr.makeSlice 33 (.int .i64 (n : Int)) (.int .i64 (n : Int))) w = .ok (.slice (some ⟨w.heap.size, 0, none⟩) n n) w' ∧
    w'.heap[w.heap.size]? = some (.cells ((List.replicate n (0 : Int)).map (Value.int .u8)).toArray 5 (0, 0)) ∧ Below w.heap.size w w' := by
  obtain ⟨i0, hi0, hz0, hz1, hz2⟩ := info_parts Tryz.info5
  obtain ⟨w', hrun, r1, r2⟩ := run_make_full (P := Tryz.prog) w w.heap.size 33 5 i0 (.int .u8 0) 1 Tryz.underlying33 hi0 hz0 hz1 .i64 .i64 n (by rw [hz2]; omega) (by unfold maxLen; omega) (Nat.le_refl _)
  rw [made_ints] at r1
  exact ⟨w', hrun, heap_of_owns r1, (Below.refl _ _).grown r2 (Nat.le_refl _) (by simp)⟩
theorem cellFar {w : World} {p q : Addr} {v : Value} (h : q.block ≠ p.block) : (w.setCell p v).cell? q = w.cell? q := World.cell?_of_block (Below.heap_setCell w p v q.block h)
theorem cell_up {w : World} {p : Addr} {v : Value} (h : w.cell? p = some v) (o : Obj) : (w.alloc o).cell? p = some v := by rw [(below_one w o).cell (lt_of_cell h)]; exact h
theorem soft_up {w : World} {p : Addr} {v : Value} (h : w.cell? p = some v) (hf : w.frozen? p = false) (o : Obj) : (w.alloc o).frozen? p = false := by rw [(below_one w o).frozen (lt_of_cell h)]; exact hf
section
variable {G : Geo} {B : CB} {F : Nat → Prop} {N : Nat} {S : CS} {d s g : Nat} {st : List Int} {nu : Int} {dn : Bool}
theorem SDoes.setNew {F' : Nat → Prop} {w w' : World} (h : SDoes F s g w F' w') {p : Addr} (hp : w.heap.size ≤ p.block) (v : Value) : SDoes F s g w F' (w'.setCell p v) := ⟨h.tn.setCell (.inr hp) v, h.nw⟩
theorem OffS.set {k : IntKind} {w : World} {a : Option Addr} {len cap : Nat} {z : List Int} (h : OffS F s g k w a len cap z) (p : Addr) (v : Value) (hp : 0 < len → ∀ q, a = some q → q.block ≠ p.block) : OffS F s g k (w.setCell p v) a len cap z := by
  refine ⟨⟨h.row.hlen, h.row.hcap, h.row.hmax, h.row.hnil, fun h0 => ?_⟩, h.off⟩
  obtain ⟨b, off, rfl, hb, hc⟩ := h.row.hcell h0
  refine ⟨b, off, rfl, by simpa using hb, fun i hi => ?_⟩
  rw [cellFar (q := ⟨b, off + i, none⟩) (hp h0 ⟨b, off, none⟩ rfl)]
  exact hc i hi
/-- lay, behind the pieces pre. -/
structure LayI (G : Geo) (B : CB) (F : Nat → Prop) (N : Nat) (S : CS) (d s g : Nat) (st : List Int) (nu : Int) (dn : Bool) (x : Int) (hd D : List Int) (a : Option Addr) (len cap : Nat) (w : World) (k : Nat) (pre : List (Ch G.R len)) (W : World) : Prop where
  ex : ∃ F1 S1, (LAt G B k F1 (N + 4 * pre.length) S1 d s g st nu dn W ∧ Fil G S1 x (hd :: pre.map (fun c => chunkZ G.R D c.1)) ∧ Apart S S1 x) ∧ (∀ y, F1 y → F y ∨ k ≤ y) ∧ SDoes F s g w F1 W ∧ OffS F1 s g .u8 W a len cap D
  c0 : W.cell? ⟨w.heap.size, 0, none⟩ = some (.pointer (some ⟨s, 0, none⟩))
  c1 : W.cell? ⟨w.heap.size + 1, 0, none⟩ = some (.int .i64 x)
  c2 : W.cell? ⟨w.heap.size + 1 + 1, 0, none⟩ = some (.int .i64 (G.R : Int))
  c3 : W.cell? ⟨w.heap.size + 1 + 1 + 1, 0, none⟩ = some (.int .i64 0)
  f3 : W.frozen? ⟨w.heap.size + 1 + 1 + 1, 0, none⟩ = false
  c4 : W.cell? ⟨w.heap.size + 1 + 1 + 1 + 1, 0, none⟩ = some (.int .i64 ((1 + pre.length : Nat) : Int))
  f4 : W.frozen? ⟨w.heap.size + 1 + 1 + 1 + 1, 0, none⟩ = false
  sz : k ≤ W.heap.size
theorem LayI.own {x : Int} {hd D : List Int} {a : Option Addr} {len cap : Nat} {w : World} {k : Nat} (hk : w.heap.size ≤ k) : OwnFrom k (LayI G B F N S d s g st nu dn x hd D a len cap w k) := by
  intro pre W W' row h hg hr
  have hr2 : ∀ r, row = some r → ∃ o : Obj, W.heap[r]? = some o ∧ o.isCells = false := fun r e => (hr r e).2
  obtain ⟨⟨F1, S1, ⟨h1, h2, h3⟩, h4, h5, h6⟩, c0, c1, c2, c3, f3, c4, f4, sz⟩ := h
  exact ⟨⟨F1, S1, ⟨h1.own hg hr, h2, h3⟩, h4, h5.own hg (fun r e => by have := (hr r e).1; omega), h6.own hg hr2⟩, cell_kept c0 hg hr2, cell_kept c1 hg hr2, cell_kept c2 hg hr2, cell_kept c3 hg hr2, (frozen_kept c3 hg hr2).trans f3, cell_kept c4 hg hr2, (frozen_kept c4 hg hr2).trans f4, Nat.le_trans sz hg.size⟩
/-- lay, left at the last of pre. -/
structure LayX (G : Geo) (B : CB) (F : Nat → Prop) (N : Nat) (S : CS) (d s g : Nat) (st : List Int) (nu : Int) (dn : Bool) (x : Int) (hd D : List Int) (len : Nat) (w : World) (k : Nat) (c : Code) (pre : List (Ch G.R len)) (W : World) : Prop where
  ret : c = .ret
  ex : ∃ F1 S1 m, (LAt G B k F1 (N + 4 * pre.length) S1 d s g st nu dn W ∧ Torn G S1 x ((hd :: pre.map (fun c => chunkZ G.R D c.1)).take m) ∧ Apart S S1 x) ∧ (m ≤ 1 + pre.length ∧ S.ah ≠ 0) ∧ SDoes F s g w F1 W
  c3 : W.cell? ⟨w.heap.size + 1 + 1 + 1, 0, none⟩ = some (.int .i64 70)
theorem LayX.own {x : Int} {hd D : List Int} {len : Nat} {w : World} {k : Nat} (hk : w.heap.size ≤ k) (c : Code) : OwnFrom k (LayX G B F N S d s g st nu dn x hd D len w k c) := by
  intro pre W W' row h hg hr
  have hr2 : ∀ r, row = some r → ∃ o : Obj, W.heap[r]? = some o ∧ o.isCells = false := fun r e => (hr r e).2
  obtain ⟨h0, ⟨F1, S1, m, ⟨h1, h2, h3⟩, h4, h5⟩, c3⟩ := h
  exact ⟨h0, ⟨F1, S1, m, ⟨h1.own hg hr, h2, h3⟩, h4, h5.own hg (fun r e => by have := (hr r e).1; omega)⟩, cell_kept c3 hg hr2⟩
/-- The i-th piece of a row. -/
theorem piece_row {k : IntKind} {w : World} {b off len cap R : Nat} {D : List Int} {i : Nat} (h : Row k w (some ⟨b, off, none⟩) len cap D) (hi : i * R < len) (hR : 1 ≤ R) : Row k w (some ⟨b, off + i * R, none⟩) (min R (len - i * R)) (min R (len - i * R)) ((D.drop (i * R)).take R) := by
  have hl := h.hlen
  refine ⟨by rw [List.length_take, List.length_drop, hl], Nat.le_refl _, by have := h.hcap; have := h.hmax; omega, fun e => (by cases e), fun h0 => ?_⟩
  obtain ⟨b', off', e, hb, hc⟩ := h.hcell (by omega)
  simp only [Option.some.injEq, Addr.mk.injEq, and_true] at e
  obtain ⟨rfl, rfl⟩ := e
  refine ⟨b, off + i * R, rfl, hb, fun q hq => ?_⟩
  rw [Nat.add_assoc, hc (i * R + q) (by omega), List.getElem?_take, if_pos (by omega), List.getElem?_drop]

set_option maxHeartbeats 3200000 in
set_option maxRecDepth 100000 in
theorem lay_any (x : Int) (hx : 0 ≤ x ∧ x < G.b) (hd D : List Int) (a : Option Addr) (len cap : Nat) (w : World) (h : StAt G B F N S d s g st nu dn w) (hlim : B.lim ≤ w.heap.size) (hN : N + 300 < 100000000) (hf : Fil G S x [hd]) (hr : OffS F s g .u8 w a len cap D) (hD : IsB D) (hC : len ≤ G.C) :
    Calls Tryz.prog 71 #[.pointer (some ⟨s, 0, none⟩), .int .i64 x, .int .i64 (G.R : Int), .slice a len cap] w fun e w' => ∃ r F1 S1, (e = .returned (.int .i64 r) ∧ StAt G B F1 (N + 4 * pagesOf G.R len) S1 d s g st nu dn w' ∧ SDoes F s g w F1 w' ∧ Apart S S1 x) ∧
      ((r = 0 ∧ Fil G S1 x (hd :: (List.range (pagesOf G.R len)).map (chunkZ G.R D))) ∨ (r = 70 ∧ S.ah ≠ 0 ∧ ∃ m, m ≤ 1 + pagesOf G.R len ∧ Torn G S1 x ((hd :: (List.range (pagesOf G.R len)).map (chunkZ G.R D)).take m))) := by
  have hR := G.ok.hR1
  have hGp := G.ok.hp
  have hpp := may_pages (G := G) hC
  have hGC : G.C ≤ 4032 := by
    unfold Geo.C
    exact Nat.mul_le_mul (show (G.p - 1).toNat ≤ 63 by omega) hR.2
  have hGb := G.ok.hb
  have hDl := hr.row.hlen
  obtain ⟨b, off, hab⟩ : ∃ b off, 0 < len → a = some ⟨b, off, none⟩ := by
    by_cases h0 : 0 < len
    · obtain ⟨b, off, e, _⟩ := hr.row.hcell h0; exact ⟨b, off, fun _ => e⟩
    · exact ⟨0, 0, fun e => absurd e h0⟩
  refine (callsIn_wide (n := 3)).1 ?_
  refine callsIn_of_wp_marks Tryz.func71 rfl trivial ?_ rfl
  simp only [Tryz.ntmps71, List.size_toArray, List.length_cons, List.length_nil, Nat.reduceAdd, Nat.reduceSub, Array.replicate_succ, Array.replicate_zero, List.push_toArray, List.append_toArray, List.nil_append, List.cons_append]
  gi_wp2_with (refine ⟨trivial, ?_⟩; gi_at_call 106; refine (callsIn_wide.2 (chunk_any a len cap G.R (by omega) _)).mono ?_; rintro e w1 ⟨rfl, rfl⟩)
  have q0 : Below w.heap.size w _ := ((((((below_one w (.cells #[.pointer (some ⟨s, 0, none⟩)] 29)).alloc (by simp) (.cells #[.int .i64 x] 3)).alloc (by simp; omega) (.cells #[.int .i64 (G.R : Int)] 3)).alloc (by simp; omega) (.cells #[.int .i64 0] 34)).alloc (by simp; omega) (.cells #[.int .i64 1] 3)).alloc (by simp; omega) (.cells #[.slice a len cap] 33)).alloc (by simp; omega) (.cells #[.int .i64 (G.R : Int)] 3)
  have c0 := cell_up (cell_up (cell_up (cell_up (cell_up (cell_up (new_cell1 w (.pointer (some ⟨s, 0, none⟩)) 29).1 (.cells #[.int .i64 x] 3)) (.cells #[.int .i64 (G.R : Int)] 3)) (.cells #[.int .i64 0] 34)) (.cells #[.int .i64 1] 3)) (.cells #[.slice a len cap] 33)) (.cells #[.int .i64 (G.R : Int)] 3)
  have c1 := cell_up (cell_up (cell_up (cell_up (cell_up (new_cell1 (w.alloc (.cells #[.pointer (some ⟨s, 0, none⟩)] 29)) (.int .i64 x) 3).1 (.cells #[.int .i64 (G.R : Int)] 3)) (.cells #[.int .i64 0] 34)) (.cells #[.int .i64 1] 3)) (.cells #[.slice a len cap] 33)) (.cells #[.int .i64 (G.R : Int)] 3)
  have c2 := cell_up (cell_up (cell_up (cell_up (new_cell1 ((w.alloc (.cells #[.pointer (some ⟨s, 0, none⟩)] 29)).alloc (.cells #[.int .i64 x] 3)) (.int .i64 (G.R : Int)) 3).1 (.cells #[.int .i64 0] 34)) (.cells #[.int .i64 1] 3)) (.cells #[.slice a len cap] 33)) (.cells #[.int .i64 (G.R : Int)] 3)
  have n3 := new_cell1 (((w.alloc (.cells #[.pointer (some ⟨s, 0, none⟩)] 29)).alloc (.cells #[.int .i64 x] 3)).alloc (.cells #[.int .i64 (G.R : Int)] 3)) (.int .i64 0) 34
  have c3 := cell_up (cell_up (cell_up n3.1 (.cells #[.int .i64 1] 3)) (.cells #[.slice a len cap] 33)) (.cells #[.int .i64 (G.R : Int)] 3)
  have f3 := soft_up (cell_up (cell_up n3.1 (.cells #[.int .i64 1] 3)) (.cells #[.slice a len cap] 33)) (soft_up (cell_up n3.1 (.cells #[.int .i64 1] 3)) (soft_up n3.1 n3.2 (.cells #[.int .i64 1] 3)) (.cells #[.slice a len cap] 33)) (.cells #[.int .i64 (G.R : Int)] 3)
  have n4 := new_cell1 ((((w.alloc (.cells #[.pointer (some ⟨s, 0, none⟩)] 29)).alloc (.cells #[.int .i64 x] 3)).alloc (.cells #[.int .i64 (G.R : Int)] 3)).alloc (.cells #[.int .i64 0] 34)) (.int .i64 1) 3
  have c4 := cell_up (cell_up n4.1 (.cells #[.slice a len cap] 33)) (.cells #[.int .i64 (G.R : Int)] 3)
  have f4 := soft_up (cell_up n4.1 (.cells #[.slice a len cap] 33)) (soft_up n4.1 n4.2 (.cells #[.slice a len cap] 33)) (.cells #[.int .i64 (G.R : Int)] 3)
  have c5 := cell_up (new_cell1 (((((w.alloc (.cells #[.pointer (some ⟨s, 0, none⟩)] 29)).alloc (.cells #[.int .i64 x] 3)).alloc (.cells #[.int .i64 (G.R : Int)] 3)).alloc (.cells #[.int .i64 0] 34)).alloc (.cells #[.int .i64 1] 3)) (.slice a len cap) 33).1 (.cells #[.int .i64 (G.R : Int)] 3)
  have c6 := (new_cell1 ((((((w.alloc (.cells #[.pointer (some ⟨s, 0, none⟩)] 29)).alloc (.cells #[.int .i64 x] 3)).alloc (.cells #[.int .i64 (G.R : Int)] 3)).alloc (.cells #[.int .i64 0] 34)).alloc (.cells #[.int .i64 1] 3)).alloc (.cells #[.slice a len cap] 33)) (.int .i64 (G.R : Int)) 3).1
  have hsz : (((((((w.alloc (.cells #[.pointer (some ⟨s, 0, none⟩)] 29)).alloc (.cells #[.int .i64 x] 3)).alloc (.cells #[.int .i64 (G.R : Int)] 3)).alloc (.cells #[.int .i64 0] 34)).alloc (.cells #[.int .i64 1] 3)).alloc (.cells #[.slice a len cap] 33)).alloc (.cells #[.int .i64 (G.R : Int)] 3)).heap.size = w.heap.size + 7 := by simp
  simp only [World.size_alloc] at c1 c2 c3 f3 c4 f4 c5 c6
  clear n3 n4
  generalize (((((((w.alloc (.cells #[.pointer (some ⟨s, 0, none⟩)] 29)).alloc (.cells #[.int .i64 x] 3)).alloc (.cells #[.int .i64 (G.R : Int)] 3)).alloc (.cells #[.int .i64 0] 34)).alloc (.cells #[.int .i64 1] 3)).alloc (.cells #[.slice a len cap] 33)).alloc (.cells #[.int .i64 (G.R : Int)] 3)) = w0 at *
  have hsd := h.sb.slt
  have hgd := h.sb.glt
  have hdd := h.db.lt
  have HFR : Hid (∀ y, F y → y < w.heap.size) := h.chip.fresh
  have HRL : Hid (0 < len → ∀ y, a = some y → y.block < w.heap.size) := fun h0 y hy => hr.row.blk_lt h0 y hy
  obtain ⟨B', hlat, hback⟩ := lat_of (h.below q0) (Nat.le_trans hlim q0.size)
  have hI0 : LayI G B' F N S d s g st nu dn x hd D a len cap w w0.heap.size [] w0 :=
    ⟨⟨F, S, ⟨hlat, hf, Apart.refl _ _⟩, fun y hy => .inl hy, SDoes.of_below q0, hr.step (SDoes.of_below q0)⟩, c0, c1, c2, c3, f3, c4, f4, Nat.le_refl _⟩
  clear c0 c1 c2 c3 f3 c4 f4 q0
  refine wpIn_rangeFunc_ownG rfl (by omega) (gf := 127) (lb := #[.pointer (some ⟨w.heap.size + 1 + 1 + 1 + 1 + 1, 0, none⟩), .pointer (some ⟨w.heap.size + 1 + 1 + 1 + 1 + 1 + 1, 0, none⟩)]) rfl trivial (enters_of Tryz.func127 (by kernel_rfl) rfl)
    (chunk_stops _ (by omega) (w.heap.size + 1 + 1 + 1 + 1 + 1) (w.heap.size + 1 + 1 + 1 + 1 + 1 + 1) b off a len cap G.R hab hr.row.hcap hr.row.hmax (by omega) (by omega) w0 (by omega) (by omega) c5 c6) keeps2_t keeps2_b (Below.refl _ _) (fun _ => rfl)
    (LayI G B' F N S d s g st nu dn x hd D a len cap w w0.heap.size) (LayX G B' F N S d s g st nu dn x hd D len w w0.heap.size)
    (LayI.own (by omega)) (LayX.own (by omega)) hI0
    (fun c => { tmps := #[.pointer (some ⟨s, 0, none⟩), .int .i64 x, .int .i64 (G.R : Int), .slice a len cap, .pointer (some ⟨w.heap.size, 0, none⟩), .pointer (some ⟨w.heap.size + 1, 0, none⟩), .pointer (some ⟨w.heap.size + 1 + 1, 0, none⟩), undef, .pointer (some ⟨w.heap.size + 1 + 1 + 1, 0, none⟩), .pointer (some ⟨w.heap.size + 1 + 1 + 1 + 1, 0, none⟩),
      .slice (some ⟨b, off + c.1 * G.R, none⟩) (min G.R (len - c.1 * G.R)) (min G.R (len - c.1 * G.R)), undef, undef, .slice a len cap, .int .i64 (G.R : Int), .func (.func 127) #[] #[.pointer (some ⟨w.heap.size + 1 + 1 + 1 + 1 + 1, 0, none⟩), .pointer (some ⟨w.heap.size + 1 + 1 + 1 + 1 + 1 + 1, 0, none⟩)],
      .slice (some ⟨b, off + c.1 * G.R, none⟩) (min G.R (len - c.1 * G.R)) (min G.R (len - c.1 * G.R)), undef, undef, undef, undef, undef, undef, undef, undef, undef, undef, undef, undef, undef, undef, undef, undef, undef, undef], defers := [] }) ?assign ?body ?done ?stop
  case assign =>
    intro l c W K hK
    gi_wp2
    exact hK
  case body =>
    rintro l pre c W hI hlen
    obtain ⟨⟨F1, S1, ⟨hl, hfil, hap⟩, hnw, hsd1, hof⟩, c0, c1, c2, c3, f3, c4, f4, hWs⟩ := hI
    obtain ⟨W1, hmk, hb1, q1⟩ := makeZ11 G.R (by omega) W
    have hofr := hof.row.below q1 (Nat.le_refl _)
    rw [hab (by have := c.2; omega)] at hofr
    have hpr := piece_row hofr c.2 (by omega)
    obtain ⟨W2, hcp, hb2, q2⟩ := copy_front (P := Tryz.prog) (dT := 33) (ty := 3) Tryz.underlying33 (by kernel_rfl) hb1 (by omega) hpr (q1.mono (Nat.le_refl _)) (Nat.le_refl _)
    have hck : (D.drop (c.1 * G.R)).take G.R ++ List.replicate (G.R - min G.R (len - c.1 * G.R)) 0 = chunkZ G.R D c.1 := by
      unfold chunkZ
      rw [List.length_take, List.length_drop, hDl]
    rw [hck] at hb2
    have rP : Row .u8 W2 (some ⟨W.heap.size, 0, none⟩) G.R G.R (chunkZ G.R D c.1) := (show Blk W2 W.heap.size (chunkZ G.R D c.1) from hb2).row (chunkZ_len _ _ _) (by unfold maxLen; omega)
    have hl2 := hl.below q2
    have hof2 := hof.step (SDoes.of_below q2)
    have hsd2 := hsd1.trans (SDoes.of_below q2)
    have KF2 : KeepsFrom w0.heap.size W W2 := (keeps_of_below q2).from _
    have K22 : Keeps2 (w.heap.size + 1 + 1 + 1 + 1 + 1) (w.heap.size + 1 + 1 + 1 + 1 + 1 + 1) W W2 := ⟨keepsBox_of_below q2, keepsBox_of_below q2⟩
    have hW2s := q2.size
    have d0 : W2.cell? ⟨w.heap.size, 0, none⟩ = _ := (q2.cell (lt_of_cell c0)).trans c0
    have d1 : W2.cell? ⟨w.heap.size + 1, 0, none⟩ = _ := (q2.cell (lt_of_cell c1)).trans c1
    have d2 : W2.cell? ⟨w.heap.size + 1 + 1, 0, none⟩ = _ := (q2.cell (lt_of_cell c2)).trans c2
    have d3 : W2.cell? ⟨w.heap.size + 1 + 1 + 1, 0, none⟩ = _ := (q2.cell (lt_of_cell c3)).trans c3
    have e3 : W2.frozen? ⟨w.heap.size + 1 + 1 + 1, 0, none⟩ = _ := (q2.frozen (lt_of_cell c3)).trans f3
    have d4 : W2.cell? ⟨w.heap.size + 1 + 1 + 1 + 1, 0, none⟩ = _ := (q2.cell (lt_of_cell c4)).trans c4
    have e4 : W2.frozen? ⟨w.heap.size + 1 + 1 + 1 + 1, 0, none⟩ = _ := (q2.frozen (lt_of_cell c4)).trans f4
    have c2W1 : W1.cell? ⟨w.heap.size + 1 + 1, 0, none⟩ = _ := (q1.cell (lt_of_cell c2)).trans c2
    have HL2 : Hid _ := hl2
    have HFIL : Hid _ := hfil
    have HOF2 : Hid _ := hof2
    have HSD2 : Hid _ := hsd2
    have HKF2 : Hid _ := KF2
    have HK22 : Hid _ := K22
    have HRP : Hid _ := rP
    have HNW : Hid _ := hnw
    have HAP : Hid _ := hap
    have HDC : Hid (IsB (chunkZ G.R D c.1)) := chunkZ_isB hD _
    have hRm : G.R ≤ 1000 := by omega
    clear hl2 hfil hof2 hsd2 KF2 K22 rP hl hof hsd1 hnw hap c0 c1 c3 f3 c4 f4 hofr hpr hb1 hb2 hck q1 q2
    generalize min G.R (len - c.1 * G.R) = pl at *
    generalize off + c.1 * G.R = po at *
    generalize W.heap.size = gp at *
    dsimp only
    gi_wp2
    have hyb : inB0 (((1 + pre.length : Nat)) : Int) G.p = true := inB0_of (by omega)
    have hu1 : S1.use G x true = 0 := use_of HFIL.out.up (inB0_of hx) rfl HFIL.out.bd
    have hxi : I64 x := by unfold I64; omega
    have hyi : I64 (((1 + pre.length : Nat)) : Int) := by unfold I64; omega
    have hls : (hd :: pre.map (fun c => chunkZ G.R D c.1)).length = 1 + pre.length := by simp; omega
    have ds := HL2.out.at_.sb.c0
    have hwr := drvWrite_yes (B := B') (F := F1) x (((1 + pre.length : Nat)) : Int) hxi hyi (some ⟨gp, 0, none⟩) G.R (chunkZ G.R D c.1) W2.drew (HL2.out.below ((Below.refl _ _).drew)).at_.db HL2.out.at_.fd (HL2.out.below ((Below.refl _ _).drew)).at_.chip (HRP.out.below ((Below.refl _ _).drew) (Nat.le_refl _)) HDC.out (by omega) hyb hu1
    have HFIN : Hid (∀ (V : World) (z : List Int), IsPack G.s G.n G.f G.m G.W (chunkZ G.R D c.1) z → Does G B' F1 (N + 4 * pre.length + 4) W2.drew (CS.after G (S1.doProgram G x (((1 + pre.length : Nat)) : Int) z) x).2 V →
        (((V.cell? ⟨w.heap.size, 0, none⟩ = some (.pointer (some ⟨s, 0, none⟩)) ∧ V.cell? ⟨s, 0, none⟩ = some (.pointer (some ⟨d, 0, none⟩))) ∧ V.cell? ⟨w.heap.size + 1, 0, none⟩ = some (.int .i64 x) ∧ V.cell? ⟨w.heap.size + 1 + 1 + 1 + 1, 0, none⟩ = some (.int .i64 ((1 + pre.length : Nat) : Int))) ∧
        (V.cell? ⟨w.heap.size + 1 + 1 + 1, 0, none⟩ = some (.int .i64 0) ∧ V.frozen? ⟨w.heap.size + 1 + 1 + 1, 0, none⟩ = false ∧ V.frozen? ⟨w.heap.size + 1 + 1 + 1 + 1, 0, none⟩ = false)) ∧
        (((CS.after G (S1.doProgram G x (((1 + pre.length : Nat)) : Int) z) x).1 = 0 ∧ KeepsFrom w0.heap.size W (V.setCell ⟨w.heap.size + 1 + 1 + 1 + 1, 0, none⟩ (.int .i64 ((1 + pre.length : Nat) + 1))) ∧ Keeps2 (w.heap.size + 1 + 1 + 1 + 1 + 1) (w.heap.size + 1 + 1 + 1 + 1 + 1 + 1) W (V.setCell ⟨w.heap.size + 1 + 1 + 1 + 1, 0, none⟩ (.int .i64 ((1 + pre.length : Nat) + 1))) ∧
            LayI G B' F N S d s g st nu dn x hd D a len cap w w0.heap.size (pre ++ [c]) (V.setCell ⟨w.heap.size + 1 + 1 + 1 + 1, 0, none⟩ (.int .i64 ((1 + pre.length : Nat) + 1)))) ∨
         ((CS.after G (S1.doProgram G x (((1 + pre.length : Nat)) : Int) z) x).1 = 70 ∧ KeepsFrom w0.heap.size W (V.setCell ⟨w.heap.size + 1 + 1 + 1, 0, none⟩ (.int .i64 70)) ∧ LayX G B' F N S d s g st nu dn x hd D len w w0.heap.size .ret (pre ++ [c]) (V.setCell ⟨w.heap.size + 1 + 1 + 1, 0, none⟩ (.int .i64 70))))) := by
      intro V z hz dd
      obtain ⟨F2, hl3, sd3, t3, kf3⟩ := (HL2.out.below ((Below.refl _ _).drew)).does dd
      have hres := write_res hx HFIL.out (by rw [hls]; omega) HDC.out (chunkZ_len _ _ _) hz
      rw [hls] at hres
      obtain ⟨ap3, hres⟩ := hres
      have hnF : ∀ y, w.heap.size ≤ y → y < w0.heap.size → ¬ F1 y := fun y h1 h2 hf1 => by
        rcases HNW.out y hf1 with h3 | h3
        · have := HFR.out y h3; omega
        · omega
      have hnF2 : ∀ y, w.heap.size ≤ y → y < w0.heap.size → ¬ F2 y := fun y h1 h2 hf2 => by
        rcases sd3.nw y hf2 with h3 | h3
        · exact hnF y h1 h2 h3
        · have : W2.drew.heap.size = W2.heap.size := rfl
          omega
      have hW2 : W2.drew.heap.size = W2.heap.size := rfl
      have cV : ∀ (y : Nat) (v : Value), w.heap.size ≤ y → y < w0.heap.size → W2.cell? ⟨y, 0, none⟩ = some v → V.cell? ⟨y, 0, none⟩ = some v := fun y v h1 h2 hv => by
        rw [t3.cell (p := ⟨y, 0, none⟩) (lt_of_cell hv) (hnF y h1 h2)]; exact hv
      have fV : ∀ (y : Nat) (v : Value), w.heap.size ≤ y → y < w0.heap.size → W2.cell? ⟨y, 0, none⟩ = some v → V.frozen? ⟨y, 0, none⟩ = W2.frozen? ⟨y, 0, none⟩ := fun y v h1 h2 hv =>
        World.frozen?_of_block (t3.block y (lt_of_cell hv) (hnF y h1 h2))
      have nw2 : ∀ y, F2 y → F y ∨ w0.heap.size ≤ y := fun y hy => by
        rcases sd3.nw y hy with h3 | h3
        · exact HNW.out y h3
        · exact .inr (by omega)
      have hds : V.cell? ⟨s, 0, none⟩ = some (.pointer (some ⟨d, 0, none⟩)) := hl3.at_.sb.c0
      have v0 := cV _ _ (Nat.le_refl _) (by omega) d0
      have v1 := cV _ _ (by omega) (by omega) d1
      have v2 := cV _ _ (by omega) (by omega) d2
      have v3 := cV _ _ (by omega) (by omega) d3
      have v4 := cV _ _ (by omega) (by omega) d4
      have g3 := (fV _ _ (by omega) (by omega) d3).trans e3
      have g4 := (fV _ _ (by omega) (by omega) d4).trans e4
      have kfV : KeepsFrom w0.heap.size W V := (HKF2.out.trans ((keeps_of_below ((Below.refl _ W2).drew)).from _)).trans kf3
      have k2V : Keeps2 (w.heap.size + 1 + 1 + 1 + 1 + 1) (w.heap.size + 1 + 1 + 1 + 1 + 1 + 1) W V := ⟨fun v hv => cV _ _ (by omega) (by omega) (HK22.out.1 v hv), fun v hv => cV _ _ (by omega) (by omega) (HK22.out.2 v hv)⟩
      have sdV : SDoes F s g w F2 V := (HSD2.out.trans (SDoes.of_below ((Below.refl _ _).drew))).trans sd3
      have ofV : OffS F2 s g .u8 V a len cap D := (HOF2.out.step (SDoes.of_below ((Below.refl _ _).drew))).step sd3
      have hszV : w0.heap.size ≤ V.heap.size := by have := t3.size; omega
      refine ⟨⟨⟨⟨v0, hds⟩, v1, v4⟩, v3, g3, g4⟩, ?_⟩
      rcases hres with ⟨r0, hfl⟩ | ⟨r70, hah, ls', hls', htn⟩
      · refine .inl ⟨r0, kfV.trans ((KeepsOthers.setCell _ _ _).from _), keeps2_t k2V ⟨keepsBox_set _ _ _ (by dsimp only; omega), keepsBox_set _ _ _ (by dsimp only; omega)⟩, ⟨F2, _, ⟨?_, ?_, HAP.out.trans ap3⟩, nw2, sdV.setNew (by dsimp only; omega) _, ofV.set _ _ (fun h0 q hq => ?_)⟩, ?_, ?_, ?_, ?_, ?_, ?_, ?_, ?_⟩
        · rw [List.length_append, List.length_singleton, Nat.mul_add]
          exact hl3.setOff (hnF2 (w.heap.size + 1 + 1 + 1 + 1) (by omega) (by omega)) (by dsimp only; omega) (by dsimp only; omega) (by dsimp only; omega) _
        · rw [List.map_append, ← List.cons_append]
          exact hfl
        · have := HRL.out h0 q hq
          dsimp only
          omega
        · rw [cellFar (by dsimp only; omega)]; exact v0
        · rw [cellFar (by dsimp only; omega)]; exact v1
        · rw [cellFar (by dsimp only; omega)]; exact v2
        · rw [cellFar (by dsimp only; omega)]; exact v3
        · rw [World.frozen?_setCell]; exact g3
        · rw [World.cell?_setCell_same' _ _ _ (by rw [v4]; rfl), List.length_append, List.length_singleton]
          rfl
        · rw [World.frozen?_setCell]; exact g4
        · simpa using hszV
      · refine .inr ⟨r70, kfV.trans ((KeepsOthers.setCell _ _ _).from _), rfl, ⟨F2, _, ls'.length, ⟨?_, ?_, HAP.out.trans ap3⟩, ⟨?_, fun e => hah (HAP.out.ah e)⟩, sdV.setNew (by dsimp only; omega) _⟩, World.cell?_setCell_same' _ _ _ (by rw [v3]; rfl)⟩
        · rw [List.length_append, List.length_singleton, Nat.mul_add]
          exact hl3.setOff (hnF2 (w.heap.size + 1 + 1 + 1) (by omega) (by omega)) (by dsimp only; omega) (by dsimp only; omega) (by dsimp only; omega) _
        · have e : (hd :: (pre ++ [c]).map (fun c => chunkZ G.R D c.1)).take ls'.length = ls' := by
            rw [List.map_append, ← List.cons_append]
            rcases hls' with rfl | rfl
            · exact List.take_left
            · exact List.take_length
          rw [e]; exact htn
        · rw [List.length_append, List.length_singleton]
          rcases hls' with rfl | rfl
          · omega
          · rw [List.length_append, List.length_singleton]; omega
    have HHW : Hid _ := hwr
    clear hwr HL2 HFIL HOF2 HSD2 HKF2 HK22 HRP HDC d2 d3 e3 e4 c2 c2W1 hmk hcp
    refine region_round (S := fun w' => (w'.cell? ⟨w.heap.size, 0, none⟩ = some (.pointer (some ⟨s, 0, none⟩)) ∧ w'.cell? ⟨s, 0, none⟩ = some (.pointer (some ⟨d, 0, none⟩))) ∧ w'.cell? ⟨w.heap.size + 1, 0, none⟩ = some (.int .i64 x) ∧ w'.cell? ⟨w.heap.size + 1 + 1 + 1 + 1, 0, none⟩ = some (.int .i64 ((1 + pre.length : Nat) : Int)))
      (by kernel_rfl) (fun ⟨_, _, h⟩ => h) (by kernel_rfl) ?_
    refine held_reads (rs := [0, 1, 2, 3, 4, 5, 6]) (fuel := 2) (by kernel_rfl) (fun c d v a w h => by cases d <;> exact h) (by kernel_rfl) ⟨⟨d0, ds⟩, d1, d4⟩ (fun K hK => ?_)
    refine calm_do (.pointer (some ⟨s, 0, none⟩)) rfl (by rfl) (fun w' hw' => ?_) ?_
    · obtain ⟨⟨h0, h1⟩, h2, h3⟩ := hw'
      go_simp
    go_simp
    refine calm_do (.pointer (some ⟨s, 0, none⟩)) rfl (by rfl) (fun w' hw' => ?_) ?_
    · obtain ⟨⟨h0, h1⟩, h2, h3⟩ := hw'
      go_simp
    go_simp
    refine calm_do (.pointer (some ⟨s, 0, none⟩)) rfl (by rfl) (fun w' hw' => ?_) ?_
    · go_simp
    go_simp
    refine calm_do (.pointer (some ⟨d, 0, none⟩)) rfl (by rfl) (fun w' hw' => ?_) ?_
    · obtain ⟨⟨h0, h1⟩, h2, h3⟩ := hw'
      go_simp
    go_simp
    refine calm_do (.int .i64 x) rfl (by rfl) (fun w' hw' => ?_) ?_
    · obtain ⟨⟨h0, h1⟩, h2, h3⟩ := hw'
      go_simp
    go_simp
    refine calm_do (.int .i64 ((1 + pre.length : Nat) : Int)) rfl (by rfl) (fun w' hw' => ?_) ?_
    · obtain ⟨⟨h0, h1⟩, h2, h3⟩ := hw'
      go_simp
    go_simp
    refine calm_move _ rfl (by rfl) rfl ?_
    go_simp
    refine calm_nil (hK.out _ ?_)
    clear hK K
    refine heldA_op (i := 7) (fuel := 1) (by kernel_rfl) rfl (by rfl) (fun K hK => ?_)
    go_simp
    refine Calls.mono HHW.out ?_
    rintro e V ⟨z, hz, rfl, dd⟩
    obtain ⟨⟨hS, v3, g3, g4⟩, hres⟩ := HFIN.out V z hz dd
    refine hK _ _ hS ?_
    clear hK K dd hz HFIN HHW
    have v4 := hS.2.2
    have HRES : Hid _ := hres
    clear hres
    generalize (CS.after G (S1.doProgram G x ((1 + pre.length : Nat) : Int) z) x).1 = r at *
    refine held_reads (rs := [8]) (fuel := 0) (by kernel_rfl) (fun c d v a w h => by cases d <;> exact h) (by kernel_rfl) hS (fun K hK => ?_)
    go_simp
    refine calm_assign _ rfl (by rfl) rfl ?_
    go_simp
    refine calm_nil (hK.out _ ?_)
    clear hK K hS
    refine wpAnyH_done (by kernel_rfl) ?_ _
    rcases HRES.out with ⟨rfl, H0⟩ | ⟨rfl, H70⟩
    · have HH : Hid _ := H0
      clear HRES H0
      gi_wp2
      have H := HH.out
      rw [show ((1 + pre.length : Nat) : Int) + 1 = 1 + (pre.length : Int) + 1 by omega] at H
      exact H
    · have HH : Hid _ := H70
      clear HRES H70
      gi_wp2
      exact HH.out
  case done =>
    rintro D' xs W hD hS hI hK
    obtain ⟨⟨F1, S1, ⟨hl, hfil, hap⟩, hnw, hsd1, hof⟩, c0, c1, c2, c3, f3, c4, f4, hWs⟩ := hI
    have hxl : xs.length = pagesOf G.R len := by have := congrArg List.length hS; simpa using this
    have hnF : ¬ F1 (w.heap.size + 1 + 1 + 1) := fun hf1 => by
      rcases hnw _ hf1 with h3 | h3
      · have := HFR.out _ h3; omega
      · omega
    have hK' := (KeepsOthers.setCell W ⟨w.heap.size + 1 + 1 + 1, 0, none⟩ (.int .i64 0)).same D' _ hK rfl
    have hl2 := hl.setOff (p := ⟨w.heap.size + 1 + 1 + 1, 0, none⟩) hnF (by dsimp only; omega) (by dsimp only; omega) (by dsimp only; omega) (.int .i64 0)
    have hl3 := hl2.own (grownBy_putObj' _ D' (.deferred none)) (fun r e => by cases e; exact ⟨hD, _, hK', rfl⟩)
    have sd3 := (hsd1.setNew (p := ⟨w.heap.size + 1 + 1 + 1, 0, none⟩) (by dsimp only; omega) (.int .i64 0)).own (grownBy_putObj' _ D' (.deferred none)) (fun r e => by cases e; omega)
    have hc5 := cell_kept (World.cell?_setCell_same' W ⟨w.heap.size + 1 + 1 + 1, 0, none⟩ (.int .i64 0) (by rw [c3]; rfl)) (grownBy_putObj' _ D' (.deferred none)) (fun r e => by cases e; exact ⟨_, hK', rfl⟩)
    have HFIN : Hid (∃ r F1 S1, ((Ending.returned (.int .i64 0)) = .returned (.int .i64 r) ∧ StAt G B F1 (N + 4 * pagesOf G.R len) S1 d s g st nu dn ((W.setCell ⟨w.heap.size + 1 + 1 + 1, 0, none⟩ (.int .i64 0)).putObj D' (.deferred none)) ∧ SDoes F s g w F1 ((W.setCell ⟨w.heap.size + 1 + 1 + 1, 0, none⟩ (.int .i64 0)).putObj D' (.deferred none)) ∧ Apart S S1 x) ∧
      ((r = 0 ∧ Fil G S1 x (hd :: (List.range (pagesOf G.R len)).map (chunkZ G.R D))) ∨ (r = 70 ∧ S.ah ≠ 0 ∧ ∃ m, m ≤ 1 + pagesOf G.R len ∧ Torn G S1 x ((hd :: (List.range (pagesOf G.R len)).map (chunkZ G.R D)).take m)))) := by
      refine ⟨0, F1, S1, ⟨rfl, ?_, sd3, hap⟩, .inl ⟨rfl, ?_⟩⟩
      · rw [← hxl]; exact hback _ _ _ _ _ _ _ hl3.at_
      · rw [← hS, List.map_map]; exact hfil
    clear hl2 hl3 sd3 hl hfil hap hnw hsd1 hof hI0 hS
    gi_wp2
    refine ⟨by simp, .inl ⟨_, _, rfl, run_takeDeferred hK', ?_⟩⟩
    refine ⟨.int .i64 0, ?_, HFIN.out⟩
    simp [results, Tryz.results71, go_sem, hc5]
  case stop =>
    rintro D' cc pre W hD ⟨k', hk', hpre⟩ hX hK
    obtain ⟨rfl, ⟨F1, S1, m, ⟨hl, htn, hap⟩, ⟨hm, hah⟩, hsd1⟩, c3⟩ := hX
    have hxl : pre.length = k' := by have := congrArg List.length hpre; simpa using this
    have hl3 := (hl.own (grownBy_putObj' _ D' (.deferred none)) (fun r e => by cases e; exact ⟨hD, _, hK, rfl⟩)).mono (N' := N + 4 * pagesOf G.R len) (by omega)
    have sd3 := hsd1.own (grownBy_putObj' _ D' (.deferred none)) (fun r e => by cases e; omega)
    have hc5 := cell_kept c3 (grownBy_putObj' _ D' (.deferred none)) (fun r e => by cases e; exact ⟨_, hK, rfl⟩)
    have e : (hd :: pre.map (fun c => chunkZ G.R D c.1)).take m = (hd :: (List.range (pagesOf G.R len)).map (chunkZ G.R D)).take m := by
      have e1 : pre.map (fun c => chunkZ G.R D c.1) = (List.range k').map (chunkZ G.R D) := by rw [← hpre, List.map_map]; rfl
      have e2 : (List.range k').map (chunkZ G.R D) = ((List.range (pagesOf G.R len)).map (chunkZ G.R D)).take k' := by rw [← List.map_take, List.take_range, Nat.min_eq_left hk']
      have e3 : hd :: ((List.range (pagesOf G.R len)).map (chunkZ G.R D)).take k' = (hd :: (List.range (pagesOf G.R len)).map (chunkZ G.R D)).take (k' + 1) := rfl
      rw [e1, e2, e3, List.take_take, Nat.min_eq_left (by omega)]
    rw [e] at htn
    have HFIN : Hid (∃ r F1 S1, ((Ending.returned (.int .i64 70)) = .returned (.int .i64 r) ∧ StAt G B F1 (N + 4 * pagesOf G.R len) S1 d s g st nu dn (W.putObj D' (.deferred none)) ∧ SDoes F s g w F1 (W.putObj D' (.deferred none)) ∧ Apart S S1 x) ∧
      ((r = 0 ∧ Fil G S1 x (hd :: (List.range (pagesOf G.R len)).map (chunkZ G.R D))) ∨ (r = 70 ∧ S.ah ≠ 0 ∧ ∃ m, m ≤ 1 + pagesOf G.R len ∧ Torn G S1 x ((hd :: (List.range (pagesOf G.R len)).map (chunkZ G.R D)).take m)))) :=
      ⟨70, F1, S1, ⟨rfl, hback _ _ _ _ _ _ _ hl3.at_, sd3, hap⟩, .inr ⟨rfl, hah, m, by omega, htn⟩⟩
    clear hl3 sd3 hl htn hap hsd1 hI0 e
    gi_wp2
    refine ⟨by simp, .inl ⟨_, _, rfl, run_takeDeferred hK, ?_⟩⟩
    refine ⟨.int .i64 70, ?_, HFIN.out⟩
    simp [results, Tryz.results71, go_sem, hc5]
end
end Go.Proofs.YtgamakejaknagaaGreat
