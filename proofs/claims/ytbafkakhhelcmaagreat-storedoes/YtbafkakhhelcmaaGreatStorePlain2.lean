/-
  Layer 11, plain: what an erasure, and what writing a block page by page, whole or cut, make of what the blocks hold.
-/
import Derived.Test.YtbafkakhhelcmaaGreatStorePlain
namespace Go.Proofs.YtbafkakhhelcmaaGreat
open Go.RowKit Go.Maps
set_option linter.unusedVariables false
set_option maxRecDepth 8192

/-- S' is S but for the block x. -/
structure Apart (S S' : CS) (x : Int) : Prop where
  pg : ∀ y, y ≠ x → S'.pg y = S.pg y
  wr : ∀ y, y ≠ x → S'.wr y = S.wr y
  bd : ∀ y, y ≠ x → S'.bd y = S.bd y
  wk : S'.wk = S.wk
  ah : S.ah = 0 → S'.ah = 0
  mark : S.bd x = true → S'.bd x = true
  cl : (∀ y p, S.wr y p = fun _ => false) → ∀ y p, S'.wr y p = fun _ => false
theorem Apart.refl (S : CS) (x : Int) : Apart S S x := ⟨fun _ _ => rfl, fun _ _ => rfl, fun _ _ => rfl, rfl, id, id, id⟩
theorem Apart.trans {S S' S'' : CS} {x : Int} (h : Apart S S' x) (k : Apart S' S'' x) : Apart S S'' x :=
  ⟨fun y e => (k.pg y e).trans (h.pg y e), fun y e => (k.wr y e).trans (h.wr y e), fun y e => (k.bd y e).trans (h.bd y e), k.wk.trans h.wk, fun e => k.ah (h.ah e), fun e => k.mark (h.mark e), fun e => k.cl (h.cl e)⟩
section
variable {G : Geo} {S S' : CS} {x : Int}
theorem counted_is (S : CS) : S.counted.pg = S.pg ∧ S.counted.nx = S.nx ∧ S.counted.bd = S.bd ∧ S.counted.wk = S.wk ∧ S.counted.wr = S.wr ∧ (S.ah = 0 → S.counted.ah = 0) ∧ (S.ah ≠ 1 → S.counted.up = S.up) ∧ (S.ah = 1 → S.counted.up = false) ∧ S.counted.ke = S.ke := by
  unfold CS.counted
  split
  · rename_i h; exact ⟨rfl, rfl, rfl, rfl, rfl, fun e => e, fun _ => rfl, fun e => by omega, rfl⟩
  · split
    · rename_i h1 h2; exact ⟨rfl, rfl, rfl, rfl, rfl, fun _ => rfl, fun e => absurd h2 e, fun _ => rfl, rfl⟩
    · rename_i h1 h2; exact ⟨rfl, rfl, rfl, rfl, rfl, fun e => absurd e h1, fun _ => rfl, fun e => absurd e h2, rfl⟩
theorem apart_counted (S : CS) (x : Int) : Apart S S.counted x := by
  obtain ⟨h1, h2, h3, h4, h5, h6, h7, h8, _⟩ := counted_is S
  exact ⟨fun y _ => by rw [h1], fun y _ => by rw [h5], fun y _ => by rw [h3], h4, h6, fun e => by rw [h3]; exact e, fun e y p => by rw [h5]; exact e y p⟩
theorem apart_mark (S : CS) (x : Int) : Apart S (S.mark x) x :=
  ⟨fun _ _ => rfl, fun _ _ => rfl, fun y e => by show (if y = x then true else S.bd y) = _; rw [if_neg e], rfl, id, fun _ => by show (if x = x then true else S.bd x) = true; rw [if_pos rfl], id⟩
theorem apart_wipe (S : CS) (L : Nat) (x : Int) (k : Nat) : Apart S (S.wipe L x k) x := by
  refine ⟨fun y e => ?_, fun y e => ?_, fun _ _ => rfl, rfl, id, id, fun e y p => ?_⟩
  · funext p; show (if y = x ∧ 0 ≤ p ∧ p < (k : Int) then _ else S.pg y p) = _; rw [if_neg (fun h => e h.1)]
  · funext p; show (if y = x ∧ 0 ≤ p ∧ p < (k : Int) then _ else S.wr y p) = _; rw [if_neg (fun h => e h.1)]
  · show (if y = x ∧ 0 ≤ p ∧ p < (k : Int) then _ else S.wr y p) = _
    split
    · rfl
    · exact e y p
theorem apart_next0 (S : CS) (x : Int) : Apart S (S.next0 x) x := ⟨fun _ _ => rfl, fun _ _ => rfl, fun _ _ => rfl, rfl, id, id, id⟩
theorem apart_lay (S : CS) (x y : Int) (z : List Int) : Apart S (S.lay x y z) x := by
  refine ⟨fun b e => ?_, fun _ _ => rfl, fun _ _ => rfl, rfl, id, id, id⟩
  funext p; show (if b = x ∧ p = y then z else S.pg b p) = _; rw [if_neg (fun h => e h.1)]
/-- What an erasure makes of a chip. -/
def EraseRes (G : Geo) (S : CS) (x : Int) (r : Int) (S' : CS) : Prop :=
  Apart S S' x ∧
  ((r = 73 ∧ S.bd x = true ∧ S' = S) ∨
   (r = 72 ∧ (S.wk x = true ∧ S.bd x = false) ∧ S'.up = true ∧ S'.bd x = true ∧ S'.pg x = S.pg x ∧ S'.wr x = S.wr x) ∨
   (r = 70 ∧ (S.ah ≠ 0 ∧ S.bd x = false) ∧ S'.up = false ∧ ((S'.pg x = S.pg x ∧ S'.wr x = S.wr x) ∨ (S'.pg x 0 = List.replicate G.L 255 ∧ S'.wr x 0 = fun _ => false))) ∨
   (r = 0 ∧ (S.wk x = false ∧ S.bd x = false) ∧ S'.up = true ∧ S'.bd x = false ∧ S'.nx x = 0 ∧ ∀ p, 0 ≤ p → p < G.p → S'.pg x p = List.replicate G.L 255 ∧ S'.wr x p = fun _ => false))
theorem erase_res (hx : 0 ≤ x ∧ x < G.b) (hu : S.up = true) : EraseRes G S x (S.eraseD G x).1 (S.eraseD G x).2 := by
  cases hb : S.bd x with
  | true => rw [eraseD_bad hu hx hb]; exact ⟨Apart.refl _ _, .inl ⟨rfl, hb, rfl⟩⟩
  | false =>
    have hE : S.eraseD G x = CS.after G (S.doErase G x) x := by unfold CS.eraseD; rw [use_of hu (inB0_of hx) rfl hb, if_neg (by simp)]
    obtain ⟨c1, c2, c3, c4, c5, c6, c7, c8, c9⟩ := counted_is S
    rw [hE]
    by_cases ha : S.ah = 1
    · have hd : S.doErase G x = (70, S.counted.wipe G.L x (keptN S.ke G.p.toNat)) := by
        unfold CS.doErase; rw [if_neg (by rw [hu]; simp), if_neg (by rw [inB0_of hx]; simp), if_pos ha]
      rw [hd, after_ok (by simp)]
      refine ⟨(apart_counted S x).trans (apart_wipe _ _ _ _), .inr (.inr (.inl ⟨rfl, ⟨by omega, hb⟩, c8 ha, ?_⟩))⟩
      rcases Nat.eq_zero_or_pos (keptN S.ke G.p.toNat) with h0 | h0
      · left
        simp only [h0, CS.wipe_zero]
        exact ⟨by rw [c1], by rw [c5]⟩
      · right
        constructor
        · show (if x = x ∧ (0 : Int) ≤ 0 ∧ (0 : Int) < (keptN S.ke G.p.toNat : Int) then List.replicate G.L 255 else _) = _
          rw [if_pos ⟨rfl, Int.le_refl _, by omega⟩]
        · show (if x = x ∧ (0 : Int) ≤ 0 ∧ (0 : Int) < (keptN S.ke G.p.toNat : Int) then (fun _ => false) else _) = _
          rw [if_pos ⟨rfl, Int.le_refl _, by omega⟩]
    · cases hw : S.wk x with
      | true =>
        have hd : S.doErase G x = (72, S.counted) := by
          unfold CS.doErase; rw [if_neg (by rw [hu]; simp), if_neg (by rw [inB0_of hx]; simp), if_neg ha, if_pos hw]
        have hcu : S.counted.up = true := (c7 ha).trans hu
        obtain ⟨d1, d2, d3, d4, d5, d6, d7, d8, _⟩ := counted_is S.counted
        rw [hd]
        by_cases hca : S.counted.ah = 1
        · have hm : S.counted.doMark G x = (70, if 0 < S.counted.ke then S.counted.counted.mark x else S.counted.counted) := by
            unfold CS.doMark; rw [if_neg (by rw [hcu]; simp), if_neg (by rw [inB0_of hx]; simp), if_pos hca]
          have hA : CS.after G (72, S.counted) x = (70, if 0 < S.counted.ke then S.counted.counted.mark x else S.counted.counted) := by
            unfold CS.after; rw [if_neg (by simp)]; simp only [hm]; rw [if_pos (by simp)]
          rw [hA]
          have hn0 : S.ah ≠ 0 := fun e => by have := c6 e; omega
          have hup : S.counted.counted.up = false := d8 hca
          split
          · refine ⟨((apart_counted S x).trans (apart_counted _ x)).trans (apart_mark _ x), .inr (.inr (.inl ⟨rfl, ⟨hn0, hb⟩, hup, .inl ⟨?_, ?_⟩⟩))⟩
            · show S.counted.counted.pg x = _; rw [d1, c1]
            · show S.counted.counted.wr x = _; rw [d5, c5]
          · exact ⟨(apart_counted S x).trans (apart_counted _ x), .inr (.inr (.inl ⟨rfl, ⟨hn0, hb⟩, hup, .inl ⟨by rw [d1, c1], by rw [d5, c5]⟩⟩))⟩
        · have hm : S.counted.doMark G x = (0, S.counted.counted.mark x) := by
            unfold CS.doMark; rw [if_neg (by rw [hcu]; simp), if_neg (by rw [inB0_of hx]; simp), if_neg hca]
          have hA : CS.after G (72, S.counted) x = (72, S.counted.counted.mark x) := by
            unfold CS.after; rw [if_neg (by simp)]; simp only [hm]; rw [if_neg (by simp)]
          rw [hA]
          refine ⟨((apart_counted S x).trans (apart_counted _ x)).trans (apart_mark _ x), .inr (.inl ⟨rfl, ⟨hw, hb⟩, (d7 hca).trans hcu, ?_, ?_, ?_⟩)⟩
          · show (if x = x then true else _) = true; rw [if_pos rfl]
          · show S.counted.counted.pg x = _; rw [d1, c1]
          · show S.counted.counted.wr x = _; rw [d5, c5]
      | false =>
        rw [erase_ok hu hx ha hw, after_ok (by simp)]
        refine ⟨((apart_counted S x).trans (apart_wipe _ _ _ _)).trans (apart_next0 _ x), .inr (.inr (.inr ⟨rfl, ⟨hw, hb⟩, (c7 ha).trans hu, ?_, ?_, fun p h0 h1 => ?_⟩))⟩
        · show S.counted.bd x = false; rw [c3]; exact hb
        · show (if x = x then (0 : Int) else _) = 0; rw [if_pos rfl]
        · have hp : x = x ∧ 0 ≤ p ∧ p < ((G.p.toNat : Nat) : Int) := ⟨rfl, h0, by omega⟩
          constructor
          · show (if x = x ∧ 0 ≤ p ∧ p < ((G.p.toNat : Nat) : Int) then List.replicate G.L 255 else _) = _; rw [if_pos hp]
          · show (if x = x ∧ 0 ≤ p ∧ p < ((G.p.toNat : Nat) : Int) then (fun _ => false) else _) = _; rw [if_pos hp]
theorem CInv.apart {K : Int → BK} {k : BK} (h : CInv G S K) (a : Apart S S' x) (hk : BIs G (S'.pg x) (S'.wr x) k) : CInv G S' (updK K x k) := by
  intro y h0 h1
  by_cases e : y = x
  · subst e; rw [updK_at]; exact hk
  · rw [updK_ne _ e, a.pg y e, a.wr y e]; exact h y h0 h1
theorem blank_pis (G : Geo) : PIs G (List.replicate G.L 255) (fun _ => false) none := by
  refine ⟨?_, fewW_none G⟩
  have := G.ok.L2
  rw [List.getElem?_replicate, if_pos (by omega)]
  simp
theorem turn_updK {bd bd' : Int → Bool} {K : Int → BK} {k : BK} (hbd : ∀ y, y ≠ x → bd' y = bd y) (hm : bd x = true → bd' x = true) (hk : bd' x = false → k = K x ∨ ∀ j D n, k ≠ .copy j D n) : Turn bd K bd' (updK K x k) x := by
  refine ⟨hbd, fun y e => updK_ne _ e, fun h => ?_, fun h => ?_⟩
  · cases hb : bd x
    · rfl
    · rw [hm hb] at h; cases h
  · rw [updK_at]; exact hk h
/-- What an erasure makes of what the blocks hold. -/
theorem EraseRes.inv {r : Int} {K : Int → BK} (h : EraseRes G S x r S') (hc : CInv G S K) (hx : 0 ≤ x ∧ x < G.b) :
    ∃ k, (CInv G S' (updK K x k) ∧ Turn S.bd K S'.bd (updK K x k) x) ∧ (k = K x ∨ k = .no) ∧ (r = 0 → k = .no) ∧ (r = 72 ∨ r = 73 → k = K x) := by
  obtain ⟨a, h⟩ := h
  have hold := hc x hx.1 hx.2
  have htn := fun k (hk : k = K x ∨ k = BK.no) => turn_updK (x := x) (K := K) (k := k) a.bd a.mark (fun _ => hk.imp id (fun e j D n => by rw [e]; simp))
  rcases h with ⟨rfl, _, rfl⟩ | ⟨rfl, _, _, _, e1, e2⟩ | ⟨rfl, _, _, ⟨e1, e2⟩ | ⟨e1, e2⟩⟩ | ⟨rfl, _, _, _, _, hp⟩
  · exact ⟨K x, ⟨hc.apart a hold, htn _ (.inl rfl)⟩, .inl rfl, fun e => by omega, fun _ => rfl⟩
  · exact ⟨K x, ⟨hc.apart a (by rw [e1, e2]; exact hold), htn _ (.inl rfl)⟩, .inl rfl, fun e => by omega, fun _ => rfl⟩
  · exact ⟨K x, ⟨hc.apart a (by rw [e1, e2]; exact hold), htn _ (.inl rfl)⟩, .inl rfl, fun e => by omega, fun _ => rfl⟩
  · exact ⟨.no, ⟨hc.apart a (by show PIs G (S'.pg x 0) (S'.wr x 0) none; rw [e1, e2]; exact blank_pis G), htn _ (.inr rfl)⟩, .inr rfl, fun _ => rfl, fun e => by omega⟩
  · have := hp 0 (Int.le_refl _) (by have := G.ok.hp; omega)
    exact ⟨.no, ⟨hc.apart a (by show PIs G (S'.pg x 0) (S'.wr x 0) none; rw [this.1, this.2]; exact blank_pis G), htn _ (.inr rfl)⟩, .inr rfl, fun _ => rfl, fun e => by omega⟩

/-- The block x is written page by page, ls so far. -/
structure Fil (G : Geo) (S : CS) (x : Int) (ls : List (List Int)) : Prop where
  up : S.up = true
  wk : S.wk x = false
  bd : S.bd x = false
  nx : S.nx x = (ls.length : Nat)
  pgs : ∀ i : Nat, i < ls.length → PIs G (S.pg x (i : Nat)) (S.wr x (i : Nat)) (some (ls[i]?.getD []))
  rest : ∀ p : Int, (ls.length : Nat) ≤ p → p < G.p → S.pg x p = List.replicate G.L 255
  wr : ∀ p : Int, 0 ≤ p → p < G.p → S.wr x p = fun _ => false
/-- The power went behind the pages ls. -/
structure Torn (G : Geo) (S : CS) (x : Int) (ls : List (List Int)) : Prop where
  up : S.up = false
  bd : S.bd x = false
  pgs : ∀ i : Nat, i < ls.length → PIs G (S.pg x (i : Nat)) (S.wr x (i : Nat)) (some (ls[i]?.getD []))
  next : (ls.length : Int) < G.p → PIs G (S.pg x (ls.length : Nat)) (S.wr x (ls.length : Nat)) none
theorem fil_zero (hx : 0 ≤ x ∧ x < G.b) (h : EraseRes G S x 0 S') : Fil G S' x [] := by
  obtain ⟨a, h⟩ := h
  rcases h with ⟨e, _⟩ | ⟨e, _⟩ | ⟨e, _⟩ | ⟨_, ⟨hw, _⟩, hu, hb, hn, hp⟩
  · omega
  · omega
  · omega
  · exact ⟨hu, by rw [a.wk]; exact hw, hb, hn, fun i hi => absurd hi (Nat.not_lt_zero i), fun p h0 h1 => (hp p h0 h1).1, fun p h0 h1 => (hp p h0 h1).2⟩
theorem torn_mark {G : Geo} {z : List Int} {k : Nat} (hl : z.length = G.L) (hk : k < G.L) : (padF G.L (z.take k))[G.L - 1]?.getD 0 ≠ 0 := by
  have e : (z.take k).length = k := by rw [List.length_take]; omega
  unfold padF
  rw [List.getElem?_append_right (by omega), e, List.getElem?_replicate, if_pos (by omega)]
  simp
/-- What writing the next page makes. -/
theorem write_res {ls : List (List Int)} {l z : List Int} (hx : 0 ≤ x ∧ x < G.b) (h : Fil G S x ls) (hlen : (ls.length : Int) < G.p) (hB : IsB l) (hR : l.length = G.R) (hz : IsPack G.s G.n G.f G.m G.W l z) :
    Apart S (CS.after G (S.doProgram G x (ls.length : Nat) z) x).2 x ∧
    (((CS.after G (S.doProgram G x (ls.length : Nat) z) x).1 = 0 ∧ Fil G (CS.after G (S.doProgram G x (ls.length : Nat) z) x).2 x (ls ++ [l])) ∨
     ((CS.after G (S.doProgram G x (ls.length : Nat) z) x).1 = 70 ∧ S.ah ≠ 0 ∧ ∃ ls', (ls' = ls ∨ ls' = ls ++ [l]) ∧ Torn G (CS.after G (S.doProgram G x (ls.length : Nat) z) x).2 x ls')) := by
  have hzl : z.length = G.L := by rw [hz.len]; exact G.ok.hL
  have hy : 0 ≤ ((ls.length : Nat) : Int) ∧ ((ls.length : Nat) : Int) < G.p := ⟨by omega, hlen⟩
  obtain ⟨c1, c2, c3, c4, c5, c6, c7, c8, c9⟩ := counted_is S
  have hat : ∀ (T : List Int) (q : Int), (S.counted.lay x (ls.length : Nat) T).pg x q = if q = (ls.length : Nat) then T else S.pg x q := by
    intro T q
    show (if x = x ∧ q = ((ls.length : Nat) : Int) then T else S.counted.pg x q) = _
    rw [c1]
    simp only [true_and]
  have hwr : ∀ (T : List Int) (q : Int), (S.counted.lay x (ls.length : Nat) T).wr x q = S.wr x q := fun T q => by show S.counted.wr x q = _; rw [c5]
  have hfew : ∀ (T : List Int) (q : Int), 0 ≤ q → q < G.p → FewW G ((S.counted.lay x (ls.length : Nat) T).wr x q) := fun T q h0 h1 => by rw [hwr, h.wr q h0 h1]; exact fewW_none G
  have hold : ∀ (T : List Int) (i : Nat), i < ls.length → PIs G ((S.counted.lay x (ls.length : Nat) T).pg x (i : Nat)) ((S.counted.lay x (ls.length : Nat) T).wr x (i : Nat)) (some (ls[i]?.getD [])) := fun T i hi => by
    rw [hat, if_neg (by omega), hwr]; exact h.pgs i hi
  have hnew : PIs G ((S.counted.lay x (ls.length : Nat) z).pg x (ls.length : Nat)) ((S.counted.lay x (ls.length : Nat) z).wr x (ls.length : Nat)) (some l) := by
    rw [hat, if_pos rfl]; exact ⟨⟨hB, hR, hz⟩, hfew z _ hy.1 hy.2⟩
  have hall : ∀ i : Nat, i < (ls ++ [l]).length → PIs G ((S.counted.lay x (ls.length : Nat) z).pg x (i : Nat)) ((S.counted.lay x (ls.length : Nat) z).wr x (i : Nat)) (some ((ls ++ [l])[i]?.getD [])) := fun i hi => by
    rw [List.length_append, List.length_singleton] at hi
    rcases Nat.lt_or_ge i ls.length with h1 | h1
    · rw [List.getElem?_append_left h1]; exact hold z i h1
    · obtain rfl : i = ls.length := by omega
      rw [List.getElem?_append_right (Nat.le_refl _), Nat.sub_self]
      exact hnew
  by_cases ha : S.ah = 1
  · rw [write_cut h.up hx hy h.nx.symm ha hzl]
    refine ⟨(apart_counted S x).trans (apart_lay _ _ _ _), .inr ⟨rfl, by omega, ?_⟩⟩
    have hbd : ∀ T, (S.counted.lay x (ls.length : Nat) T).bd x = false := fun T => by show S.counted.bd x = false; rw [c3]; exact h.bd
    rcases Nat.lt_or_ge (keptN S.ke z.length) G.L with hk | hk
    · refine ⟨ls, .inl rfl, c8 ha, hbd _, hold _, fun _ => ?_⟩
      rw [hat, if_pos rfl]
      exact ⟨torn_mark hzl hk, hfew _ _ hy.1 hy.2⟩
    · have e : padF G.L (z.take (keptN S.ke z.length)) = z := by rw [List.take_of_length_le (by omega), padF_full hzl]
      rw [e]
      refine ⟨ls ++ [l], .inr rfl, c8 ha, hbd _, hall, fun hn => ?_⟩
      rw [List.length_append, List.length_singleton] at hn ⊢
      rw [hat, if_neg (by omega), h.rest _ (by omega) (by omega), hwr, h.wr _ (by omega) (by omega)]
      exact blank_pis G
  · rw [program_ok h.up (fitsP_of hx hy hzl) h.nx.symm ha h.wk, after_ok (by simp)]
    refine ⟨(apart_counted S x).trans (apart_lay _ _ _ _), .inl ⟨rfl, (c7 ha).trans h.up, ?_, ?_, ?_, hall, fun p h0 h1 => ?_, fun p h0 h1 => ?_⟩⟩
    · show S.counted.wk x = false; rw [c4]; exact h.wk
    · show S.counted.bd x = false; rw [c3]; exact h.bd
    · show (if x = x then max (S.counted.nx x) (((ls.length : Nat) : Int) + 1) else _) = _
      rw [if_pos rfl, c2, h.nx, List.length_append, List.length_singleton]
      omega
    · rw [List.length_append, List.length_singleton] at h0
      rw [hat, if_neg (by omega)]
      exact h.rest p (by omega) h1
    · rw [hwr]; exact h.wr p h0 h1
/-- All pages of a logical block's bytes. -/
def fullP (R : Nat) (j : Int) (D : List Int) (n : Int) : List (List Int) := pageOf R j (D.length : Nat) n :: (List.range (pagesOf R D.length)).map (chunkZ R D)
theorem fullP_len (R : Nat) (j : Int) (D : List Int) (n : Int) : (fullP R j D n).length = 1 + pagesOf R D.length := by unfold fullP; simp; omega
theorem fullP_zero (R : Nat) (j : Int) (D : List Int) (n : Int) : (fullP R j D n)[0]?.getD [] = pageOf R j (D.length : Nat) n := rfl
theorem fullP_succ (R : Nat) (j : Int) (D : List Int) (n : Int) (i : Nat) (h : i < pagesOf R D.length) : (fullP R j D n)[1 + i]?.getD [] = chunkZ R D i := by
  unfold fullP
  rw [Nat.add_comm, List.getElem?_cons_succ, List.getElem?_map, List.getElem?_range h]
  rfl
theorem take_getD {ls : List (List Int)} {m i : Nat} (h : i < m) : (ls.take m)[i]?.getD [] = ls[i]?.getD [] := by rw [List.getElem?_take, if_pos h]
theorem fil_copy {j n : Int} {D : List Int} (h : Fil G S x (fullP G.R j D n)) (hm : mayH G.C j (D.length : Nat) n = true) (hB : IsB D) : BIs G (S.pg x) (S.wr x) (.copy j D n) := by
  have hl := fullP_len G.R j D n
  refine ⟨⟨hm, hB, ?_⟩, fun i hi => ?_⟩
  · have := h.pgs 0 (by omega); rwa [fullP_zero] at this
  · have := h.pgs (1 + i) (by omega); rwa [fullP_succ _ _ _ _ _ hi] at this
theorem torn_is {j n : Int} {D : List Int} {m : Nat} (hm : m ≤ (fullP G.R j D n).length) (h : Torn G S x ((fullP G.R j D n).take m)) (hmay : mayH G.C j (D.length : Nat) n = true) (hB : IsB D) :
    ∃ k, BIs G (S.pg x) (S.wr x) k ∧ (k = .no ∨ k = .part j (D.length : Nat) n ∨ k = .copy j D n) := by
  have hl := fullP_len G.R j D n
  have hmy := mayH_yes hmay
  have hpg := may_pages (G := G) (n := D.length) (by omega)
  have hp := G.ok.hp
  have htl : ((fullP G.R j D n).take m).length = m := by rw [List.length_take]; omega
  have hpgs := h.pgs
  have hnx := h.next
  rw [htl] at hpgs hnx
  have hat : ∀ i, i < m → PIs G (S.pg x (i : Nat)) (S.wr x (i : Nat)) (some ((fullP G.R j D n)[i]?.getD [])) := fun i hi => by have := hpgs i hi; rwa [take_getD hi] at this
  rcases Nat.eq_zero_or_pos m with h0 | h0
  · subst h0
    exact ⟨.no, hnx (by omega), .inl rfl⟩
  · have hd := hat 0 h0
    rw [fullP_zero] at hd
    rcases Nat.lt_or_ge m (fullP G.R j D n).length with h1 | h1
    · refine ⟨.part j (D.length : Nat) n, ⟨⟨hmay, hd⟩, m - 1, ?_, ?_⟩, .inr (.inl rfl)⟩
      · rw [show ((D.length : Nat) : Int).toNat = D.length by omega]; omega
      · rw [show 1 + (m - 1) = m by omega]; exact hnx (by omega)
    · refine ⟨.copy j D n, ⟨⟨hmay, hB, hd⟩, fun i hi => ?_⟩, .inr (.inr rfl)⟩
      have := hat (1 + i) (by omega)
      rwa [fullP_succ _ _ _ _ _ hi] at this
end
end Go.Proofs.YtbafkakhhelcmaaGreat
