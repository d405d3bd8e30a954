/-
  Layer 11's laws: what StoreDoes' loop keeps (DI), and what each call makes of it.
-/
import Derived.Test.YtbafkakhhelcmaaGreatStoreDo
namespace Go.Proofs.YtbafkakhhelcmaaGreat
open Go.RowKit Go.Maps
set_option linter.unusedVariables false
set_option maxRecDepth 8192

theorem sameM_self (L : Nat) (M : Int → Option (List Int)) : sameM L M M = true := by unfold sameM; rw [decide_eq_true_iff]; exact fun _ _ => rfl
theorem mb_new {W w w' : World} {G : Geo} {B : CB} {F : Nat → Prop} {N : Nat} {S : CS} {K : Int → BK} {M M' : Int → Option (List Int)} {c : Int} {d s g : Nat} {st : List Int} {nu : Int} {L hb db c1 c2 : Nat}
    (h : LS W G B F N S K M c d s g st nu w) (hm : MapAt w' hb db L M') (q : Below w.heap.size w w') (h1 : w.heap.size ≤ hb ∧ w.heap.size ≤ db) :
    MB W F d s g L w'.heap.size hb db c1 c2 M' (w'.alloc (.cells #[.slice (some ⟨hb, 0, none⟩) L c1, .slice (some ⟨db, 0, none⟩) L c2] 40)) := by
  have q2 := below_one w' (.cells #[.slice (some ⟨hb, 0, none⟩) L c1, .slice (some ⟨db, 0, none⟩) L c2] 40)
  have hlt := hm.lt
  have hz := q2.size
  have hz2 := q.size
  have v := vrow_box w' 40 (.slice (some ⟨hb, 0, none⟩) L c1) (.slice (some ⟨db, 0, none⟩) L c2)
  exact ⟨hm.below q2, v, h.free (by omega) v.lt, h.free h1.1 (by omega), h.free h1.2 (by omega), by omega, by omega⟩
/-- A store whose logical blocks have M, a map that has M', the blocks that are ill. -/
structure DI (W : World) (G : Geo) (B : CB) (L N mb hb db ib nb : Nat) (F : Nat → Prop) (S : CS) (K : Int → BK) (M M' : Int → Option (List Int)) (d s g : Nat) (st : List Int) (nu : Int) (ill : Nat → Bool) (w : World) : Prop where
  h : LS W G B F N S K M (N : Int) d s g st nu w
  hl : st.length = L
  hm : MB W F d s g L mb hb db L L M' w
  vi : VRow w ib 4 nb (fun i => .bool (ill i))
  fi : Free W F d s g ib w
  ah : S.ah = 0
  il : ∀ y : Nat, y < nb → S.bd y = true ∨ S.wk y = true → ill y = true
  ni : ib ≠ mb ∧ ib ≠ hb ∧ ib ≠ db
section
variable {W w w' : World} {G : Geo} {B : CB} {L N N' mb hb db ib nb : Nat} {F F' : Nat → Prop} {S S' : CS} {K K' : Int → BK} {M M' M'' : Int → Option (List Int)} {d s g : Nat} {st st' : List Int} {nu nu' : Int} {ill : Nat → Bool}
theorem DI.below (h : DI W G B L N mb hb db ib nb F S K M M' d s g st nu ill w) (q : Below w.heap.size w w') : DI W G B L N mb hb db ib nb F S K M M' d s g st nu ill w' :=
  ⟨h.h.below q, h.hl, h.hm.below q, h.vi.below q, h.fi.step (SDoes.of_below q), h.ah, h.il, h.ni⟩
theorem DI.more (h : DI W G B L N mb hb db ib nb F S K M M' d s g st nu ill w) (hN : N ≤ N') : DI W G B L N' mb hb db ib nb F S K M M' d s g st nu ill w :=
  ⟨h.h.more hN (by omega), h.hl, h.hm, h.vi, h.fi, h.ah, h.il, h.ni⟩
theorem DI.bel (h : DI W G B L N mb hb db ib nb F S K M M' d s g st nu ill w) : Below W.heap.size W w := h.h.bel
theorem DI.put (h : DI W G B L N mb hb db ib nb F S K M M' d s g st nu ill w) (hm : MapAt w' hb db L M'') (t : Turned (fun x => x = hb ∨ x = db) w w') : DI W G B L N mb hb db ib nb F S K M M'' d s g st nu ill w' :=
  ⟨h.h.aside t h.hm.two, h.hl, ⟨hm, h.hm.vb.turned t (by rintro (e | e); exact h.hm.ne.1 e; exact h.hm.ne.2 e), h.hm.fm.turned t, h.hm.fh.turned t, h.hm.fd.turned t, h.hm.ne⟩, h.vi.turned t (by rintro (e | e); exact h.ni.2.1 e; exact h.ni.2.2 e), h.fi.turned t, h.ah, h.il, h.ni⟩
theorem DI.change (h : DI W G B L N mb hb db ib nb F S K M M' d s g st nu ill w) (hnb : G.b = (nb : Int)) (hb12 : nb ≤ 12) (hN : N + 5000 < 1000000) (j : Nat) (hj : j < L) (D : List Int) (a : Option Addr) (len cap : Nat) (hr : OffS F s g .u8 w a len cap D) (hD : IsB D) (hC : len ≤ G.C) :
    Calls Tryz.prog 19 #[.pointer (some ⟨s, 0, none⟩), .int .i64 (j : Int), .slice a len cap] w fun e w' => ∃ r, e = .returned (.int .i64 r) ∧
      ((r = 0 ∧ ∃ F1 S1 K1 st1 nu1, DI W G B L (N + 4000) mb hb db ib nb F1 S1 K1 (updM M j (some D)) M' d s g st1 nu1 ill w' ∧ SDoes F s g w F1 w') ∨
       (r = 6 ∧ ∃ F1 S1 K1 nu1, DI W G B L (N + 4000) mb hb db ib nb F1 S1 K1 M M' d s g st nu1 ill w' ∧ SDoes F s g w F1 w' ∧ cntB (fun i => !ill i) nb ≤ cntB (fun i => (M i).isSome) L)) := by
  refine (h.h.change j (by rw [h.hl]; exact hj) D a len cap hr hD hC (by omega) (by omega)).mono ?_
  rintro e w' ⟨r, rfl, hc⟩
  refine ⟨r, rfl, ?_⟩
  rcases hc with ⟨F1, S1, K1, st1, nu1, rfl, h1, hst, q, hwk, hah, _, _, ho⟩ | ⟨F1, S1, K1, nu1, rfl, h1, q, hwk, hah, _, _, ho, hall⟩ | ⟨_, _, _, _, _, _, _, _, _, _, hne⟩
  · refine .inl ⟨rfl, F1, S1, K1, st1, nu1, ⟨h1.more (by omega) (by omega), hst.trans h.hl, h.hm.step q, h.vi.turned q.tn h.fi.set, h.fi.step q, hah h.ah, fun y hy hh => h.il y hy ?_, h.ni⟩, q⟩
    rcases hh with e | e
    · exact ho y e
    · rw [hwk] at e; exact .inr e
  · refine .inr ⟨rfl, F1, S1, K1, nu1, ⟨h1.more (by omega) (by omega), h.hl, h.hm.step q, h.vi.turned q.tn h.fi.set, h.fi.step q, hah h.ah, fun y hy hh => h.il y hy ?_, h.ni⟩, q, ?_⟩
    · rcases hh with e | e
      · exact ho y e
      · rw [hwk] at e; exact .inr e
    · have := h1.short nb ill (fun y hy hi => by
        by_cases hm : (y : Int) ∈ st
        · exact hm
        · have e := h.il y hy (ho y (hall y (by omega) (by omega) hm))
          rw [hi] at e; cases e)
      rw [h.hl] at this
      exact this
  · exact absurd h.ah hne
theorem DI.change_no (h : DI W G B L N mb hb db ib nb F S K M M' d s g st nu ill w) (x : Int) (hx : x < 0 ∨ (L : Int) ≤ x) (a : Option Addr) (len cap : Nat) :
    Calls Tryz.prog 19 #[.pointer (some ⟨s, 0, none⟩), .int .i64 x, .slice a len cap] w fun e w' => e = .returned (.int .i64 1) ∧ Below w.heap.size w w' := by
  have hr : rdyS false st.length x = 1 := by rw [h.hl]; unfold rdyS; simp; omega
  have := stChange_no x a len cap w h.h.at_.sb (by rw [hr]; decide)
  rw [hr] at this
  exact this
theorem DI.change_long (h : DI W G B L N mb hb db ib nb F S K M M' d s g st nu ill w) (j : Nat) (hj : j < L) (a : Option Addr) (len cap : Nat) (hl : G.C < len) (hlm : len ≤ maxLen) :
    Calls Tryz.prog 19 #[.pointer (some ⟨s, 0, none⟩), .int .i64 (j : Int), .slice a len cap] w fun e w' => e = .returned (.int .i64 2) ∧ Below w.heap.size w w' :=
  stChange_long j a len cap w h.h.at_ (by rw [h.hl]; exact hj) hl hlm
theorem DI.unmap (h : DI W G B L N mb hb db ib nb F S K M M' d s g st nu ill w) (hN : N + 5000 < 1000000) (j : Nat) (hj : j < L) :
    Calls Tryz.prog 23 #[.pointer (some ⟨s, 0, none⟩), .int .i64 (j : Int)] w fun e w' => e = .returned (.int .i64 0) ∧ ∃ F1 S1 K1 st1 nu1, DI W G B L (N + 4000) mb hb db ib nb F1 S1 K1 (updM M j none) M' d s g st1 nu1 ill w' ∧ SDoes F s g w F1 w' := by
  refine (h.h.unmap j (by rw [h.hl]; exact hj) (by omega)).mono ?_
  rintro e w' ⟨r, rfl, hc⟩
  rcases hc with ⟨F1, S1, K1, st1, nu1, rfl, h1, hst, q, hwk, hah, _, _, ho⟩ | ⟨_, _, _, _, _, _, _, _, _, _, hne⟩
  · refine ⟨rfl, F1, S1, K1, st1, nu1, ⟨h1.more (by omega) (by omega), hst.trans h.hl, h.hm.step q, h.vi.turned q.tn h.fi.set, h.fi.step q, hah h.ah, fun y hy hh => h.il y hy ?_, h.ni⟩, q⟩
    rcases hh with e | e
    · exact ho y e
    · rw [hwk] at e; exact .inr e
  · exact absurd h.ah hne
theorem DI.unmap_no (h : DI W G B L N mb hb db ib nb F S K M M' d s g st nu ill w) (x : Int) (hx : x < 0 ∨ (L : Int) ≤ x) :
    Calls Tryz.prog 23 #[.pointer (some ⟨s, 0, none⟩), .int .i64 x] w fun e w' => e = .returned (.int .i64 1) ∧ w = w' := by
  have hr : rdyS false st.length x = 1 := by rw [h.hl]; unfold rdyS; simp; omega
  have := stUnmap_no x w h.h.at_.sb (by rw [hr]; decide)
  rw [hr] at this
  exact this
theorem DI.weak_no (h : DI W G B L N mb hb db ib nb F S K M M' d s g st nu ill w) (x : Int) (hx : I64 x) (hN : N < 1000000) (hin : inB0 x G.b = false) :
    Calls Tryz.prog 25 #[.pointer (some ⟨B.c, 0, none⟩), .int .i64 x] w fun e w' => (∃ r, e = .returned r) ∧ ∃ F1, DI W G B L (N + 4000) mb hb db ib nb F1 S K M M' d s g st nu ill w' ∧ SDoes F s g w F1 w' := by
  refine (h.h.weak x hx hN).mono ?_
  rintro e w' ⟨hr, F1, h1, q⟩
  have he : S.doWeak G x = S := by unfold CS.doWeak; rw [if_neg (by rw [hin]; simp)]
  rw [he] at h1
  exact ⟨hr, F1, ⟨h1.more (by omega) (by omega), h.hl, h.hm.step q, h.vi.turned q.tn h.fi.set, h.fi.step q, h.ah, h.il, h.ni⟩, q⟩
theorem DI.weak_yes (h : DI W G B L N mb hb db ib nb F S K M M' d s g st nu ill w) (hnb : G.b = (nb : Int)) (y : Nat) (hy : y < nb) (hx : I64 y) (hN : N < 1000000) :
    Calls Tryz.prog 25 #[.pointer (some ⟨B.c, 0, none⟩), .int .i64 (y : Int)] w fun e w' => (∃ r, e = .returned r) ∧ ∃ F1 S1, (w'.cell? ⟨ib, y, none⟩ = some (.bool (ill y)) ∧ w'.frozen? ⟨ib, y, none⟩ = false) ∧
      DI W G B L (N + 4000) mb hb db ib nb F1 S1 K M M' d s g st nu (fun i => if i = y then true else ill i) (w'.setCell ⟨ib, y, none⟩ (.bool true)) ∧ SDoes F s g w F1 w' := by
  refine (h.h.weak (y : Int) hx hN).mono ?_
  rintro e w' ⟨hr, F1, h1, q⟩
  have he : S.doWeak G (y : Int) = S.weaken (y : Int) := by unfold CS.doWeak; rw [if_pos (by unfold inB0; rw [decide_eq_true_iff]; omega)]
  rw [he] at h1
  have v1 := h.vi.turned q.tn h.fi.set
  have f1 := h.fi.step q
  have m1 := h.hm.step q
  have t : Turned (fun x => x = ib) w' (w'.setCell ⟨ib, y, none⟩ (.bool true)) := (Turned.refl (fun x => x = ib) w').setCell (p := ⟨ib, y, none⟩) (.inl rfl) _
  refine ⟨hr, F1, _, ⟨v1.at y hy, v1.soft y⟩, ⟨(h1.more (by omega) (by omega)).aside t (fun x hx => by rw [hx]; exact f1), h.hl, m1.turned t (Ne.symm h.ni.1) (Ne.symm h.ni.2.1) (Ne.symm h.ni.2.2), (v1.set y hy _).eq (fun i _ => ?_), f1.turned t, h.ah, fun z hz hh => ?_, h.ni⟩, q⟩
  · by_cases e : i = y
    · simp only [e, if_true]
    · simp only [e, if_false]
  · by_cases e : z = y
    · simp only [e, if_true]
    · simp only [e, if_false]
      refine h.il z hz ?_
      rcases hh with hh | hh
      · exact .inl hh
      · refine .inr ?_
        have hne : ¬ (z : Int) = (y : Int) := by omega
        simpa [CS.weaken, hne] using hh
theorem DI.flip (h : DI W G B L N mb hb db ib nb F S K M M' d s g st nu ill w) (x y : Int) (hx : I64 x) (hy : I64 y) (a : Option Addr) (len cap : Nat) (ps : List Int) (hr : Row .i64 w a len cap ps) (hdis : 0 < len → ∀ x, a = some x → ¬ F x.block) (hps : ps.length ≤ G.f ∧ ∀ q ∈ ps, 0 ≤ q ∧ q < ((8 * G.n + 13 * G.f : Nat) : Int)) (hN : N < 1000000) :
    Calls Tryz.prog 26 #[.pointer (some ⟨B.c, 0, none⟩), .int .i64 x, .int .i64 y, .slice a len cap] w fun e w' => (∃ r, e = .returned r) ∧ ∃ F1 S1, DI W G B L (N + 4000) mb hb db ib nb F1 S1 K M M' d s g st nu ill w' ∧ SDoes F s g w F1 w' := by
  refine (h.h.flip x y hx hy a len cap ps hr hdis hps hN).mono ?_
  rintro e w' ⟨hr, F1, h1, q⟩
  have e1 : (S.doFlip G x y ps).bd = S.bd := by unfold CS.doFlip; split <;> rfl
  have e2 : (S.doFlip G x y ps).wk = S.wk := by unfold CS.doFlip; split <;> rfl
  have e3 : (S.doFlip G x y ps).ah = S.ah := by unfold CS.doFlip; split <;> rfl
  exact ⟨hr, F1, _, ⟨h1.more (by omega) (by omega), h.hl, h.hm.step q, h.vi.turned q.tn h.fi.set, h.fi.step q, by rw [e3]; exact h.ah, by rw [e1, e2]; exact h.il, h.ni⟩, q⟩
theorem DI.open (h : DI W G B L N mb hb db ib nb F S K M M' d s g st nu ill w) (h1 : 1 ≤ L) (hL : L ≤ 64) :
    Calls Tryz.prog 13 #[.pointer (some ⟨B.c, 0, none⟩), .int .i64 (L : Int)] w fun e w' => ∃ d' s' g' st' nu', e = .returned (.pointer (some ⟨s', 0, none⟩)) ∧ DI W G B L N mb hb db ib nb F { S with up := true } K M M' d' s' g' st' nu' ill w' ∧ (w.heap.size ≤ d' ∧ w.heap.size ≤ s' ∧ w.heap.size ≤ g') ∧ Turned F w w' := by
  refine (open11_new h.h.cl L h1 hL (by rw [← h.hl]; exact h.h.rest)).mono ?_
  rintro e w' ⟨d', s', g', st', nu', ⟨⟨hd, hs, hg⟩, hl⟩, rfl, h2, t⟩
  exact ⟨d', s', g', st', nu', rfl, ⟨h2, hl, (h.hm.other hd hs hg).turned t h.hm.fm.f h.hm.fh.f h.hm.fd.f, h.vi.turned t h.fi.f, (h.fi.other hd hs hg).turned t, h.ah, h.il, h.ni⟩, ⟨hd, hs, hg⟩, t⟩
theorem DI.reads (h : DI W G B L N mb hb db ib nb F S K M M d s g st nu ill w) (j : Nat) (hj : j < L) :
    Calls Tryz.prog 28 #[.pointer (some ⟨s, 0, none⟩), .agg #[.slice (some ⟨hb, 0, none⟩) L L, .slice (some ⟨db, 0, none⟩) L L], .int .i64 (j : Int)] w fun e w' => e = .returned (.bool true) ∧ Below w.heap.size w w' := by
  have hl := h.hl
  have := reads11_any h.h hb db L L (by rw [hl]; exact h.hm.m) h.h.isB j (by rw [hl]; exact hj)
  rw [hl, decide_eq_true rfl] at this
  exact this
theorem DI.all (h : DI W G B L N mb hb db ib nb F S K M M d s g st nu ill w) :
    Calls Tryz.prog 29 #[.pointer (some ⟨s, 0, none⟩), .agg #[.slice (some ⟨hb, 0, none⟩) L L, .slice (some ⟨db, 0, none⟩) L L]] w fun e w' => e = .returned (.bool true) ∧ Below w.heap.size w w' := by
  have hl := h.hl
  have := all11_any h.h hb db L L (by rw [hl]; exact h.hm.m) h.h.isB
  rw [hl, sameM_self] at this
  exact this
end
/-- Between two rounds. -/
def DoAt (W : World) (G : Geo) (B : CB) (L N mb hb db ib nb s : Nat) (w : World) : Prop :=
  ∃ F S K M d g st nu ill, DI W G B L N mb hb db ib nb F S K M M d s g st nu ill w
/-- In a round, with the operation in its box. -/
def DoOp (W : World) (G : Geo) (B : CB) (L N mb hb db ib nb ob : Nat) (kind leb block n keep : Int) (ra : Option Addr) (rl rc s : Nat) (w : World) : Prop :=
  ∃ F S K M d g st nu ill, DI W G B L N mb hb db ib nb F S K M M d s g st nu ill w ∧ OB W F d s g ob kind leb block n keep ra rl rc w
end Go.Proofs.YtbafkakhhelcmaaGreat
