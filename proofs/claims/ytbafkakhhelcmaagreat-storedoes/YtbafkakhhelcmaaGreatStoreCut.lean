/-
 Layer 11's laws: a map in a box beside a store (MB), the chip's own deeds beside a store.
-/
import Derived.Test.YtbafkakhhelcmaaGreatStoreRef4
namespace Go.Proofs.YtbafkakhhelcmaaGreat
open Go.RowKit Go.Maps
set_option linter.unusedVariables false
set_option maxRecDepth 8192

/-- A map's two cells. -/
def mapC (hb db L c1 c2 : Nat) : Nat → Value := fun i => if i = 0 then .slice (some ⟨hb, 0, none⟩) L c1 else .slice (some ⟨db, 0, none⟩) L c2
section
variable {W w w' : World} {G : Geo} {B : CB} {F F' : Nat → Prop} {N N' : Nat} {S S' : CS} {K K' : Int → BK} {M M' : Int → Option (List Int)} {c : Int} {d s g d' s' g' : Nat} {st st' : List Int} {nu nu' : Int}
/-- A map in the box mb; its blocks are the store's in no way. -/
structure MB (W : World) (F : Nat → Prop) (d s g L mb hb db c1 c2 : Nat) (M : Int → Option (List Int)) (w : World) : Prop where
 m : MapAt w hb db L M
 vb : VRow w mb 40 2 (mapC hb db L c1 c2)
 fm : Free W F d s g mb w
 fh : Free W F d s g hb w
 fd : Free W F d s g db w
 ne : mb ≠ hb ∧ mb ≠ db
variable {L mb hb db c1 c2 : Nat}
theorem MB.step (h : MB W F d s g L mb hb db c1 c2 M w) (q : SDoes F s g w F' w') : MB W F' d s g L mb hb db c1 c2 M w' :=
 ⟨h.m.turned q.tn h.fh.set h.fd.set, h.vb.turned q.tn h.fm.set, h.fm.step q, h.fh.step q, h.fd.step q, h.ne⟩
theorem MB.below (h : MB W F d s g L mb hb db c1 c2 M w) (q : Below w.heap.size w w') : MB W F d s g L mb hb db c1 c2 M w' := h.step (SDoes.of_below q)
theorem Free.turned {X : Nat → Prop} {x : Nat} (h : Free W F d s g x w) (t : Turned X w w') : Free W F d s g x w' := ⟨h.f, h.d, h.s, h.g, h.lo, Nat.lt_of_lt_of_le h.lt t.size⟩
theorem MB.turned {X : Nat → Prop} (h : MB W F d s g L mb hb db c1 c2 M w) (t : Turned X w w') (h1 : ¬ X mb) (h2 : ¬ X hb) (h3 : ¬ X db) : MB W F d s g L mb hb db c1 c2 M w' :=
 ⟨h.m.turned t h2 h3, h.vb.turned t h1, h.fm.turned t, h.fh.turned t, h.fd.turned t, h.ne⟩
/-- Beside another store of the chip, that was made since. -/
theorem Free.other {x : Nat} (h : Free W F d s g x w) (hd : w.heap.size ≤ d') (hs : w.heap.size ≤ s') (hg : w.heap.size ≤ g') : Free W F d' s' g' x w :=
 ⟨h.f, by have := h.lt; omega, by have := h.lt; omega, by have := h.lt; omega, h.lo, h.lt⟩
theorem MB.other (h : MB W F d s g L mb hb db c1 c2 M w) (hd : w.heap.size ≤ d') (hs : w.heap.size ≤ s') (hg : w.heap.size ≤ g') : MB W F d' s' g' L mb hb db c1 c2 M w :=
 ⟨h.m, h.vb, h.fm.other hd hs hg, h.fh.other hd hs hg, h.fd.other hd hs hg, h.ne⟩
theorem MB.eq (h : MB W F d s g L mb hb db c1 c2 M w) (e : ∀ j : Nat, j < L → M j = M' j) : MB W F d s g L mb hb db c1 c2 M' w := by
 obtain ⟨E, e1, e2⟩ := h.m.ds
 refine ⟨⟨h.m.hs.eq (fun i hi => by rw [e i hi]), ⟨fun i => if i < L then E i else (M' i).getD [], e1.eq (fun i hi => by simp only [hi, if_true]), fun i D hi => ?_⟩, h.m.ne⟩, h.vb, h.fm, h.fh, h.fd, h.ne⟩
 by_cases hl : i < L
 ·simp only [hl, if_true]; exact e2 i D (by rw [e i hl]; exact hi)
 ·simp only [hl, if_false]; rw [hi]; rfl
theorem MB.b0 (h : MB W F d s g L mb hb db c1 c2 M w) : w.cell? ⟨mb, 0, none⟩ = some (.slice (some ⟨hb, 0, none⟩) L c1) := h.vb.at 0 (by omega)
theorem MB.b1 (h : MB W F d s g L mb hb db c1 c2 M w) : w.cell? ⟨mb, 1, none⟩ = some (.slice (some ⟨db, 0, none⟩) L c2) := h.vb.at 1 (by omega)
/-- The bytes that a logical block has, are bytes. -/
theorem LS.isB (h : LS W G B F N S K M c d s g st nu w) (j : Nat) (D : List Int) (hm : M j = some D) : IsB D := by
 by_cases hj : j < st.length
 ·rcases h.stands hj with ⟨e, _⟩ | ⟨D', n, e, hb⟩
  ·rw [hm] at e; cases e
  ·rw [hm] at e
   cases e
   have hi := h.cl.inv _ hb.good.1.1 hb.good.1.2
   rw [hb.is] at hi
   exact hi.1.2.1
 ·rw [h.rest j (by omega)] at hm; cases hm
/-- A chip whose pages, wrong bits and marks are as they were. -/
theorem CL.moved (h : CL W G B F N S K M c w) (hc : ChipAt G B F' N' S' w') (hpg : S'.pg = S.pg) (hwr : S'.wr = S.wr) (hbd : S'.bd = S.bd) (t : Turned F w w') (f : ∀ x, F' x → F x ∨ w.heap.size ≤ x) : CL W G B F' N' S' K M c w' :=
 ⟨hc, h.lim, fun x x0 x1 => by rw [hpg, hwr]; exact h.inv x x0 x1, by rw [hbd]; exact h.hold, h.le, h.nn, fun x hx => (f x hx).elim (h.low x) (fun e => Nat.le_trans h.bel.size e), h.bel.trans (t.below h.bel.size h.low)⟩
theorem LS.moved (h : LS W G B F N S K M c d s g st nu w) (hs : StAt G B F' N' S' d s g st nu false w') (hpg : S'.pg = S.pg) (hwr : S'.wr = S.wr) (hbd : S'.bd = S.bd) (hup : S'.up = S.up) (t : Turned F w w') (f : ∀ x, F' x → F x ∨ w.heap.size ≤ x) : LS W G B F' N' S' K M c d s g st nu w' :=
 ⟨hs, h.cl.moved hs.chip hpg hwr hbd t f, by rw [hup]; exact h.up, by rw [hbd]; exact h.stok, by rw [hbd]; exact h.num, h.nu1, h.rest, h.lows, h.lowg⟩
theorem LS.arm (h : LS W G B F N S K M c d s g st nu w) (x y : Int) (hx : I64 x) (hy : I64 y) :
  Calls Tryz.prog 30 #[.pointer (some ⟨B.c, 0, none⟩), .int .i64 x, .int .i64 y] w fun e w' => (∃ r, e = .returned r) ∧ ∃ S', LS W G B F N S' K M c d s g st nu w' ∧ SDoes F s g w F w' := by
 refine (chipArm_any x y hx hy w h.at_.chip).mono ?_
 rintro e w' ⟨hr, hc, t⟩
 obtain ⟨h1, h2⟩ := h.at_.chipTo hc t
 exact ⟨hr, _, h.moved h1 rfl rfl rfl rfl t (fun _ h => .inl h), h2⟩
theorem CL.arm (h : CL W G B F N S K M c w) (x y : Int) (hx : I64 x) (hy : I64 y) :
  Calls Tryz.prog 30 #[.pointer (some ⟨B.c, 0, none⟩), .int .i64 x, .int .i64 y] w fun e w' => (∃ r, e = .returned r) ∧ ∃ S', CL W G B F N S' K M c w' ∧ Turned F w w' := by
 refine (chipArm_any x y hx hy w h.chip).mono ?_
 rintro e w' ⟨hr, hc, t⟩
 exact ⟨hr, _, h.moved hc rfl rfl rfl t (fun _ h => .inl h), t⟩
theorem LS.weak (h : LS W G B F N S K M c d s g st nu w) (x : Int) (hx : I64 x) (hN : N < 1000000) :
  Calls Tryz.prog 25 #[.pointer (some ⟨B.c, 0, none⟩), .int .i64 x] w fun e w' => (∃ r, e = .returned r) ∧ ∃ F', LS W G B F' (N + 2) (S.doWeak G x) K M c d s g st nu w' ∧ SDoes F s g w F' w' := by
 refine (chipWeak_any x hx w h.at_.chip hN).mono ?_
 rintro e w' ⟨hr, dd⟩
 have hf := dd
 obtain ⟨F', hst, hsd, t⟩ := h.at_.does dd
 refine ⟨hr, F', h.moved hst ?_ ?_ ?_ ?_ t hsd.nw, hsd⟩ <;> (unfold CS.doWeak; split <;> rfl)
set_option maxHeartbeats 800000 in
theorem open11_new (h : CL W G B F N S K M c w) (L : Nat) (h1 : 1 ≤ L) (hL : L ≤ 64) (hr : ∀ i, (L : Int) ≤ i → M i = none) :
  Calls Tryz.prog 13 #[.pointer (some ⟨B.c, 0, none⟩), .int .i64 (L : Int)] w fun e w' => ∃ d s g st nu, ((w.heap.size ≤ d ∧ w.heap.size ≤ s ∧ w.heap.size ≤ g) ∧ st.length = L) ∧ e = .returned (.pointer (some ⟨s, 0, none⟩)) ∧ LS W G B F N { S with up := true } K M c d s g st nu w' ∧ Turned F w w' := by
 have hon := chipOn_any w h.chip
 go_enter Tryz.func13, Tryz.ntmps13
 go_wp2_with fail
 refine hon.mono ?_
 rintro e w1 ⟨⟨r, rfl⟩, hc1, t1⟩
 clear hon
 have h2 : CL W G B F N { S with up := true } K M c w1 := ⟨hc1, h.lim, h.inv, h.hold, h.le, h.nn, h.low, h.bel.trans (t1.below h.bel.size h.low)⟩
 go_wp2_with fail
 refine (drvNew_any B.c w1).mono ?_
 rintro e w2 ⟨d, hd, rfl, db, q2⟩
 have hfd : ¬ F d := fun hf => by have := hc1.fresh d hf; omega
 have hop := (h2.below q2).opened rfl db hfd L h1 hL hr
 have T2 : Hid (Turned F w w2) := t1.trans (Turned.of_below _ q2)
 have hs1 := t1.size
 have hs2 := q2.size
 clear h h2 hc1 t1 q2 db
 go_wp2_with fail
 refine hop.mono ?_
 rintro e w3 ⟨s, g, st, nu, ⟨hs, hg, hl⟩, rfl, hls, q3⟩
 have HLS : Hid _ := hls
 have T3 : Hid (Turned F w w3) := T2.out.trans (Turned.of_below _ q3)
 clear hop hls q3 T2
 go_wp2_with fail
 go_ret
 exact ⟨d, s, g, st, nu, ⟨⟨by omega, by omega, by omega⟩, hl⟩, rfl, HLS.out, T3.out⟩
end
end Go.Proofs.YtbafkakhhelcmaaGreat
