/-
  What layer 11's laws share: a chip (CL), a store (LS) that were made since W, what logical blocks have (M), and what a call makes of it.
-/
import Derived.Test.YtbafkakhhelcmaaGreatStoreCode12
namespace Go.Proofs.YtbafkakhhelcmaaGreat
open Go.RowKit Go.Maps
set_option linter.unusedVariables false
set_option maxRecDepth 8192

/-- A chip that was made since W; its logical blocks have M; its numbers are at most c. -/
structure CL (W : World) (G : Geo) (B : CB) (F : Nat → Prop) (N : Nat) (S : CS) (K : Int → BK) (M : Int → Option (List Int)) (c : Int) (w : World) : Prop where
  chip : ChipAt G B F N S w
  lim : B.lim = 0
  inv : CInv G S K
  hold : Hold G.b S.bd K M
  le : NumLe G.b K c
  nn : 0 ≤ c
  low : ∀ x, F x → W.heap.size ≤ x
  bel : Below W.heap.size W w
/-- A store of it. -/
structure LS (W : World) (G : Geo) (B : CB) (F : Nat → Prop) (N : Nat) (S : CS) (K : Int → BK) (M : Int → Option (List Int)) (c : Int) (d s g : Nat) (st : List Int) (nu : Int) (w : World) : Prop where
  at_ : StAt G B F N S d s g st nu false w
  cl : CL W G B F N S K M c w
  up : S.up = true
  stok : StOk G.b S.bd K M st
  num : NumOk G.b S.bd K nu
  nu1 : nu ≤ c + 1
  rest : ∀ i, (st.length : Int) ≤ i → M i = none
  lows : W.heap.size ≤ s
  lowg : W.heap.size ≤ g
section
variable {W w w' : World} {G : Geo} {B : CB} {F F' : Nat → Prop} {N N' : Nat} {S S' : CS} {K K' : Int → BK} {M M' : Int → Option (List Int)} {c : Int} {d s g : Nat} {st st' : List Int} {nu nu' : Int}
theorem CL.below (h : CL W G B F N S K M c w) (q : Below w.heap.size w w') : CL W G B F N S K M c w' := ⟨h.chip.below q, h.lim, h.inv, h.hold, h.le, h.nn, h.low, btrans h.bel q⟩
theorem LS.below (h : LS W G B F N S K M c d s g st nu w) (q : Below w.heap.size w w') : LS W G B F N S K M c d s g st nu w' := ⟨h.at_.below q, h.cl.below q, h.up, h.stok, h.num, h.nu1, h.rest, h.lows, h.lowg⟩
theorem LS.bel (h : LS W G B F N S K M c d s g st nu w) : Below W.heap.size W w := h.cl.bel
/-- A row that W had. -/
theorem LS.old (h : LS W G B F N S K M c d s g st nu w) {k : IntKind} {a : Option Addr} {len cap : Nat} {z : List Int} (r : Row k W a len cap z) : OffS F s g k w a len cap z := by
  refine ⟨r.below h.bel (Nat.le_refl _), fun h0 x hx hf => ?_⟩
  have hlt := r.blk_lt h0 x hx
  rcases hf with hf | hf | hf
  · have := h.cl.low _ hf; omega
  · have := h.lows; omega
  · have := h.lowg; omega
/-- A row that is new. -/
theorem LS.new (h : LS W G B F N S K M c d s g st nu w) {k : IntKind} {a : Option Addr} {len cap : Nat} {z : List Int} (r : Row k w' a len cap z) (hn : 0 < len → ∀ q : Addr, a = some q → w.heap.size ≤ q.block) : OffS F s g k w' a len cap z := by
  refine ⟨r, fun h0 x hx hf => ?_⟩
  have hlt := hn h0 x hx
  rcases hf with hf | hf | hf
  · have := h.at_.chip.fresh _ hf; omega
  · have := h.at_.sb.slt; omega
  · have := h.at_.sb.glt; omega
theorem cl_new {ps : List Int} (h : Here W G B F N (CS.fresh G.L ps ps.length) w) (hl : B.lim = 0) : CL W G B F N (CS.fresh G.L ps ps.length) (fun _ => .no) (fun _ => none) 0 w :=
  ⟨h.chip, hl, fun x _ _ => blank_pis G, fun j _ _ => .inl ⟨rfl, fun y D n _ e => by cases e⟩, fun y _ _ => Int.le_refl _, Int.le_refl _, h.low, h.bel⟩
/-- What a logical block has, stands. -/
theorem LS.stands (h : LS W G B F N S K M c d s g st nu w) {j : Nat} (hj : j < st.length) : (M j = none ∧ st[j]?.getD 0 = -1) ∨ ∃ D n, M j = some D ∧ Best G.b S.bd K j (st[j]?.getD 0) D n := h.stok j hj
theorem LS.len (h : LS W G B F N S K M c d s g st nu w) : 1 ≤ st.length ∧ st.length ≤ 64 := h.at_.sb.len
theorem LS.after (h : LS W G B F N S K M c d s g st nu w) (q : SDoes F s g w F' w') : Below W.heap.size W w' ∧ ∀ x, F' x → W.heap.size ≤ x := q.below h.bel h.cl.low h.lows h.lowg

/-- Read. -/
theorem LS.read_none (h : LS W G B F N S K M c d s g st nu w) (j : Nat) (hj : j < st.length) (hm : M j = none) : Calls Tryz.prog 32 #[.pointer (some ⟨s, 0, none⟩), .int .i64 (j : Int)] w fun e w' => e = .returned (.tuple #[.slice none 0 0, .int .i64 0, .int .i64 5]) ∧ w = w' := by
  rcases h.stands hj with ⟨_, hn⟩ | ⟨D, n, e, _⟩
  · exact stRead_none j w h.at_.sb hj hn
  · rw [hm] at e; cases e
theorem LS.read_some (h : LS W G B F N S K M c d s g st nu w) (j : Nat) (hj : j < st.length) {D : List Int} (hm : M j = some D) : Calls Tryz.prog 32 #[.pointer (some ⟨s, 0, none⟩), .int .i64 (j : Int)] w fun e w' => ∃ a cap, ∃ k : Nat, (((0 < D.length → ∀ q : Addr, a = some q → w.heap.size ≤ q.block) ∧ IsB D ∧ D.length ≤ G.C) ∧ ((∀ y p, S.wr y p = fun _ => false) → k = 0)) ∧ e = .returned (.tuple #[.slice a D.length cap, .int .i64 (k : Nat), .int .i64 0]) ∧ Row .u8 w' a D.length cap D ∧ Below w.heap.size w w' := by
  rcases h.stands hj with ⟨e, _⟩ | ⟨D', n, e, hb⟩
  · rw [hm] at e; cases e
  · rw [hm] at e
    cases e
    have hi := h.cl.inv _ hb.good.1.1 hb.good.1.2
    rw [hb.is] at hi
    have hmy := mayH_yes hi.1.1
    refine (stRead_yes j D n w h.at_ hj h.up hb.good.1 hb.good.2 hi).mono ?_
    rintro e w' ⟨a, cap, k, ⟨h1, h2⟩, h3, h4, h5⟩
    exact ⟨a, cap, k, ⟨⟨h1, hi.1.2.1, by omega⟩, fun e => h2 (e _)⟩, h3, h4, h5⟩
theorem LS.has (h : LS W G B F N S K M c d s g st nu w) (j : Nat) (hj : j < st.length) : Calls Tryz.prog 34 #[.pointer (some ⟨s, 0, none⟩), .int .i64 (j : Int)] w fun e w' => e = .returned (.bool (M j).isSome) ∧ w = w' := by
  refine (stHas_any j w h.at_.sb hj).mono ?_
  rintro e w' ⟨rfl, rfl⟩
  refine ⟨ret_bool ?_, rfl⟩
  rcases h.stands hj with ⟨e1, e2⟩ | ⟨D, n, e1, hb⟩
  · rw [e1, e2]; rfl
  · rw [e1]
    have := hb.good.1.1
    simp
    omega
/-- What Change leaves: bytes are there; or all stands as it stood; or the power went. -/
inductive ChgIs (W : World) (G : Geo) (B : CB) (F : Nat → Prop) (N : Nat) (S : CS) (M : Int → Option (List Int)) (c : Int) (d s g : Nat) (st : List Int) (j : Nat) (D : List Int) (w : World) (r : Int) (w' : World) : Prop
  | ok (F1 : Nat → Prop) (S1 : CS) (K1 : Int → BK) (st1 : List Int) (nu1 : Int) (hr : r = 0) (hl : LS W G B F1 (N + 300 * G.b.toNat) S1 K1 (updM M j (some D)) (c + 1) d s g st1 nu1 w') (hst : st1.length = st.length) (q : SDoes F s g w F1 w')
      (wk : S1.wk = S.wk) (ah : S.ah = 0 → S1.ah = 0) (cl : (∀ y p, S.wr y p = fun _ => false) → ∀ y p, S1.wr y p = fun _ => false) (mono : ∀ y, S.bd y = true → S1.bd y = true) (only : ∀ y, S1.bd y = true → S.bd y = true ∨ S.wk y = true)
  | full (F1 : Nat → Prop) (S1 : CS) (K1 : Int → BK) (nu1 : Int) (hr : r = 6) (hl : LS W G B F1 (N + 300 * G.b.toNat) S1 K1 M (c + 1) d s g st nu1 w') (q : SDoes F s g w F1 w')
      (wk : S1.wk = S.wk) (ah : S.ah = 0 → S1.ah = 0) (cl : (∀ y p, S.wr y p = fun _ => false) → ∀ y p, S1.wr y p = fun _ => false) (mono : ∀ y, S.bd y = true → S1.bd y = true) (only : ∀ y, S1.bd y = true → S.bd y = true ∨ S.wk y = true) (all : ∀ y, 0 ≤ y → y < G.b → y ∉ st → S1.bd y = true)
  | down (F1 : Nat → Prop) (S1 : CS) (K1 : Int → BK) (M1 : Int → Option (List Int)) (nu1 : Int) (hr : r = 70) (hl : CL W G B F1 (N + 300 * G.b.toNat) S1 K1 M1 (c + 1) w') (hm : M1 = M ∨ M1 = updM M j (some D)) (hs : StAt G B F1 (N + 300 * G.b.toNat) S1 d s g st nu1 true w') (q : SDoes F s g w F1 w') (hah : S.ah ≠ 0)
theorem LS.change (h : LS W G B F N S K M c d s g st nu w) (j : Nat) (hj : j < st.length) (D : List Int) (a : Option Addr) (len cap : Nat) (hr : OffS F s g .u8 w a len cap D) (hD : IsB D) (hC : len ≤ G.C) (hN : N + 300 * G.b.toNat + 700 < 1000000) (hc : c + 1 ≤ 1000000000) :
    Calls Tryz.prog 19 #[.pointer (some ⟨s, 0, none⟩), .int .i64 (j : Int), .slice a len cap] w fun e w' => ∃ r, e = .returned (.int .i64 r) ∧ ChgIs W G B F N S M c d s g st j D w r w' := by
  have hnu := h.num.1
  have hnc := h.nu1
  have hlen := h.len
  refine (stChange_any j D a len cap w h.at_ (by rw [h.cl.lim]; exact Nat.zero_le _) hN h.up K h.cl.inv hr hD hj hC ⟨hnu, by omega⟩).mono ?_
  rintro e w' ⟨r, F1, S1, K1, st1, nu1, dn1, ⟨rfl, h1, q⟩, hres⟩
  refine ⟨r, rfl, ?_⟩
  obtain ⟨hb, hlow⟩ := h.after q
  have hm1 := h.cl.hold.marks h.stok h.rest hres.mono hres.keep
  have hm2 := h.stok.marks hres.mono hres.keep
  have hm3 := h.num.marks hres.mono
  rcases hres.is with ⟨rfl, ⟨hu, rfl, hon⟩, x, ⟨hxs, hg⟩, rfl, rfl, rfl⟩ | ⟨rfl, ⟨hu, rfl, hon⟩, ⟨rfl, rfl, rfl⟩, hall⟩ | ⟨rfl, ⟨hu, rfl, hah⟩, ⟨rfl, hn1, hn2⟩, x, k, ⟨hxs, hx0, hx1⟩, rfl, hk⟩
  · have hnb := notBest_of hm1 hm2 h.rest hxs
    refine .ok F1 S1 _ _ _ rfl ⟨h1, ⟨h1.chip, h.cl.lim, hres.inv, hm1.put hm3 (Int.le_refl _) hg hnb, h.cl.le.upd (by omega) (by simp only [BK.num]; omega), by have := h.cl.nn; omega, hlow, hb⟩, hu, hm2.put hm3 (Int.le_refl _) hg hxs hj, hm3.put (by omega) (by omega), by omega, fun i hi => ?_, h.lows, h.lowg⟩ (by rw [List.length_set]) q hres.wk hres.ah hres.cl hres.mono (fun y hy => (hon y hy).imp id (fun e => e.1))
    rw [List.length_set] at hi
    rw [updM_ne _ (by omega)]
    exact h.rest i hi
  · refine .full F1 S1 _ _ rfl ⟨h1, ⟨h1.chip, h.cl.lim, hres.inv, hm1, fun y y0 y1 => by have := h.cl.le y y0 y1; omega, by have := h.cl.nn; omega, hlow, hb⟩, hu, hm2, hm3, by omega, h.rest, h.lows, h.lowg⟩ q hres.wk hres.ah hres.cl hres.mono (fun y hy => (hon y hy).imp id (fun e => e.1)) hall
  · have hnb := notBest_of hm1 hm2 h.rest hxs
    have hle : NumLe G.b (updK K x k) (c + 1) := by
      refine h.cl.le.upd (by omega) ?_
      rcases hk with rfl | rfl | rfl | ⟨rfl, _⟩
      · have := h.cl.le x hx0 hx1; omega
      · simp only [BK.num]; have := h.cl.nn; omega
      · simp only [BK.num]; omega
      · simp only [BK.num]; omega
    by_cases hcp : k = .copy (j : Int) D nu ∧ GoodB G.b S1.bd x
    · obtain ⟨rfl, hg⟩ := hcp
      exact .down F1 S1 _ _ _ rfl ⟨h1.chip, h.cl.lim, hres.inv, hm1.put hm3 (Int.le_refl _) hg hnb, hle, by have := h.cl.nn; omega, hlow, hb⟩ (.inr rfl) h1 q hah
    · refine .down F1 S1 _ _ _ rfl ⟨h1.chip, h.cl.lim, hres.inv, hm1.turn hnb (turn_updK (fun _ _ => rfl) id (fun hbx => ?_)), hle, by have := h.cl.nn; omega, hlow, hb⟩ (.inl rfl) h1 q hah
      rcases hk with rfl | rfl | rfl | hk
      · exact .inl rfl
      · exact .inr (fun _ _ _ e => by cases e)
      · exact .inr (fun _ _ _ e => by cases e)
      · exact absurd hk hcp
/-- What Unmap leaves. -/
inductive UnmIs (W : World) (G : Geo) (B : CB) (F : Nat → Prop) (N : Nat) (S : CS) (M : Int → Option (List Int)) (c : Int) (d s g : Nat) (st : List Int) (j : Nat) (w : World) (r : Int) (w' : World) : Prop
  | ok (F1 : Nat → Prop) (S1 : CS) (K1 : Int → BK) (st1 : List Int) (nu1 : Int) (hr : r = 0) (hl : LS W G B F1 (N + 600) S1 K1 (updM M j none) c d s g st1 nu1 w') (hst : st1.length = st.length) (q : SDoes F s g w F1 w')
      (wk : S1.wk = S.wk) (ah : S.ah = 0 → S1.ah = 0) (cl : (∀ y p, S.wr y p = fun _ => false) → ∀ y p, S1.wr y p = fun _ => false) (mono : ∀ y, S.bd y = true → S1.bd y = true) (only : ∀ y, S1.bd y = true → S.bd y = true ∨ S.wk y = true)
  | down (F1 : Nat → Prop) (S1 : CS) (K1 : Int → BK) (M1 : Int → Option (List Int)) (nu1 : Int) (hr : r = 70) (hl : CL W G B F1 (N + 600) S1 K1 M1 c w') (hm : M1 = M ∨ M1 = updM M j none) (hs : StAt G B F1 (N + 600) S1 d s g st nu1 true w') (q : SDoes F s g w F1 w') (hah : S.ah ≠ 0)
theorem updM_same (M : Int → Option (List Int)) (j : Int) (h : M j = none) : updM M j none = M := by
  funext i; unfold updM; split
  · rename_i e; rw [e, h]
  · rfl
theorem LS.unmap (h : LS W G B F N S K M c d s g st nu w) (j : Nat) (hj : j < st.length) (hN : N + 700 < 1000000) :
    Calls Tryz.prog 23 #[.pointer (some ⟨s, 0, none⟩), .int .i64 (j : Int)] w fun e w' => ∃ r, e = .returned (.int .i64 r) ∧ UnmIs W G B F N S M c d s g st j w r w' := by
  rcases h.stands hj with ⟨hm, hn⟩ | ⟨D, n, hm, hb⟩
  · refine (stUnmap_none j w h.at_.sb hj hn).mono ?_
    rintro e w' ⟨rfl, rfl⟩
    refine ⟨0, rfl, .ok F S K st nu rfl ?_ rfl (SDoes.refl _ _ _ _) rfl id id (fun _ h => h) (fun _ h => .inl h)⟩
    rw [updM_same M j hm]
    exact ⟨h.at_.mono (by omega), ⟨h.cl.chip.mono (by omega), h.cl.lim, h.cl.inv, h.cl.hold, h.cl.le, h.cl.nn, h.cl.low, h.cl.bel⟩, h.up, h.stok, h.num, h.nu1, h.rest, h.lows, h.lowg⟩
  · refine (stUnmap_any j w h.at_ hN h.up hj K h.cl.inv M h.cl.hold h.stok h.num h.rest D n hm hb).mono ?_
    rintro e w' ⟨r, F1, S1, K1, st1, dn1, ⟨rfl, h1, q⟩, hres⟩
    refine ⟨r, rfl, ?_⟩
    obtain ⟨hbl, hlow⟩ := h.after q
    have hle : NumLe G.b K1 c := fun y y0 y1 => by
      rcases hres.ks y with e | e
      · rw [e]; exact h.cl.le y y0 y1
      · rw [e]; exact h.cl.nn
    rcases hres.is with ⟨rfl, ⟨hu, rfl, hon⟩, rfl, hH, hS⟩ | ⟨rfl, ⟨hu, rfl, hah⟩, rfl, hH⟩
    · refine .ok F1 S1 K1 _ nu rfl ⟨h1, ⟨h1.chip, h.cl.lim, hres.inv, hH, hle, h.cl.nn, hlow, hbl⟩, hu, hS, hres.num, h.nu1, fun i hi => ?_, h.lows, h.lowg⟩ (by rw [List.length_set]) q hres.wk hres.ah hres.cl hres.mono hon
      rw [List.length_set] at hi
      rw [updM_ne _ (by omega)]
      exact h.rest i hi
    · rcases hH with hH | hH
      · exact .down F1 S1 K1 _ nu rfl ⟨h1.chip, h.cl.lim, hres.inv, hH, hle, h.cl.nn, hlow, hbl⟩ (.inl rfl) h1 q hah
      · exact .down F1 S1 K1 _ nu rfl ⟨h1.chip, h.cl.lim, hres.inv, hH, hle, h.cl.nn, hlow, hbl⟩ (.inr rfl) h1 q hah
/-- Open. -/
theorem CL.opened (h : CL W G B F N S K M c w) (hup : S.up = true) (db : DBox w d B.c) (hd : ¬ F d) (L : Nat) (h1 : 1 ≤ L) (hL : L ≤ 64) (hr : ∀ i, (L : Int) ≤ i → M i = none) :
    Calls Tryz.prog 33 #[.pointer (some ⟨d, 0, none⟩), .int .i64 (L : Int)] w fun e w' => ∃ s g st nu, (w.heap.size ≤ s ∧ w.heap.size ≤ g ∧ st.length = L) ∧ e = .returned (.tuple #[.pointer (some ⟨s, 0, none⟩), .int .i64 0]) ∧ LS W G B F N S K M c d s g st nu w' ∧ Below w.heap.size w w' := by
  refine (open_yes L h1 hL w db h.chip hd hup K h.inv).mono ?_
  rintro e w' ⟨s, g, ⟨hs, hg⟩, rfl, hst, q⟩
  have hb := h.bel.size
  exact ⟨s, g, _, _, ⟨hs, hg, pickL_length _ _⟩, rfl, ⟨hst, h.below q, hup, pick_ok h.hold hup hL, nextS_ok h.inv hup, nextS_le h.le h.nn hup, by rw [pickL_length]; exact hr, by omega, by omega⟩, q⟩
set_option maxHeartbeats 800000 in
theorem open11_any (h : CL W G B F N S K M c w) (L : Nat) (h1 : 1 ≤ L) (hL : L ≤ 64) (hr : ∀ i, (L : Int) ≤ i → M i = none) :
    Calls Tryz.prog 13 #[.pointer (some ⟨B.c, 0, none⟩), .int .i64 (L : Int)] w fun e w' => ∃ d s g st nu, ((w.heap.size ≤ s ∧ w.heap.size ≤ g) ∧ st.length = L) ∧ e = .returned (.pointer (some ⟨s, 0, none⟩)) ∧ LS W G B F N { S with up := true } K M c d s g st nu w' ∧ Turned F w w' := by
  have hon := chipOn_any w h.chip
  go_enter Tryz.func13, Tryz.ntmps13
  go_wp2_with fail
  refine hon.mono ?_
  rintro e w1 ⟨⟨r, rfl⟩, hc1, t1⟩
  clear hon
  have h2 : CL W G B F N { S with up := true } K M c w1 := ⟨hc1, h.lim, h.inv, h.hold, h.le, h.nn, h.low, h.bel.trans (t1.below h.bel.size h.low)⟩
  go_wp2_with fail
  refine (drvNew_any B.c w1).mono ?_
  rintro e w2 ⟨d, hd, rfl, db, q2⟩
  have hfd : ¬ F d := fun hf => by have := hc1.fresh d hf; omega
  have hop := (h2.below q2).opened rfl db hfd L h1 hL hr
  have T2 : Hid (Turned F w w2) := t1.trans (Turned.of_below _ q2)
  have hs1 := t1.size
  have hs2 := q2.size
  clear h h2 hc1 t1 q2 db
  go_wp2_with fail
  refine hop.mono ?_
  rintro e w3 ⟨s, g, st, nu, ⟨hs, hg, hl⟩, rfl, hls, q3⟩
  have HLS : Hid _ := hls
  have T3 : Hid (Turned F w w3) := T2.out.trans (Turned.of_below _ q3)
  clear hop hls q3 T2
  go_wp2_with fail
  go_ret
  exact ⟨d, s, g, st, nu, ⟨⟨by omega, by omega⟩, hl⟩, rfl, HLS.out, T3.out⟩
/-- With no power that goes, and a block that is well and stands for none, Change is done. -/
theorem chg_well {j : Nat} {D : List Int} {r : Int} (h : ChgIs W G B F N S M c d s g st j D w r w') (hah : S.ah = 0) (y : Int) (hy : 0 ≤ y ∧ y < G.b) (hs : y ∉ st) (hb : S.bd y = false) (hw : S.wk y = false) : r = 0 := by
  cases h with
  | ok _ _ _ _ _ hr => exact hr
  | full _ _ _ _ _ _ _ _ _ _ _ only all =>
    rcases only y (all y hy.1 hy.2 hs) with e | e
    · rw [hb] at e; cases e
    · rw [hw] at e; cases e
  | down _ _ _ _ _ _ _ _ _ _ hn => exact absurd hah hn
end
end Go.Proofs.YtbafkakhhelcmaaGreat
