/-
  Layer 12's laws: fill: a store with bytes, some of them read wrongly.
-/
import Derived.Test.YtgamakejaknagaaGreatScrubLaw
namespace Go.Proofs.YtgamakejaknagaaGreat
open Go.RowKit Go.Maps
set_option linter.unusedVariables false
set_option maxRecDepth 8192

/-- Which bits are read wrongly. -/
structure WrV where
  leb : Int
  page : Int
  from_ : Int
  many : Int
/-- A row of such. -/
structure WRow (w : World) (a : Option Addr) (len cap : Nat) (V : Nat → WrV) : Prop where
  hcap : len ≤ cap
  hmax : cap ≤ maxLen
  at_ : 0 < len → ∃ b off, a = some ⟨b, off, none⟩ ∧ b < w.heap.size ∧ ∀ i, i < len → (w.cell? ⟨b, off + i * 4, none⟩ = some (.int .i64 (V i).leb) ∧ w.cell? ⟨b, off + i * 4 + 1, none⟩ = some (.int .i64 (V i).page) ∧ w.cell? ⟨b, off + i * 4 + 2, none⟩ = some (.int .i64 (V i).from_) ∧ w.cell? ⟨b, off + i * 4 + 3, none⟩ = some (.int .i64 (V i).many)) ∧ I64 (V i).leb ∧ I64 (V i).page ∧ I64 (V i).from_ ∧ I64 (V i).many
theorem WRow.below {w w' : World} {a : Option Addr} {len cap : Nat} {V : Nat → WrV} (h : WRow w a len cap V) {B : Nat} (q : Below B w w') (hB : w.heap.size ≤ B) : WRow w' a len cap V := by
  refine ⟨h.hcap, h.hmax, fun h0 => ?_⟩
  obtain ⟨b, off, e, hb, hc⟩ := h.at_ h0
  have hx : ∀ o, w'.cell? ⟨b, o, none⟩ = w.cell? ⟨b, o, none⟩ := fun o => q.cell (p := ⟨b, o, none⟩) (Nat.lt_of_lt_of_le hb hB)
  refine ⟨b, off, e, Nat.lt_of_lt_of_le hb q.size, fun i hi => ?_⟩
  rw [hx, hx, hx, hx]
  exact hc i hi
theorem SRow.below {w w' : World} {a : Option Addr} {len cap : Nat} {D : Nat → List Int} (h : SRow w a len cap D) {B : Nat} (q : Below B w w') (hB : w.heap.size ≤ B) : SRow w' a len cap D := by
  refine ⟨h.hcap, h.hmax, fun h0 => ?_, h.bs, h.sz⟩
  obtain ⟨b, off, e, hb, hc⟩ := h.at_ h0
  refine ⟨b, off, e, Nat.lt_of_lt_of_le hb q.size, fun i hi => ?_⟩
  rw [q.cell (p := ⟨b, off + i, none⟩) (Nat.lt_of_lt_of_le hb hB)]
  exact hc i hi
/-- A row of pairs. -/
structure CRow (w : World) (a : Option Addr) (len cap : Nat) (V : Nat → Int × Int) : Prop where
  hcap : len ≤ cap
  hmax : cap ≤ maxLen
  at_ : 0 < len → ∃ b off, a = some ⟨b, off, none⟩ ∧ b < w.heap.size ∧ ∀ i, i < len → (w.cell? ⟨b, off + i * 2, none⟩ = some (.int .i64 (V i).1) ∧ w.cell? ⟨b, off + i * 2 + 1, none⟩ = some (.int .i64 (V i).2)) ∧ I64 (V i).1 ∧ I64 (V i).2
theorem CRow.below {w w' : World} {a : Option Addr} {len cap : Nat} {V : Nat → Int × Int} (h : CRow w a len cap V) {B : Nat} (q : Below B w w') (hB : w.heap.size ≤ B) : CRow w' a len cap V := by
  refine ⟨h.hcap, h.hmax, fun h0 => ?_⟩
  obtain ⟨b, off, e, hb, hc⟩ := h.at_ h0
  have hx : ∀ o, w'.cell? ⟨b, o, none⟩ = w.cell? ⟨b, o, none⟩ := fun o => q.cell (p := ⟨b, o, none⟩) (Nat.lt_of_lt_of_le hb hB)
  refine ⟨b, off, e, Nat.lt_of_lt_of_le hb q.size, fun i hi => ?_⟩
  rw [hx, hx]
  exact hc i hi
/-- One in its box. -/
structure WBox (w : World) (b : Nat) (l p f m : Int) : Prop where
  lt : b < w.heap.size
  c0 : w.cell? ⟨b, 0, none⟩ = some (.int .i64 l)
  c1 : w.cell? ⟨b, 1, none⟩ = some (.int .i64 p)
  c2 : w.cell? ⟨b, 2, none⟩ = some (.int .i64 f)
  c3 : w.cell? ⟨b, 3, none⟩ = some (.int .i64 m)
theorem WBox.new (w : World) (T : TypeId) (l p f m : Int) : WBox (w.alloc (.cells #[.int .i64 l, .int .i64 p, .int .i64 f, .int .i64 m] T)) w.heap.size l p f m := by
  refine ⟨by simp, ?_, ?_, ?_, ?_⟩ <;> simp [World.cell?_alloc_mark]
theorem WBox.below {w w' : World} {b : Nat} {l p f m : Int} (h : WBox w b l p f m) (q : Below w.heap.size w w') : WBox w' b l p f m :=
  ⟨Nat.lt_of_lt_of_le h.lt q.size, (q.cell (p := ⟨b, 0, none⟩) h.lt).trans h.c0, (q.cell (p := ⟨b, 1, none⟩) h.lt).trans h.c1, (q.cell (p := ⟨b, 2, none⟩) h.lt).trans h.c2, (q.cell (p := ⟨b, 3, none⟩) h.lt).trans h.c3⟩
/-- A store whose first k logical blocks have been changed; nothing went wrong but bits. -/
def FilI (W : World) (G : Geo) (B : CB) (D : Nat → List Int) (len k N d s : Nat) (w : World) : Prop :=
  ∃ F S K M g st nu, LS W G B F N S K M (N : Int) d s g st nu w ∧ st.length = len ∧ (Well S ∧ S.ah = 0) ∧ HasD D len k M
section
variable {W w w' : World} {G : Geo} {B : CB} {F F' : Nat → Prop} {N N' : Nat} {S S' : CS} {K K' : Int → BK} {M M' : Int → Option (List Int)} {c : Int} {d s g : Nat} {st st' : List Int} {nu nu' : Int} {D : Nat → List Int} {len k : Nat}
theorem LS.base {W' : World} (q : Below W.heap.size W W') (h : LS W' G B F N S K M c d s g st nu w) : LS W G B F N S K M c d s g st nu w := by
  have := q.size
  exact ⟨h.at_, ⟨h.cl.chip, h.cl.lim, h.cl.inv, h.cl.hold, h.cl.le, h.cl.nn, fun x hx => Nat.le_trans q.size (h.cl.low x hx), btrans q h.cl.bel⟩, h.up, h.stok, h.num, h.nu1, h.rest, Nat.le_trans q.size h.lows, Nat.le_trans q.size h.lowg⟩
theorem FilI.base {W' : World} (q : Below W.heap.size W W') (h : FilI W' G B D len k N d s w) : FilI W G B D len k N d s w := by
  obtain ⟨F, S, K, M, g, st, nu, h, h1⟩ := h
  exact ⟨F, S, K, M, g, st, nu, LS.base q h, h1⟩
theorem FilI.bel (h : FilI W G B D len k N d s w) : Below W.heap.size W w := by
  obtain ⟨F, S, K, M, g, st, nu, h, _⟩ := h
  exact h.bel
theorem FilI.below (h : FilI W G B D len k N d s w) (q : Below w.heap.size w w') : FilI W G B D len k N d s w' := by
  obtain ⟨F, S, K, M, g, st, nu, h, h1⟩ := h
  exact ⟨F, S, K, M, g, st, nu, h.below q, h1⟩
theorem FilI.mono (h : FilI W G B D len k N d s w) (hN : N ≤ N') : FilI W G B D len k N' d s w := by
  obtain ⟨F, S, K, M, g, st, nu, h, h1⟩ := h
  exact ⟨F, S, K, M, g, st, nu, h.mono hN (by omega), h1⟩
theorem FilI.change (h : FilI W G B D len k N d s w) (hlt : k < len) (hlb : (len : Int) < G.b) (hb12 : G.b ≤ 12) (hN : N + 4400 < 100000000) (hC : (D k).length ≤ G.C) (hB : IsB (D k)) (a : Option Addr) (cap : Nat)
    (hr : Row .u8 w' a (D k).length cap (D k)) (q : Below w.heap.size w w') (hn : ∀ q : Addr, a = some q → w.heap.size ≤ q.block) :
    Calls Tryz.prog 26 #[.pointer (some ⟨s, 0, none⟩), .int .i64 (k : Int), .slice a (D k).length cap] w' fun e w2 => e = .returned (.int .i64 0) ∧ FilI W G B D len (k + 1) (N + 4000) d s w2 := by
  obtain ⟨F, S, K, M, g, st, nu, h, hl, ⟨hwl, hah⟩, hd⟩ := h
  have ho := h.new hr (fun _ => hn)
  refine ((h.below q).change k (by omega) (D k) a _ cap ho hB hC (by omega) (by omega)).mono ?_
  rintro e w2 ⟨r, rfl, hc⟩
  obtain ⟨y, hy, hs⟩ := free_of st G.b (by omega)
  have hr0 := chg_well hc hah y hy hs (hwl.bd y) (hwl.wk y)
  subst hr0
  rcases hc with ⟨F1, S1, K1, st1, nu1, _, h6, hst, _, wk, ah, cl, mo, on⟩ | ⟨_, _, _, _, hr, _⟩ | ⟨_, _, _, _, _, hr, _⟩
  · exact ⟨rfl, F1, S1, K1, _, g, st1, nu1, h6.mono (by omega) (by omega), by omega, ⟨hwl.next wk on, ah hah⟩, hd.put hlt⟩
  · cases hr
  · cases hr
theorem FilI.spoil (h : FilI W G B D len len N d s w) (hN : N < 100000000) (j y : Int) (hy : I64 y) (v : Value) (n : Nat) (ps : List Int) (hv : w'.ownsRow w.heap.size 3 1 v n (ps.map (Value.int .i64))) (q : Below w.heap.size w w') (hps : ps.length ≤ G.f ∧ ∀ q ∈ ps, 0 ≤ q ∧ q < ((8 * G.n + 13 * G.f : Nat) : Int)) :
    Calls Tryz.prog 27 #[.pointer (some ⟨B.c, 0, none⟩), .pointer (some ⟨d, 0, none⟩), .int .i64 (len : Int), .int .i64 j, .int .i64 y, v] w' fun e w2 => (∃ r, e = .returned r) ∧ FilI W G B D len len (N + 2) d s w2 := by
  obtain ⟨F, S, K, M, g, st, nu, h, hl, ⟨hwl, hah⟩, hd⟩ := h
  obtain ⟨a, cap, rfl, hr⟩ := row_of_owns hv
  have ho := h.new hr (fun h0 x hx => by
    obtain ⟨g', h1, h2⟩ := owns_head hv h0
    rw [h2] at hx
    cases hx
    exact h1)
  subst hl
  by_cases hj : 0 ≤ j ∧ j < (st.length : Int)
  · obtain ⟨i, rfl⟩ := Int.eq_ofNat_of_zero_le hj.1
    refine (spoil12_yes (h.below q) i (by omega) (hd.has i (by omega)) y hy a n cap ps ho hps hN).mono ?_
    rintro e w2 ⟨hr, F2, h2, q2⟩
    refine ⟨hr, F2, _, K, M, g, st, nu, h2.mono (Nat.le_refl _) (by omega), rfl, ⟨⟨fun z => ?_, fun z => ?_⟩, ?_⟩, hd⟩
    · have : (S.doFlip G (st[i]?.getD 0) y ps).bd = S.bd := by unfold CS.doFlip; split <;> rfl
      rw [this]; exact hwl.bd z
    · have : (S.doFlip G (st[i]?.getD 0) y ps).wk = S.wk := by unfold CS.doFlip; split <;> rfl
      rw [this]; exact hwl.wk z
    · have : (S.doFlip G (st[i]?.getD 0) y ps).ah = S.ah := by unfold CS.doFlip; split <;> rfl
      rw [this]; exact hah
  · refine (spoil12_no (h.below q) j hj y a n cap).mono ?_
    rintro e w2 ⟨hr, q2⟩
    exact ⟨hr, F, S, K, M, g, st, nu, ((h.below q).below q2).mono (by omega) (by omega), rfl, ⟨hwl, hah⟩, hd⟩
end
/-- What fill leaves. -/
def Filled (W : World) (G : Geo) (D : Nat → List Int) (len cp d s : Nat) (w : World) : Prop := ∃ B : CB, B.c = cp ∧ FilI W G B D len len 60000 d s w
set_option maxHeartbeats 6400000 in
set_option maxRecDepth 100000 in
theorem fill12_any (G : Geo) (a : Option Addr) (len cap : Nat) (D : Nat → List Int) (a2 : Option Addr) (wl cap2 : Nat) (V : Nat → WrV) (w : World) (hr : SRow w a len cap D) (hv : WRow w a2 wl cap2 V) (hm : May12 G D len wl) :
    Calls Tryz.prog 9 #[.agg #[.int .i64 G.b, .int .i64 G.p, .int .i64 ((G.s : Nat)), .int .i64 ((G.n : Nat)), .int .i64 ((G.f : Nat))], .slice a len cap, .slice a2 wl cap2] w fun e w' => ∃ cp d s, e = .returned (.tuple #[.pointer (some ⟨cp, 0, none⟩), .pointer (some ⟨d, 0, none⟩), .pointer (some ⟨s, 0, none⟩)]) ∧ Filled w G D len cp d s w' := by
  obtain ⟨hb12, hl1, hlb, hw30, hfit⟩ := hm
  have HFIT : Hid (∀ i, i < len → (D i).length ≤ G.C) := hfit
  have gk := G.ok
  obtain ⟨iq, hiq, hiq0, hiq1, hiq2⟩ := info_parts Tryz.info3
  have hcp := hr.hcap
  have hmx := hr.hmax
  have hcp2 := hv.hcap
  have hmx2 := hv.hmax
  unfold maxLen at hmx hmx2
  obtain ⟨rb, off, rfl, hrb, hcell⟩ := hr.at_ (by omega)
  have HB := hr.bs
  have HZ := hr.sz
  have HV : Hid (WRow w a2 wl cap2 V) := hv
  have hgb := gbox_new w 23 G.b G.p G.s G.n G.f
  have Q0 : Hid (Below w.heap.size w (w.alloc (.cells #[.int .i64 G.b, .int .i64 G.p, .int .i64 (G.s : Nat), .int .i64 (G.n : Nat), .int .i64 (G.f : Nat)] 23))) := below_one _ _
  have hop := open12_any G len hl1 (by omega) (w.alloc (.cells #[.int .i64 G.b, .int .i64 G.p, .int .i64 (G.s : Nat), .int .i64 (G.n : Nat), .int .i64 (G.f : Nat)] 23))
  have HC : Hid (∀ i, i < len → (w.alloc (.cells #[.int .i64 G.b, .int .i64 G.p, .int .i64 (G.s : Nat), .int .i64 (G.n : Nat), .int .i64 (G.f : Nat)] 23)).cell? ⟨rb, off + i, none⟩ = some (.string (strOfNums (D i)))) := fun i hi => by
    rw [← hcell i hi]; exact Q0.out.cell (p := ⟨rb, off + i, none⟩) hrb
  have hrb1 : rb < (w.alloc (.cells #[.int .i64 G.b, .int .i64 G.p, .int .i64 (G.s : Nat), .int .i64 (G.n : Nat), .int .i64 (G.f : Nat)] 23)).heap.size := Nat.lt_of_lt_of_le hrb Q0.out.size
  clear hcell hr hv hfit
  obtain ⟨_, c0, c1, c2, c3, c4⟩ := hgb
  have hgb := gbox_new w 23 G.b G.p G.s G.n G.f
  go_enter Tryz.func9, Tryz.ntmps9
  go_wp2_with fail
  clear c0 c1 c2 c3 c4
  generalize w.alloc (.cells #[.int .i64 G.b, .int .i64 G.p, .int .i64 (G.s : Nat), .int .i64 (G.n : Nat), .int .i64 (G.f : Nat)] 23) = w0 at *
  refine hop.mono ?_
  rintro e w2 ⟨B, F, d, s, g, st, nu, rfl, hl, h2⟩
  have HF : Hid (FilI w0 G B D len 0 0 d s w2) := ⟨F, _, _, _, g, st, nu, h2, hl, ⟨⟨fun _ => rfl, fun _ => rfl⟩, rfl⟩, ⟨fun j hj => absurd hj (Nat.not_lt_zero j), fun _ _ => rfl⟩⟩
  clear hop h2
  go_wp2_with fail
  go_loopw [12] (fun i wr => ∃ k : Nat, k ≤ len ∧ i = .int .i64 (k : Int) ∧ Hid (FilI w0 G B D len k (k * 4000) d s wr)) (fun i _ => len - (RowKit.intOf i).toNat)
  case atStart => exact ⟨0, by omega, rfl, HF⟩
  case round =>
    obtain ⟨k, hk, rfl, HK⟩ := hrel
    have QW : Hid (Below w0.heap.size w0 wr) := HK.out.bel
    by_cases hlt : k < len
    · have hlt' : (k : Int) < (len : Int) := by omega
      have ck : wr.cell? ⟨rb, off + k, none⟩ = some (.string (strOfNums (D k))) := by
        rw [QW.out.cell (p := ⟨rb, off + k, none⟩) hrb1]; exact HC.out k hlt
      have hsz := strOfNums_size (D k)
      have hzk := HZ k
      unfold maxLen at hzk
      have hbk := HB k
      have hch := HK.out.change hlt hlb hb12 (by omega) (HFIT.out k hlt) hbk _ _ (bytes_row wr 5 (D k) hbk (by unfold maxLen; omega)) (bytes_below wr 5 (strOfNums (D k))) (fun q hq => by cases hq; exact Nat.le_refl _)
      have kc := Lib.run_convert_string_bytes (P := Tryz.prog) wr 9 33 5 (strOfNums (D k)) Tryz.underlying9 Tryz.underlying33 Tryz.underlying5
      rw [hsz] at kc hch
      clear hbk
      generalize D k = X at *
      generalize grownCap wr X.length 0 5 = gc at *
      generalize Lib.bytesWorld wr 5 (strOfNums X) = w5 at *
      generalize hbw : wr.heap.size = bw at *
      go_wp2_with fail
      refine hch.mono ?_
      rintro e w6 ⟨rfl, h6⟩
      have H6 : Hid (FilI w0 G B D len (k + 1) ((k + 1) * 4000) d s w6) := by rw [show (k + 1) * 4000 = k * 4000 + 4000 by omega]; exact h6
      clear hch kc ck h6
      go_wp2_with fail
      go_roundw
      case rel => exact ⟨k + 1, by omega, by go_num, H6⟩
      case measure => simp [RowKit.intOf]; omega
    · obtain rfl : k = len := by omega
      have hge : ¬ (k : Int) < (k : Int) := by omega
      have H44 : Hid (FilI w0 G B D k k 44000 d s wr) := HK.out.mono (by omega)
      have hn := gk.hn
      have hff := gk.hf
      obtain ⟨NN, hNN⟩ : ∃ NN : Int, NN = 8 * (G.n : Int) + 13 * (G.f : Int) := ⟨_, rfl⟩
      have HNN : Hid (NN = ((8 * G.n + 13 * G.f : Nat) : Int)) := by show _ = _; omega
      have hN1 : 1 ≤ NN ∧ NN ≤ 10000 := by omega
      have HNE : Hid (8 * (G.n : Int) + 13 * (G.f : Int) = NN) := hNN.symm
      clear hNN HK HF
      obtain ⟨_, c0, c1, c2, c3, c4⟩ := hgb.below QW.out (Nat.le_refl _)
      go_wp2_with fail
      rw [HNE.out]
      clear c0 c1 c2 c3 c4
      have hgw := hgb.below QW.out (Nat.le_refl _)
      go_loopw [14] (fun i wr => ∃ m : Nat, m ≤ wl ∧ i = .int .i64 (m : Int) ∧ Hid (FilI w0 G B D k k (44000 + 2 * m) d s wr)) (fun i _ => wl - (RowKit.intOf i).toNat)
      case atStart => exact ⟨0, by omega, rfl, H44⟩
      case round =>
        clear H44 hgw QW
        obtain ⟨m, hmw, rfl, HM⟩ := hrel
        have QM : Hid (Below w0.heap.size w0 wr) := HM.out.bel
        by_cases hlt2 : m < wl
        · have hlt2' : (m : Int) < (wl : Int) := by omega
          obtain ⟨vb, voff, rfl, hvb, hvc⟩ := HV.out.at_ (by omega)
          obtain ⟨⟨e0, e1, e2, e3⟩, I0, I1, I2, I3⟩ := hvc m hlt2
          have hxc : ∀ o, wr.cell? ⟨vb, o, none⟩ = w.cell? ⟨vb, o, none⟩ := fun o => (btrans Q0.out QM.out).cell (p := ⟨vb, o, none⟩) hvb
          rw [← hxc] at e0 e1 e2 e3
          clear hvc hxc
          generalize (V m).leb = vl at *
          generalize (V m).page = vp at *
          generalize (V m).from_ = vf at *
          generalize (V m).many = vm at *
          have hwb := WBox.new wr 59 vl vp vf vm
          have q5 : Hid (Below wr.heap.size wr (wr.alloc (.cells #[.int .i64 vl, .int .i64 vp, .int .i64 vf, .int .i64 vm] 59))) := below_one _ _
          go_wp2_with fail
          clear e0 e1 e2 e3
          generalize wr.alloc (.cells #[.int .i64 vl, .int .i64 vp, .int .i64 vf, .int .i64 vm] 59) = w5 at *
          generalize hwbb : wr.heap.size = wb at *
          obtain ⟨wo, hwo⟩ : ∃ x, x = wr := ⟨_, rfl⟩
          subst hwo
          go_loopw [16, 17] (fun u i wr => ∃ kk : Nat, ∃ ps : List Int, kk ≤ G.f ∧ i = .int .i64 (kk : Int) ∧ Hid (ps.length = kk ∧ ∀ q ∈ ps, 0 ≤ q ∧ q < NN) ∧ Hid (wr.ownsRow w5.heap.size 3 1 u ps.length (ps.map (Value.int .i64))) ∧ Hid (Below w5.heap.size w5 wr)) (fun _ i _ => G.f - (RowKit.intOf i).toNat)
          case atStart => exact ⟨0, [], by omega, rfl, ⟨rfl, fun q hq => by simp at hq⟩, World.ownsRow_nil _ _ _ _, Below.refl _ _⟩
          case round =>
            obtain ⟨kk, ps, hkk, rfl, HP, OW, Q⟩ := hrel
            have hsz := Q.out.size
            have hwb2 := hwb.below Q.out
            obtain ⟨_, d0, d1, d2, d3⟩ := hwb2
            obtain ⟨_, c0, c1, c2, c3, c4⟩ := hgb.below (btrans (btrans QM.out (by rw [hwbb]; exact q5.out)) Q.out) (Nat.le_refl _)
            by_cases hcond : (kk : Int) < vm ∧ (kk : Int) < (G.f : Int) ∧ 0 ≤ vf
            · obtain ⟨g1, g2, g3⟩ := hcond
              have hNz : ¬ NN = 0 := by omega
              have hm0 := Int.emod_nonneg vf hNz
              have hm1 := Int.emod_lt_of_pos vf (show 0 < NN by omega)
              have HPL : Hid (ps.length = kk) := HP.out.1
              have hpb : ps.length ≤ 8 := by have := HP.out.1; omega
              have OWB : Hid _ := OW.out.alloc (.cells #[.int .i64 ((vf + (kk : Int)) % NN)] 3)
              go_wp2_with (at_builtin; refine wpList_append_own _ rfl _ _ 32 rfl w5.heap.size 3 iq (.int .i64 0) 1 8 Tryz.underlying32 hiq hiq0 hiq1 hiq2 rfl (by decide) _ ps.length _ rfl OWB.out ⟨wr.heap.size, 0, none⟩ 1 1 [.int .i64 ((vf + (kk : Int)) % NN)] rfl rfl ?c1 ?c2 ?c3 ?c4 ?c5 ?_)
              case c1 => exact cell_one_new wr (.int .i64 ((vf + (kk : Int)) % NN)) 3
              case c2 => intro u hu; simp at hu; subst hu; rfl
              case c3 => unfold maxLen; omega
              case c4 => omega
              case c5 => simp; omega
              intro u' w3 own3 grow3 _
              have Q3 : Hid (Below w5.heap.size w5 w3) := (Q.out.alloc hsz (.cells #[.int .i64 ((vf + (kk : Int)) % NN)] 3)).grown grow3 (by simp; omega) (fun i hi => (owns_lt OW.out hi).1)
              have HO : Hid (w3.ownsRow w5.heap.size 3 1 u' (ps ++ [(vf + (kk : Int)) % NN]).length ((ps ++ [(vf + (kk : Int)) % NN]).map (Value.int .i64))) := by
                show World.ownsRow _ _ _ _ _ _ _
                rw [List.length_append, List.map_append]
                exact own3
              have HP2 : Hid ((ps ++ [(vf + (kk : Int)) % NN]).length = kk + 1 ∧ ∀ q ∈ ps ++ [(vf + (kk : Int)) % NN], 0 ≤ q ∧ q < NN) := by
                refine ⟨by simp [HPL.out], fun q hq => ?_⟩
                rw [List.mem_append, List.mem_singleton] at hq
                rcases hq with hq | rfl
                · exact HP.out.2 q hq
                · exact ⟨Int.emod_nonneg _ (by omega), Int.emod_lt_of_pos _ (by omega)⟩
              clear own3 grow3 OWB OW Q c0 c1 c2 c3 c4 d0 d1 d2 d3 HP
              go_wp2_with fail
              go_roundw
              case rel => exact ⟨kk + 1, ps ++ [(vf + (kk : Int)) % NN], by omega, by go_num, HP2, HO, Q3⟩
              case measure => simp [RowKit.intOf]; omega
            · have hsp := FilI.spoil HM.out (by omega) vl vp I1 _ _ ps (owns_base OW.out (by have := q5.out.size; rw [hwbb]; omega)) (btrans (by rw [hwbb]; exact q5.out) Q.out) (by rw [← HNN.out]; exact ⟨by have := HP.out.1; omega, HP.out.2⟩)
              clear hwb HM HP OW Q hgb
              rcases (show ¬ (kk : Int) < vm ∨ ((kk : Int) < vm ∧ ¬ (kk : Int) < (G.f : Int)) ∨ ((kk : Int) < vm ∧ (kk : Int) < (G.f : Int) ∧ ¬ 0 ≤ vf) by omega) with hq | ⟨hq1, hq2⟩ | ⟨hq1, hq2, hq3⟩
              all_goals
                clear hcond
                go_wp2_with fail
                refine hsp.mono ?_
                rintro e w6 ⟨⟨r, rfl⟩, h6⟩
                have H6 : Hid (FilI w0 G B D k k (44000 + 2 * (m + 1)) d s w6) := by rw [show 44000 + 2 * (m + 1) = 44000 + 2 * m + 2 by omega]; exact h6
                clear hsp h6 d0 d1 d2 d3 c0 c1 c2 c3 c4
                go_wp2_with fail
                go_roundw
                case rel => exact ⟨m + 1, by omega, by go_num, H6⟩
                case measure => simp [RowKit.intOf]; omega
        · obtain rfl : m = wl := by omega
          have hge2 : ¬ (m : Int) < (m : Int) := by omega
          have HR : Hid (Filled w G D k B.c d s wr) := ⟨B, rfl, FilI.base Q0.out (HM.out.mono (by omega))⟩
          go_wp2_with fail
          go_ret3
          exact ⟨B.c, d, s, rfl, HR.out⟩
end Go.Proofs.YtgamakejaknagaaGreat
