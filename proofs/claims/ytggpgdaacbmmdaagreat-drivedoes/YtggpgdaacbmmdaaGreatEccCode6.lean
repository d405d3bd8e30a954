/-
  The code of layer 6 (ecc), as it landed: Read. (Written by tools/gen/ecc_read.py.)
-/
import Derived.Test.YtggpgdaacbmmdaaGreatPackK
namespace Go.Proofs.YtggpgdaacbmmdaaGreat
open Go.RowKit
set_option linter.unusedVariables false
set_option maxRecDepth 8192

/-- The data of the first i sectors. -/
def dataTo (S : Nat → Sec) : Nat → List Int
  | 0 => []
  | i + 1 => dataTo S i ++ (S i).d
/-- The greatest number of bits that were put right in one of them. -/
def mostTo (S : Nat → Sec) : Nat → Nat
  | 0 => 0
  | i + 1 => max (mostTo S i) (S i).n
theorem IsSec.of_ok {t : Nat} {x y : List Int} {c : Sec} (h : IsSec t x y c) (he : c.e = 0) : ∃ k, IsDec t x y c.d k c.n := by
  rcases h with ⟨_, h⟩ | ⟨h, _⟩
  · exact h
  · rw [h] at he; exact absurd he (by decide)
theorem IsSec.of_bad {t : Nat} {x y : List Int} {c : Sec} (h : IsSec t x y c) (he : c.e ≠ 0) : c.e = 50 := by
  rcases h with ⟨h, _⟩ | ⟨h, _⟩
  · exact absurd h he
  · exact h
theorem length_dataTo {S : Nat → Sec} {n : Nat} : ∀ {i : Nat}, (∀ j, j < i → (S j).d.length = n) → (dataTo S i).length = i * n := by
  intro i
  induction i with
  | zero => intro _; simp [dataTo]
  | succ i ih => intro h; simp only [dataTo]; rw [List.length_append, ih fun j hj => h j (by omega), h i (by omega), Nat.add_mul, Nat.one_mul]
theorem mostTo_le {S : Nat → Sec} {t : Nat} : ∀ {i : Nat}, (∀ j, j < i → (S j).n ≤ t) → mostTo S i ≤ t := by
  intro i
  induction i with
  | zero => intro _; exact Nat.zero_le _
  | succ i ih => intro h; simp only [mostTo]; have := ih fun j hj => h j (by omega); have := h i (by omega); omega
theorem isB_dataTo {S : Nat → Sec} : ∀ {i : Nat}, (∀ j, j < i → IsB (S j).d) → IsB (dataTo S i) := by
  intro i
  induction i with
  | zero => intro _ x hx; simp [dataTo] at hx
  | succ i ih =>
    intro h x hx
    simp only [dataTo] at hx
    rcases List.mem_append.1 hx with hx | hx
    · exact ih (fun j hj => h j (by omega)) x hx
    · exact h i (by omega) x hx

set_option maxHeartbeats 800000 in
theorem eccRead_err (b p s n f : Int) (a : Option Addr) (len cap : Nat) (w : World) (er : Int) (her : er ≠ 0) (hU : ∀ w1, Below w.heap.size w w1 → Calls Tryz.prog 63 #[.agg #[.int .i64 b, .int .i64 p, .int .i64 s, .int .i64 n, .int .i64 f], .slice a len cap] w1 fun e w' => e = .returned (.tuple #[.slice none 0 0, .int .i64 er]) ∧ Below w1.heap.size w1 w') :
    Calls Tryz.prog 46 #[.agg #[.int .i64 b, .int .i64 p, .int .i64 s, .int .i64 n, .int .i64 f], .slice a len cap] w fun e w' => e = .returned (.tuple #[.slice none 0 0, .int .i64 0, .int .i64 er]) ∧ Below w.heap.size w w' := by
  have hne : (er != 0) = true := by simpa using her
  go_enter Tryz.func46, Tryz.ntmps46
  go_wp2_with fail
  refine (hU _ (below_one _ _)).mono ?_
  rintro e w1 ⟨rfl, q1⟩
  clear hU
  go_wp2_with fail
  go_ret3
  exact ⟨rfl, btrans (below_one _ _) q1⟩
set_option maxHeartbeats 3200000 in
set_option maxRecDepth 100000 in
theorem eccRead_own (hB : HBitsC) {b p : Int} {s n f R m W L : Nat} (G : GOk b p s n f R m W L) (a : Option Addr) (cap : Nat) (z : List Int) (w : World) (rz : Row .u8 w a L cap z) (bz : IsB z) (hD : HDecC) (hmk : z[L - 1]?.getD 0 = 0) :
    Calls Tryz.prog 46 #[.agg #[.int .i64 b, .int .i64 p, .int .i64 ((s : Nat)), .int .i64 ((n : Nat)), .int .i64 ((f : Nat))], .slice a L cap] w fun e w' => ∃ S : Nat → Sec, (∀ j, j < s → IsSec f (part z (j * W) n) (part z (j * W + n) m) (S j)) ∧
      (((∃ j, j < s ∧ (S j).e ≠ 0) ∧ e = .returned (.tuple #[.slice none 0 0, .int .i64 0, .int .i64 50]) ∧ Below w.heap.size w w') ∨
       ((∀ j, j < s → (S j).e = 0) ∧ ∃ ao co, e = .returned (.tuple #[.slice ao R co, .int .i64 (mostTo S s : Nat), .int .i64 0]) ∧ Row .u8 w' ao R co (dataTo S s) ∧ (0 < R → ∀ q : Addr, ao = some q → w.heap.size ≤ q.block) ∧ Below w.heap.size w w')) := by
  have hroom := room_any b p f s n R G.hR G.hs.2 (by have := G.hn; omega)
  have hs2 := G.hs
  have hn2 := G.hn
  have hf2 := G.hf
  have hL2 := G.L2
  have hR2 := G.hR1
  have HR : Hid (s * n = R) := G.hR
  have HPT : Hid (∀ i, i < s → i * n + n ≤ R) := fun i hi => G.part hi
  have HZL : Hid (z.length = L) := rz.hlen
  have HAT : Hid (∀ i, i < s → i * W + n + m + 1 ≤ L) := fun i hi => by have := G.at_ hi; have := G.hW; omega
  have hun := fun (w1 : World) (q : Below w.heap.size w w1) => eccUnpack_yes hB G a cap z w1 (rz.below q (Nat.le_refl _)) bz hD hmk
  clear G
  obtain ⟨i0, hi0, hz0, hz1, hz2⟩ := info_parts Tryz.info5
  have hmaxR : R ≤ maxLen := by unfold maxLen; omega
  go_enter Tryz.func46, Tryz.ntmps46
  go_wp2_with fail
  have gb := gbox_new w 23 b p s n f
  have q0 := below_one w (.cells #[.int .i64 b, .int .i64 p, .int .i64 s, .int .i64 n, .int .i64 f] 23)
  generalize w.alloc (.cells #[.int .i64 b, .int .i64 p, .int .i64 s, .int .i64 n, .int .i64 f] 23) = w0 at *
  generalize hgg : w.heap.size = g at gb
  refine (hun _ q0).mono ?_
  rintro e w1 ⟨S, gs, hS, hgs, rfl, hat, q1⟩
  clear hun
  replace gb := gb.below q1 (Nat.le_refl _)
  replace q0 := btrans q0 q1
  clear q1
  have HS : Hid (∀ j, j < s → IsSec f (part z (j * W) n) (part z (j * W + n) m) (S j)) := hS
  have HSA : Hid (∀ j, j < s → SecAt w1 gs j (S j)) := hat
  clear hS hat hgs
  have gb1 := gb
  obtain ⟨_, c0, c1, c2, c3, c4⟩ := gb1
  go_wp2_with fail
  refine (hroom _).mono ?_
  rintro e w2 ⟨rfl, q1⟩
  clear hroom c0 c1 c2 c3 c4 gb
  have HSA2 : Hid (∀ j, j < s → SecAt w2 gs j (S j)) := fun j hj => (HSA.out j hj).below q1 (Nat.le_refl _)
  replace q0 := btrans q0 q1
  clear q1 HSA
  have hq0 := q0.size
  go_wp2_with (at_make; refine wpList_make_own _ rfl _ _ 38 rfl w2.heap.size 5 i0 (.int .u8 0) 1 Tryz.underlying38 hi0 hz0 hz1 _ _ _ R rfl rfl rfl (by rw [hz2]; omega) hmaxR (Nat.le_refl _) ?_; intro w3 hown3 hgrow3)
  have qb : Below w2.heap.size w2 w3 := (Below.refl _ _).grown hgrow3 (Nat.le_refl _) (by simp)
  clear hgrow3
  generalize hgx : w2.heap.size = B at *
  go_loopw [9, 10, 27] (fun v mo y wr => ∃ i : Nat, i ≤ s ∧ y = .int .i64 i ∧ mo = .int .i64 (mostTo S i : Nat) ∧ (∀ j, j < i → (S j).e = 0) ∧ wr.ownsRow B 5 1 v (dataTo S i).length ((dataTo S i).map (Value.int .u8)) ∧ Below B w2 wr) (fun _ _ y _ => s - (intOf y).toNat)
  case atStart => exact ⟨0, Nat.zero_le _, rfl, rfl, fun j hj => absurd hj (by omega), hown3, qb⟩
  case round =>
    clear hown3 qb
    obtain ⟨i, hi, rfl, rfl, hok, hown, qb⟩ := hrel
    have HOK : Hid (∀ j, j < i → (S j).e = 0) := hok
    clear hok
    have hsz := qb.size
    rw [hgx] at hsz
    have HNN : Hid (∀ j, j < s → (S j).e = 0 → (S j).d.length = n ∧ (S j).n ≤ f ∧ IsB (S j).d) := fun j hj h0 => by
      obtain ⟨k, hk⟩ := (HS.out j hj).of_ok h0
      refine ⟨?_, hk.near, hk.bd⟩
      rw [hk.ld]
      exact length_part (by rw [HZL.out]; have := HAT.out j hj; omega)
    have HDL : Hid ((dataTo S i).length = i * n) := length_dataTo fun j hj => (HNN.out j (by omega) (HOK.out j hj)).1
    by_cases hlt : i < s
    case neg =>
      have e : i = s := by omega
      subst e
      have HX : Hid ((dataTo S i).length = R) := by show _ = _; rw [HDL.out, HR.out]
      rw [HX.out] at hown
      obtain ⟨ao, co, rfl, ro⟩ := row_of_owns hown
      have HHD : Hid (0 < R → ∀ q : Addr, ao = some q → w.heap.size ≤ q.block) := fun h0 q hq => by
        obtain ⟨g', h1, h2⟩ := owns_head hown h0
        rw [h2] at hq
        cases hq
        exact Nat.le_trans hq0 h1
      clear hown
      go_wp2_with fail
      go_ret3
      exact ⟨S, HS.out, .inr ⟨HOK.out, ao, co, rfl, ro, HHD.out, Below.trans q0 (qb.mono hq0)⟩⟩
    obtain ⟨hgl, a1, cp1, k0, k1, k2, r1⟩ := (HSA2.out i hlt).below qb (by rw [hgx]; exact Nat.le_refl _)
    have u5 : (i : Int) < (s : Int) := by omega
    by_cases he : (S i).e = 0
    case neg =>
      have HBAD : Hid ((S i).e = 50) := (HS.out i hlt).of_bad he
      rw [HBAD.out] at k2
      have HEX : Hid (∃ j, j < s ∧ (S j).e ≠ 0) := ⟨i, hlt, he⟩
      clear he HBAD HNN HDL r1 hown
      generalize (S i).d.length = ln at *
      generalize (S i).n = nn at *
      have bxx := block_new wr #[.slice a1 ln cp1, .int .i64 (nn : Int), .int .i64 50] 112
      have qx := below_one wr (.cells #[.slice a1 ln cp1, .int .i64 (nn : Int), .int .i64 50] 112)
      go_wp2_with fail
      replace qb := Below.trans qb (qx.mono hsz)
      generalize wr.alloc (.cells #[.slice a1 ln cp1, .int .i64 (nn : Int), .int .i64 50] 112) = wx at *
      generalize wr.heap.size = gx at *
      have hgx2 := lt_of_block bxx
      refine held_begin (by kernel_rfl) ?_
      refine held_reads (rs := [0, 1, 2, 3, 4]) (fuel := 0) (by kernel_rfl) (fun c d v a w h => by cases d <;> exact h) (by kernel_rfl) (Since.drew _) (fun K hK => ?_)
      refine calm_do (.pointer (some ⟨gx, 2, none⟩)) rfl (by rfl) (fun w' hw' => ?_) ?_
      · skip
        go_simp
      go_simp
      refine calm_do (.int .i64 50) rfl (by rfl) (fun w' hw' => ?_) ?_
      · have cx := cell_of_blk (block_below bxx hw' hgx2) 2
        go_simp
      go_simp
      refine calm_assign _ rfl (by rfl) rfl ?_
      go_simp
      refine calm_assign _ rfl (by rfl) rfl ?_
      go_simp
      refine calm_assign _ rfl (by rfl) rfl ?_
      go_simp
      refine calm_nil (hK.out _ ?_)
      clear hK K
      refine wpAnyH_done (by kernel_rfl) ?_ _
      go_wp2_with fail
      go_ret3
      exact ⟨S, HS.out, .inl ⟨HEX.out, rfl, (Below.trans q0 (qb.mono hq0)).drew⟩⟩
    rw [he] at k2
    obtain ⟨hd1, hd2, hd3⟩ := HNN.out i hlt he
    have HMO : Hid (mostTo S (i + 1) = max (mostTo S i) (S i).n) := rfl
    have HDT : Hid (dataTo S (i + 1) = dataTo S i ++ (S i).d) := rfl
    have HO2 : Hid (∀ j, j < i + 1 → (S j).e = 0) := fun j hj => by
      by_cases e : j = i
      · subst e; exact he
      · exact HOK.out j (by omega)
    have hpt := HPT.out i hlt
    have hdl := HDL.out
    have hmol : mostTo S i ≤ f := mostTo_le fun j hj => (HNN.out j (by omega) (HOK.out j hj)).2.1
    have hdb : (dataTo S i).length ≤ 64 := by omega
    clear hdl HNN HDL HOK HPT he
    rw [hd1] at k0 r1
    have HD1 : Hid ((S i).d.length = n) := hd1
    clear hd1
    generalize hdd : (S i).d = dd at *
    generalize hnn : (S i).n = nn at *
    clear hdd hnn
    generalize hld : (dataTo S i).length = ld at *
    have HLD : Hid ((dataTo S i).length = ld) := hld
    clear hld
    generalize hmo : mostTo S i = mo at *
    have HMI : Hid (mostTo S i = mo) := hmo
    clear hmo
    have bxx := block_new wr #[.slice a1 n cp1, .int .i64 (nn : Int), .int .i64 0] 112
    have qx := below_one wr (.cells #[.slice a1 n cp1, .int .i64 (nn : Int), .int .i64 0] 112)
    have hownx := hown.alloc (.cells #[.slice a1 n cp1, .int .i64 (nn : Int), .int .i64 0] 112)
    have rx1 := r1.below qx (Nat.le_refl _)
    have HLT : Hid (∀ k, u9.ownBlock = some k → B ≤ k ∧ k < wr.heap.size) := fun k hk => hown.lt k hk
    have HAF : Hid (∀ w5 : World, (wr.alloc (.cells #[.slice a1 n cp1, .int .i64 (nn : Int), .int .i64 0] 112)).grownBy w5 u9.ownBlock → w5.cell? ⟨wr.heap.size, 1, none⟩ = some (.int .i64 (nn : Int)) ∧ Below B w2 w5) := fun w5 hg => by
      refine ⟨?_, (qb.trans (qx.mono hsz)).grown hg (by simp; omega) (fun k hk => (HLT.out k hk).1)⟩
      rw [cell_of_blk (show w5.heap[wr.heap.size]? = _ from (hg.block wr.heap.size (by simp) (fun e => by have := (HLT.out _ e.symm).2; omega)).trans bxx) 1]
      rfl
    clear hown r1 bxx
    by_cases hmx : nn ≤ mo
    · have hmx1 : (nn : Int) ≤ (mo : Int) := by omega
      have HM2 : Hid (mostTo S (i + 1) = mo) := by show _ = _; rw [HMO.out]; omega
      clear HMO
      go_wp2_with (at_builtin; refine wpList_append_row _ rfl _ _ 38 rfl B 5 i0 (.int .u8 0) 1 Tryz.underlying38 hi0 hz0 hz1 hz2 rfl _ _ _ rfl hownx .u8 a1 n cp1 dd rfl rx1 ?c1 ?c2 ?c3 ?_)
      case c1 => unfold maxLen; omega
      case c2 => omega
      case c3 => simp; omega
      intro v5 w5 hown5 hgrow5
      obtain ⟨c5, qb5⟩ := HAF.out w5 hgrow5
      clear hgrow5 hownx rx1 qx HAF
      go_wp2_with fail
      go_roundw
      case rel => exact ⟨i + 1, by omega, by go_num, by rw [HM2.out], HO2.out, by rw [HDT.out, List.length_append, HLD.out, HD1.out, List.map_append]; exact hown5, qb5⟩
      case measure => simp [intOf]; omega
    · have hmx1 : (mo : Int) ≤ (nn : Int) := by omega
      have HM2 : Hid (mostTo S (i + 1) = nn) := by show _ = _; rw [HMO.out]; omega
      clear HMO
      go_wp2_with (at_builtin; refine wpList_append_row _ rfl _ _ 38 rfl B 5 i0 (.int .u8 0) 1 Tryz.underlying38 hi0 hz0 hz1 hz2 rfl _ _ _ rfl hownx .u8 a1 n cp1 dd rfl rx1 ?c1 ?c2 ?c3 ?_)
      case c1 => unfold maxLen; omega
      case c2 => omega
      case c3 => simp; omega
      intro v5 w5 hown5 hgrow5
      obtain ⟨c5, qb5⟩ := HAF.out w5 hgrow5
      clear hgrow5 hownx rx1 qx HAF
      go_wp2_with fail
      go_roundw
      case rel => exact ⟨i + 1, by omega, by go_num, by rw [HM2.out], HO2.out, by rw [HDT.out, List.length_append, HLD.out, HD1.out, List.map_append]; exact hown5, qb5⟩
      case measure => simp [intOf]; omega

theorem eccRead_yes (hB : HBitsC) {b p : Int} {s n f R m W L : Nat} (G : GOk b p s n f R m W L) (a : Option Addr) (cap : Nat) (z : List Int) (w : World) (rz : Row .u8 w a L cap z) (bz : IsB z) (hD : HDecC) (hmk : z[L - 1]?.getD 0 = 0) :
    Calls Tryz.prog 46 #[.agg #[.int .i64 b, .int .i64 p, .int .i64 ((s : Nat)), .int .i64 ((n : Nat)), .int .i64 ((f : Nat))], .slice a L cap] w fun e w' => ∃ S : Nat → Sec, (∀ j, j < s → IsSec f (part z (j * W) n) (part z (j * W + n) m) (S j)) ∧
      (((∃ j, j < s ∧ (S j).e ≠ 0) ∧ e = .returned (.tuple #[.slice none 0 0, .int .i64 0, .int .i64 50]) ∧ Below w.heap.size w w') ∨
       ((∀ j, j < s → (S j).e = 0) ∧ ∃ ao co, e = .returned (.tuple #[.slice ao R co, .int .i64 (mostTo S s : Nat), .int .i64 0]) ∧ Row .u8 w' ao R co (dataTo S s) ∧ Below w.heap.size w w')) :=
  (eccRead_own hB G a cap z w rz bz hD hmk).mono fun e w' ⟨S, hS, h⟩ => ⟨S, hS, h.elim .inl fun ⟨h1, ao, co, h2, h3, _, h4⟩ => .inr ⟨h1, ao, co, h2, h3, h4⟩⟩

end Go.Proofs.YtggpgdaacbmmdaaGreat
