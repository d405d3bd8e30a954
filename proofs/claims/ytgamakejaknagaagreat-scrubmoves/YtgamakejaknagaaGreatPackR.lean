/-
  The code of layer 6 (ecc), as it landed: Read. (Written by tools/gen/ecc_read.py.)
-/
import Derived.Test.YtgamakejaknagaaGreatPackK
import Derived.Test.YtgamakejaknagaaGreatPackI
import Derived.Maps.AppendAt
namespace Go.Proofs.YtgamakejaknagaaGreat
open Go.RowKit
set_option linter.unusedVariables false
set_option maxRecDepth 8192

/-- The data of the first i sectors. -/
def dataTo (S : Nat → Sec) : Nat → List Int
  | 0 => []
  | i + 1 => dataTo S i ++ (S i).d
/-- The greatest number of bits that were put right in one of them. -/
def mostTo (S : Nat → Sec) : Nat → Nat
  | 0 => 0
  | i + 1 => max (mostTo S i) (S i).n
theorem IsSec.of_ok {t : Nat} {x y : List Int} {c : Sec} (h : IsSec t x y c) (he : c.e = 0) : ∃ k, IsDec t x y c.d k c.n := by
  rcases h with ⟨_, h⟩ | ⟨h, _⟩
  · exact h
  · rw [h] at he; exact absurd he (by decide)
theorem IsSec.of_bad {t : Nat} {x y : List Int} {c : Sec} (h : IsSec t x y c) (he : c.e ≠ 0) : c.e = 50 := by
  rcases h with ⟨h, _⟩ | ⟨h, _⟩
  · exact absurd h he
  · exact h
theorem length_dataTo {S : Nat → Sec} {n : Nat} : ∀ {i : Nat}, (∀ j, j < i → (S j).d.length = n) → (dataTo S i).length = i * n := by
  intro i
  induction i with
  | zero => intro _; simp [dataTo]
  | succ i ih => intro h; simp only [dataTo]; rw [List.length_append, ih fun j hj => h j (by omega), h i (by omega), Nat.add_mul, Nat.one_mul]
theorem mostTo_le {S : Nat → Sec} {t : Nat} : ∀ {i : Nat}, (∀ j, j < i → (S j).n ≤ t) → mostTo S i ≤ t := by
  intro i
  induction i with
  | zero => intro _; exact Nat.zero_le _
  | succ i ih => intro h; simp only [mostTo]; have := ih fun j hj => h j (by omega); have := h i (by omega); omega
theorem isB_dataTo {S : Nat → Sec} : ∀ {i : Nat}, (∀ j, j < i → IsB (S j).d) → IsB (dataTo S i) := by
  intro i
  induction i with
  | zero => intro _ x hx; simp [dataTo] at hx
  | succ i ih =>
    intro h x hx
    simp only [dataTo] at hx
    rcases List.mem_append.1 hx with hx | hx
    · exact ih (fun j hj => h j (by omega)) x hx
    · exact h i (by omega) x hx

set_option maxHeartbeats 800000 in
theorem eccRead_err (b p s n f : Int) (a : Option Addr) (len cap : Nat) (w : World) (er : Int) (her : er ≠ 0) (hU : ∀ w1, Below w.heap.size w w1 → Calls Tryz.prog 89 #[.agg #[.int .i64 b, .int .i64 p, .int .i64 s, .int .i64 n, .int .i64 f], .slice a len cap] w1 fun e w' => e = .returned (.tuple #[.slice none 0 0, .int .i64 er]) ∧ Below w1.heap.size w1 w') :
    Calls Tryz.prog 77 #[.agg #[.int .i64 b, .int .i64 p, .int .i64 s, .int .i64 n, .int .i64 f], .slice a len cap] w fun e w' => e = .returned (.tuple #[.slice none 0 0, .int .i64 0, .int .i64 er]) ∧ Below w.heap.size w w' := by
  have hne : (er != 0) = true := by simpa using her
  go_enter Tryz.func77, Tryz.ntmps77
  go_wp2_with fail
  refine (hU _ (below_one _ _)).mono ?_
  rintro e w1 ⟨rfl, q1⟩
  clear hU
  go_wp2_with fail
  go_ret3
  exact ⟨rfl, btrans (below_one _ _) q1⟩
set_option maxHeartbeats 3200000 in
set_option maxRecDepth 100000 in
theorem eccRead_own (hB : HBitsC) {b p : Int} {s n f R m W L : Nat} (G : GOk b p s n f R m W L) (a : Option Addr) (cap : Nat) (z : List Int) (w : World) (rz : Row .u8 w a L cap z) (bz : IsB z) (hD : HDecC) (hmk : z[L - 1]?.getD 0 = 0) :
    Calls Tryz.prog 77 #[.agg #[.int .i64 b, .int .i64 p, .int .i64 ((s : Nat)), .int .i64 ((n : Nat)), .int .i64 ((f : Nat))], .slice a L cap] w fun e w' => ∃ S : Nat → Sec, (∀ j, j < s → IsSec f (part z (j * W) n) (part z (j * W + n) m) (S j)) ∧
      (((∃ j, j < s ∧ (S j).e ≠ 0) ∧ e = .returned (.tuple #[.slice none 0 0, .int .i64 0, .int .i64 50]) ∧ Below w.heap.size w w') ∨
       ((∀ j, j < s → (S j).e = 0) ∧ ∃ ao co, e = .returned (.tuple #[.slice ao R co, .int .i64 (mostTo S s : Nat), .int .i64 0]) ∧ Row .u8 w' ao R co (dataTo S s) ∧ (0 < R → ∀ q : Addr, ao = some q → w.heap.size ≤ q.block) ∧ Below w.heap.size w w')) := by
  have hroom := room_any b p f s n R G.hR G.hs.2 (by have := G.hn; omega)
  have hs2 := G.hs
  have hn2 := G.hn
  have hf2 := G.hf
  have hL2 := G.L2
  have hR2 := G.hR1
  have HR : Hid (s * n = R) := G.hR
  have HPT : Hid (∀ i, i < s → i * n + n ≤ R) := fun i hi => G.part hi
  have HZL : Hid (z.length = L) := rz.hlen
  have HAT : Hid (∀ i, i < s → i * W + n + m + 1 ≤ L) := fun i hi => by have := G.at_ hi; have := G.hW; omega
  have hun := fun (w1 : World) (q : Below w.heap.size w w1) => eccUnpack_yes hB G a cap z w1 (rz.below q (Nat.le_refl _)) bz hD hmk
  clear G
  obtain ⟨i0, hi0, hz0, hz1, hz2⟩ := info_parts Tryz.info5
  have hmaxR : R ≤ maxLen := by unfold maxLen; omega
  go_enter Tryz.func77, Tryz.ntmps77
  go_wp2_with fail
  have gb := gbox_new w 23 b p s n f
  have q0 := below_one w (.cells #[.int .i64 b, .int .i64 p, .int .i64 s, .int .i64 n, .int .i64 f] 23)
  generalize w.alloc (.cells #[.int .i64 b, .int .i64 p, .int .i64 s, .int .i64 n, .int .i64 f] 23) = w0 at *
  generalize hgg : w.heap.size = g at gb
  refine (hun _ q0).mono ?_
  rintro e w1 ⟨S, gs, hS, hgs, rfl, hat, q1⟩
  clear hun
  replace gb := gb.below q1 (Nat.le_refl _)
  replace q0 := btrans q0 q1
  clear q1
  have HS : Hid (∀ j, j < s → IsSec f (part z (j * W) n) (part z (j * W + n) m) (S j)) := hS
  have HSA : Hid (∀ j, j < s → SecAt w1 gs j (S j)) := hat
  clear hS hat hgs
  have gb1 := gb
  obtain ⟨_, c0, c1, c2, c3, c4⟩ := gb1
  go_wp2_with fail
  refine (hroom _).mono ?_
  rintro e w2 ⟨rfl, q1⟩
  clear hroom c0 c1 c2 c3 c4 gb
  have HSA2 : Hid (∀ j, j < s → SecAt w2 gs j (S j)) := fun j hj => (HSA.out j hj).below q1 (Nat.le_refl _)
  replace q0 := btrans q0 q1
  clear q1 HSA
  have hq0 := q0.size
  go_wp2_with (at_make; refine wpList_make_own _ rfl _ _ 33 rfl w2.heap.size 5 i0 (.int .u8 0) 1 Tryz.underlying33 hi0 hz0 hz1 _ _ _ R rfl rfl rfl (by rw [hz2]; omega) hmaxR (Nat.le_refl _) ?_; intro w3 hown3 hgrow3)
  have qb : Below w2.heap.size w2 w3 := (Below.refl _ _).grown hgrow3 (Nat.le_refl _) (by simp)
  clear hgrow3
  generalize hgx : w2.heap.size = B at *
  go_loopw [9, 10, 27] (fun v mo y wr => ∃ i : Nat, i ≤ s ∧ y = .int .i64 i ∧ mo = .int .i64 (mostTo S i : Nat) ∧ (∀ j, j < i → (S j).e = 0) ∧ wr.ownsRow B 5 1 v (dataTo S i).length ((dataTo S i).map (Value.int .u8)) ∧ Below B w2 wr) (fun _ _ y _ => s - (intOf y).toNat)
  case atStart => exact ⟨0, Nat.zero_le _, rfl, rfl, fun j hj => absurd hj (by omega), hown3, qb⟩
  case round =>
    clear hown3 qb
    obtain ⟨i, hi, rfl, rfl, hok, hown, qb⟩ := hrel
    have HOK : Hid (∀ j, j < i → (S j).e = 0) := hok
    clear hok
    have hsz := qb.size
    rw [hgx] at hsz
    have HNN : Hid (∀ j, j < s → (S j).e = 0 → (S j).d.length = n ∧ (S j).n ≤ f ∧ IsB (S j).d) := fun j hj h0 => by
      obtain ⟨k, hk⟩ := (HS.out j hj).of_ok h0
      refine ⟨?_, hk.near, hk.bd⟩
      rw [hk.ld]
      exact length_part (by rw [HZL.out]; have := HAT.out j hj; omega)
    have HDL : Hid ((dataTo S i).length = i * n) := length_dataTo fun j hj => (HNN.out j (by omega) (HOK.out j hj)).1
    by_cases hlt : i < s
    case neg =>
      have e : i = s := by omega
      subst e
      have HX : Hid ((dataTo S i).length = R) := by show _ = _; rw [HDL.out, HR.out]
      rw [HX.out] at hown
      obtain ⟨ao, co, rfl, ro⟩ := row_of_owns hown
      have HHD : Hid (0 < R → ∀ q : Addr, ao = some q → w.heap.size ≤ q.block) := fun h0 q hq => by
        obtain ⟨g', h1, h2⟩ := owns_head hown h0
        rw [h2] at hq
        cases hq
        exact Nat.le_trans hq0 h1
      clear hown
      go_wp2_with fail
      go_ret3
      exact ⟨S, HS.out, .inr ⟨HOK.out, ao, co, rfl, ro, HHD.out, Below.trans q0 (qb.mono hq0)⟩⟩
    obtain ⟨hgl, a1, cp1, k0, k1, k2, r1⟩ := (HSA2.out i hlt).below qb (by rw [hgx]; exact Nat.le_refl _)
    have u5 : (i : Int) < (s : Int) := by omega
    by_cases he : (S i).e = 0
    case neg =>
      have HBAD : Hid ((S i).e = 50) := (HS.out i hlt).of_bad he
      rw [HBAD.out] at k2
      have HEX : Hid (∃ j, j < s ∧ (S j).e ≠ 0) := ⟨i, hlt, he⟩
      clear he HBAD HNN HDL r1 hown
      generalize (S i).d.length = ln at *
      generalize (S i).n = nn at *
      have bxx := block_new wr #[.slice a1 ln cp1, .int .i64 (nn : Int), .int .i64 50] 157
      have qx := below_one wr (.cells #[.slice a1 ln cp1, .int .i64 (nn : Int), .int .i64 50] 157)
      go_wp2_with fail
      replace qb := Below.trans qb (qx.mono hsz)
      generalize wr.alloc (.cells #[.slice a1 ln cp1, .int .i64 (nn : Int), .int .i64 50] 157) = wx at *
      generalize wr.heap.size = gx at *
      have hgx2 := lt_of_block bxx
      refine held_begin (by kernel_rfl) ?_
      refine held_reads (rs := [0, 1, 2, 3, 4]) (fuel := 0) (by kernel_rfl) (fun c d v a w h => by cases d <;> exact h) (by kernel_rfl) (Since.drew _) (fun K hK => ?_)
      refine calm_do (.pointer (some ⟨gx, 2, none⟩)) rfl (by rfl) (fun w' hw' => ?_) ?_
      · skip
        go_simp
      go_simp
      refine calm_do (.int .i64 50) rfl (by rfl) (fun w' hw' => ?_) ?_
      · have cx := cell_of_blk (block_below bxx hw' hgx2) 2
        go_simp
      go_simp
      refine calm_assign _ rfl (by rfl) rfl ?_
      go_simp
      refine calm_assign _ rfl (by rfl) rfl ?_
      go_simp
      refine calm_assign _ rfl (by rfl) rfl ?_
      go_simp
      refine calm_nil (hK.out _ ?_)
      clear hK K
      refine wpAnyH_done (by kernel_rfl) ?_ _
      go_wp2_with fail
      go_ret3
      exact ⟨S, HS.out, .inl ⟨HEX.out, rfl, (Below.trans q0 (qb.mono hq0)).drew⟩⟩
    rw [he] at k2
    obtain ⟨hd1, hd2, hd3⟩ := HNN.out i hlt he
    have HMO : Hid (mostTo S (i + 1) = max (mostTo S i) (S i).n) := rfl
    have HDT : Hid (dataTo S (i + 1) = dataTo S i ++ (S i).d) := rfl
    have HO2 : Hid (∀ j, j < i + 1 → (S j).e = 0) := fun j hj => by
      by_cases e : j = i
      · subst e; exact he
      · exact HOK.out j (by omega)
    have hpt := HPT.out i hlt
    have hdl := HDL.out
    have hmol : mostTo S i ≤ f := mostTo_le fun j hj => (HNN.out j (by omega) (HOK.out j hj)).2.1
    have hdb : (dataTo S i).length ≤ 64 := by omega
    clear hdl HNN HDL HOK HPT he
    rw [hd1] at k0 r1
    have HD1 : Hid ((S i).d.length = n) := hd1
    clear hd1
    generalize hdd : (S i).d = dd at *
    generalize hnn : (S i).n = nn at *
    clear hdd hnn
    generalize hld : (dataTo S i).length = ld at *
    have HLD : Hid ((dataTo S i).length = ld) := hld
    clear hld
    generalize hmo : mostTo S i = mo at *
    have HMI : Hid (mostTo S i = mo) := hmo
    clear hmo
    have bxx := block_new wr #[.slice a1 n cp1, .int .i64 (nn : Int), .int .i64 0] 157
    have qx := below_one wr (.cells #[.slice a1 n cp1, .int .i64 (nn : Int), .int .i64 0] 157)
    have hownx := hown.alloc (.cells #[.slice a1 n cp1, .int .i64 (nn : Int), .int .i64 0] 157)
    have rx1 := r1.below qx (Nat.le_refl _)
    have HLT : Hid (∀ k, u9.ownBlock = some k → B ≤ k ∧ k < wr.heap.size) := fun k hk => hown.lt k hk
    have HAF : Hid (∀ w5 : World, (wr.alloc (.cells #[.slice a1 n cp1, .int .i64 (nn : Int), .int .i64 0] 157)).grownBy w5 u9.ownBlock → w5.cell? ⟨wr.heap.size, 1, none⟩ = some (.int .i64 (nn : Int)) ∧ Below B w2 w5) := fun w5 hg => by
      refine ⟨?_, (qb.trans (qx.mono hsz)).grown hg (by simp; omega) (fun k hk => (HLT.out k hk).1)⟩
      rw [cell_of_blk (show w5.heap[wr.heap.size]? = _ from (hg.block wr.heap.size (by simp) (fun e => by have := (HLT.out _ e.symm).2; omega)).trans bxx) 1]
      rfl
    clear hown r1 bxx
    by_cases hmx : nn ≤ mo
    · have hmx1 : (nn : Int) ≤ (mo : Int) := by omega
      have HM2 : Hid (mostTo S (i + 1) = mo) := by show _ = _; rw [HMO.out]; omega
      clear HMO
      go_wp2_with (at_builtin; refine wpList_append_row _ rfl _ _ 33 rfl B 5 i0 (.int .u8 0) 1 Tryz.underlying33 hi0 hz0 hz1 hz2 rfl _ _ _ rfl hownx .u8 a1 n cp1 dd rfl rx1 ?c1 ?c2 ?c3 ?_)
      case c1 => unfold maxLen; omega
      case c2 => omega
      case c3 => simp; omega
      intro v5 w5 hown5 hgrow5
      obtain ⟨c5, qb5⟩ := HAF.out w5 hgrow5
      clear hgrow5 hownx rx1 qx HAF
      go_wp2_with fail
      go_roundw
      case rel => exact ⟨i + 1, by omega, by go_num, by rw [HM2.out], HO2.out, by rw [HDT.out, List.length_append, HLD.out, HD1.out, List.map_append]; exact hown5, qb5⟩
      case measure => simp [intOf]; omega
    · have hmx1 : (mo : Int) ≤ (nn : Int) := by omega
      have HM2 : Hid (mostTo S (i + 1) = nn) := by show _ = _; rw [HMO.out]; omega
      clear HMO
      go_wp2_with (at_builtin; refine wpList_append_row _ rfl _ _ 33 rfl B 5 i0 (.int .u8 0) 1 Tryz.underlying33 hi0 hz0 hz1 hz2 rfl _ _ _ rfl hownx .u8 a1 n cp1 dd rfl rx1 ?c1 ?c2 ?c3 ?_)
      case c1 => unfold maxLen; omega
      case c2 => omega
      case c3 => simp; omega
      intro v5 w5 hown5 hgrow5
      obtain ⟨c5, qb5⟩ := HAF.out w5 hgrow5
      clear hgrow5 hownx rx1 qx HAF
      go_wp2_with fail
      go_roundw
      case rel => exact ⟨i + 1, by omega, by go_num, by rw [HM2.out], HO2.out, by rw [HDT.out, List.length_append, HLD.out, HD1.out, List.map_append]; exact hown5, qb5⟩
      case measure => simp [intOf]; omega

end Go.Proofs.YtgamakejaknagaaGreat

/-
  The walk of layer 5's law BchCorrects, out of the face of bch: it returns true; nothing old turns. (Written by tools/gen/bch_corrects.py.)
-/
namespace Go.Proofs.YtgamakejaknagaaGreat
open Go.RowKit
set_option linter.unusedVariables false
set_option maxRecDepth 8192

theorem nodup_len {l m : List Int} (h : l.Nodup) (hs : ∀ x ∈ l, x ∈ m) : l.length ≤ m.length := by
  induction l generalizing m with
  | nil => exact Nat.zero_le _
  | cons a l ih =>
    obtain ⟨h1, h2⟩ := List.nodup_cons.1 h
    have ha := hs a (List.mem_cons_self)
    have := ih (m := m.erase a) h2 fun x hx => (List.mem_erase_of_ne (fun e => h1 (by rw [← e]; exact hx))).2 (hs x (List.mem_cons_of_mem _ hx))
    rw [List.length_erase_of_mem ha] at this
    have hp := List.length_pos_of_mem ha
    simp
    omega
/-! Two lists that grow beside the flags. -/
end Go.Proofs.YtgamakejaknagaaGreat

/-
  Flips of a page, plain: places, how many fall into each sector, what each sector is then.
-/
namespace Go.Proofs.YtgamakejaknagaaGreat
open Go.RowKit
set_option linter.unusedVariables false
set_option maxRecDepth 8192

/-- A bit is turned once, or not. -/
theorem bit_turned : ∀ (ps : List Int) (z : List Int), IsB z → ps.Nodup → (∀ p ∈ ps, 0 ≤ p ∧ p < 8 * (z.length : Int)) → ∀ q, q < 8 * z.length → bitI (turnI z ps) q = if (q : Int) ∈ ps then 1 - bitI z q else bitI z q := by
  intro ps
  induction ps with
  | nil => intro z _ _ _ q _; simp [turnI]
  | cons p ps ih =>
    intro z hz hn hp q hq
    obtain ⟨hn1, hn2⟩ := List.nodup_cons.1 hn
    have hp0 := hp p (List.mem_cons_self)
    have hs : turnI z (p :: ps) = turnI (turn1 z p.toNat) ps := by simp [turnI]
    rw [hs, ih (turn1 z p.toNat) (isB_turn1 hz _) hn2 (fun r hr => by rw [length_turn1]; exact hp r (List.mem_cons_of_mem _ hr)) q (by rw [length_turn1]; exact hq), bitI_turn1 hz p.toNat q (by omega) hq]
    by_cases e : p = (q : Int)
    · subst e
      rw [if_neg hn1, if_pos (by omega), if_pos (List.mem_cons_self)]
    · rw [if_neg (show ¬ p.toNat = q by omega)]
      by_cases h2 : (q : Int) ∈ ps
      · rw [if_pos h2, if_pos (List.mem_cons_of_mem _ h2)]
      · rw [if_neg h2, if_neg (fun h => by
          rcases List.mem_cons.1 h with h | h
          · exact e h.symm
          · exact h2 h)]
/-- A byte in which no bit is turned. -/
theorem byte_kept : ∀ (ps : List Int) (z : List Int) (q : Nat), (∀ p ∈ ps, p.toNat / 8 ≠ q) → (turnI z ps)[q]?.getD 0 = z[q]?.getD 0 := by
  intro ps
  induction ps with
  | nil => intro z q _; rfl
  | cons p ps ih =>
    intro z q h
    have hs : turnI z (p :: ps) = turnI (turn1 z p.toNat) ps := by simp [turnI]
    rw [hs, ih _ _ fun r hr => h r (List.mem_cons_of_mem _ hr)]
    unfold turn1
    rw [set_get, if_neg (fun e => h p (List.mem_cons_self) e.1)]
/-- How many of the places fall into the first T bits of the part j of K bits. -/
def cntTo (K T : Nat) (ps : List Int) (j : Nat) : Nat := (ps.filter fun p => decide (p.toNat / K = j ∧ p.toNat % K < T)).length
/-- How many of the first n numbers F holds of. -/
def countTo (F : Nat → Bool) : Nat → Nat
  | 0 => 0
  | n + 1 => countTo F n + (if F n = true then 1 else 0)
theorem countTo_congr {F G : Nat → Bool} : ∀ {n : Nat}, (∀ i, i < n → F i = G i) → countTo F n = countTo G n := by
  intro n
  induction n with
  | zero => intro _; rfl
  | succ n ih => intro h; simp only [countTo]; rw [ih fun i hi => h i (by omega), h n (by omega)]
theorem countTo_add (F : Nat → Bool) (a : Nat) : ∀ b, countTo F (a + b) = countTo F a + countTo (fun i => F (a + i)) b := by
  intro b
  induction b with
  | zero => rfl
  | succ b ih => rw [← Nat.add_assoc]; simp only [countTo]; rw [ih]; omega
theorem countTo_insert {F : Nat → Bool} {r : Nat} (hr : F r = false) : ∀ n, countTo (fun i => decide (i = r) || F i) n = countTo F n + (if r < n then 1 else 0) := by
  intro n
  induction n with
  | zero => rfl
  | succ n ih =>
    simp only [countTo, ih]
    by_cases e : n = r
    · subst e
      simp [hr]
    · by_cases h : r < n
      · have h2 : r < n + 1 := by omega
        simp [e, h, h2]
        omega
      · have h2 : ¬ r < n + 1 := by omega
        simp [e, h, h2]
theorem place_iff {K T p j : Nat} (hT : T ≤ K) (hK : 0 < K) : (p / K = j ∧ p % K < T) ↔ (j * K ≤ p ∧ p < j * K + T) := by
  have hd := Nat.div_add_mod p K
  constructor
  · rintro ⟨rfl, h⟩
    rw [Nat.mul_comm] at hd
    omega
  · rintro ⟨h1, h2⟩
    have e : p / K = j := Nat.div_eq_of_lt_le h1 (by rw [Nat.add_mul, Nat.one_mul]; omega)
    rw [e, Nat.mul_comm] at hd
    exact ⟨e, by omega⟩
theorem cnt_count (K T j : Nat) (hT : T ≤ K) (hK : 0 < K) : ∀ ps : List Int, ps.Nodup → (∀ p ∈ ps, 0 ≤ p) → countTo (fun r => decide (((j * K + r : Nat) : Int) ∈ ps)) T = cntTo K T ps j := by
  intro ps
  induction ps with
  | nil =>
    intro _ _
    have : ∀ n, countTo (fun r => decide (((j * K + r : Nat) : Int) ∈ ([] : List Int))) n = 0 := by
      intro n
      induction n with
      | zero => rfl
      | succ n ih => simp only [countTo]; rw [ih]; simp
    rw [this]
    rfl
  | cons p ps ih =>
    intro hn hp
    obtain ⟨hn1, hn2⟩ := List.nodup_cons.1 hn
    have hp0 := hp p (List.mem_cons_self)
    have ih := ih hn2 fun r hr => hp r (List.mem_cons_of_mem _ hr)
    have hc : cntTo K T (p :: ps) j = cntTo K T ps j + (if p.toNat / K = j ∧ p.toNat % K < T then 1 else 0) := by
      unfold cntTo
      rw [List.filter_cons]
      by_cases h : p.toNat / K = j ∧ p.toNat % K < T
      · rw [if_pos h]; simp [h]
      · rw [if_neg h]; simp [h]
    rw [hc, ← ih]
    by_cases h : p.toNat / K = j ∧ p.toNat % K < T
    · obtain ⟨h1, h2⟩ := (place_iff hT hK).1 h
      rw [if_pos h]
      have := countTo_insert (F := fun r => decide (((j * K + r : Nat) : Int) ∈ ps)) (r := p.toNat - j * K) (by
        rw [decide_eq_false_iff_not, show ((j * K + (p.toNat - j * K) : Nat) : Int) = p by omega]
        exact hn1) T
      rw [if_pos (by omega)] at this
      rw [← this]
      refine countTo_congr fun i hi => ?_
      rw [Bool.eq_iff_iff]
      simp only [decide_eq_true_iff, Bool.or_eq_true, List.mem_cons]
      constructor
      · rintro (h3 | h3)
        · exact .inl (by omega)
        · exact .inr h3
      · rintro (h3 | h3)
        · exact .inl (by omega)
        · exact .inr h3
    · rw [if_neg h, Nat.add_zero]
      refine countTo_congr fun i hi => ?_
      rw [Bool.eq_iff_iff]
      simp only [decide_eq_true_iff, List.mem_cons]
      constructor
      · rintro (h3 | h3)
        · exact absurd ((place_iff hT hK).2 ⟨by omega, by omega⟩) h
        · exact h3
      · exact fun h3 => .inr h3
theorem dist_count {p q : List Nat} {F : Nat → Bool} : ∀ {n : Nat}, (∀ i, i < n → (cf p i = cf q i ↔ F i = false)) → distTo p q n = countTo F n := by
  intro n
  induction n with
  | zero => intro _; rfl
  | succ n ih =>
    intro h
    simp only [distTo, countTo]
    rw [ih fun i hi => h i (by omega)]
    congr 1
    have := h n (by omega)
    by_cases e : cf p n = cf q n
    · rw [if_pos e, if_neg (by rw [this.1 e]; simp)]
    · rw [if_neg e, if_pos (by
        rcases Bool.eq_false_or_eq_true (F n) with h2 | h2
        · exact h2
        · exact absurd (this.2 h2) e)]
theorem bts_part {z : List Int} {o n i : Nat} (ho : o + n ≤ z.length) (hi : i < 8 * n) : (cf (bts (part z o n)) i : Int) = bitI z (8 * o + i) := by rw [cf_bts_int, bitI_part _ _ _ _ hi]
/-- **What a page's sector is behind flips.** -/
theorem flip_dec {s n f m W L j : Nat} {x z ps : List Int} (hz : IsPack s n f m W x z) (hW : n + m = W) (hm : (13 * f + 7) / 8 = m) (hn1 : 1 ≤ n) (hj : j < s) (hx : IsB x) (hxl : s * n ≤ x.length) (hnd : ps.Nodup) (hin : ∀ p ∈ ps, 0 ≤ p ∧ p < 8 * ((s * W : Nat) : Int)) (hc : cntTo (8 * W) (8 * n + 13 * f) ps j ≤ f) :
    IsDec f (part (turnI z ps) (j * W) n) (part (turnI z ps) (j * W + n) m) (part x (j * n) n) (part z (j * W + n) m) (cntTo (8 * W) (8 * n + 13 * f) ps j) := by
  have hle := at_le (W := W) hj
  have hln := at_le (W := n) hj
  have hzl := hz.len
  have htl : (turnI z ps).length = z.length := length_turnI z ps
  have he := hz.all.more j hj
  have hd := hz.all.data j hj
  have hbit : ∀ q, q < 8 * z.length → bitI (turnI z ps) q = if (q : Int) ∈ ps then 1 - bitI z q else bitI z q := bit_turned ps z hz.isB hnd fun p hp => by have := hin p hp; omega
  have lx : (part (turnI z ps) (j * W) n).length = n := length_part (by omega)
  refine ⟨by rw [lx, length_part (by omega)], he.len, isB_part hx _ _, isB_part hz.isB _ _, he.above, he.cw, ?_, hc⟩
  rw [lx, ← cnt_count (8 * W) (8 * n + 13 * f) j (by omega) (by omega) ps hnd fun p hp => (hin p hp).1]
  have key : ∀ (q : Nat) (a b : Nat), q < 8 * z.length → (a : Int) = bitI (turnI z ps) q → (b : Int) = bitI z q → (a = b ↔ decide ((q : Int) ∈ ps) = false) := by
    intro q a b hq ha hb
    rw [hbit q hq] at ha
    have h01 := bitI_01 z q
    rw [decide_eq_false_iff_not]
    by_cases h : (q : Int) ∈ ps
    · rw [if_pos h] at ha
      constructor
      · intro e; omega
      · intro h2; exact absurd h h2
    · rw [if_neg h] at ha
      exact ⟨fun _ => h, fun _ => by omega⟩
  have hsplit : countTo (fun r => decide (((j * (8 * W) + r : Nat) : Int) ∈ ps)) (8 * n + 13 * f) = countTo (fun i => if i < 13 * f then decide (((j * (8 * W) + (8 * n + i) : Nat) : Int) ∈ ps) else decide (((j * (8 * W) + (i - 13 * f) : Nat) : Int) ∈ ps)) (13 * f + 8 * n) := by
    rw [countTo_add _ (8 * n) (13 * f), countTo_add _ (13 * f) (8 * n), Nat.add_comm]
    congr 1
    · exact countTo_congr fun i hi => by rw [if_pos hi]
    · exact countTo_congr fun i hi => by rw [if_neg (by omega), Nat.add_sub_cancel_left]
  rw [hsplit]
  have hjK : j * (8 * W) = 8 * (j * W) := by rw [← Nat.mul_assoc, Nat.mul_comm j 8, Nat.mul_assoc]
  refine dist_count fun i hi => ?_
  rw [cf_wordL, cf_wordL]
  by_cases h : i < 13 * f
  · rw [if_pos h, if_pos h, if_pos h]
    refine key (j * (8 * W) + (8 * n + i)) _ _ (by rw [hjK]; omega) ?_ ?_
    · rw [bts_part (by omega) (by omega)]
      congr 1
      omega
    · rw [bts_part (by omega) (by omega)]
      congr 1
      omega
  · rw [if_neg h, if_neg h, if_neg h]
    refine key (j * (8 * W) + (i - 13 * f)) _ _ (by rw [hjK]; omega) ?_ ?_
    · rw [bts_part (by omega) (by omega)]
      congr 1
      omega
    · rw [← hd, bts_part (by omega) (by omega)]
      congr 1
      omega
/-- The greatest of the first i. -/
def maxC (C : Nat → Nat) : Nat → Nat
  | 0 => 0
  | i + 1 => max (maxC C i) (C i)
/-- **What is read of a page behind few flips.** -/
theorem flip_read {s n f m W L : Nat} {x z ps : List Int} (hz : IsPack s n f m W x z) (hW : n + m = W) (hm : (13 * f + 7) / 8 = m) (hn1 : 1 ≤ n) (hn : n ≤ 64) (hf : f ≤ 8) (hx : IsB x) (hxl : s * n = x.length) (hnd : ps.Nodup) (hin : ∀ p ∈ ps, 0 ≤ p ∧ p < 8 * ((s * W : Nat) : Int)) (hc : ∀ j, j < s → cntTo (8 * W) (8 * n + 13 * f) ps j ≤ f)
    {S : Nat → Sec} (hS : ∀ j, j < s → IsSec f (part (turnI z ps) (j * W) n) (part (turnI z ps) (j * W + n) m) (S j)) :
    (∀ j, j < s → (S j).e = 0) ∧ dataTo S s = x ∧ mostTo S s = maxC (cntTo (8 * W) (8 * n + 13 * f) ps) s := by
  have h1 : ∀ j, j < s → (S j).e = 0 ∧ (S j).d = part x (j * n) n ∧ (S j).n = cntTo (8 * W) (8 * n + 13 * f) ps j := fun j hj => by
    have hd := flip_dec (L := L) hz hW hm hn1 hj hx (by omega) hnd hin (hc j hj)
    have hle := at_le (W := W) hj
    have hzl := hz.len
    rcases hS j hj with ⟨h0, k, hk⟩ | ⟨_, _, _, hno⟩
    · obtain ⟨e1, _, e3⟩ := dec_unique (by rw [length_part (by rw [length_turnI]; omega)]; omega) hk hd
      exact ⟨h0, e1, e3⟩
    · exact absurd hd (hno _ _ _)
  refine ⟨fun j hj => (h1 j hj).1, ?_, ?_⟩
  · have key : ∀ i, i ≤ s → dataTo S i = x.take (i * n) := by
      intro i
      induction i with
      | zero => intro _; simp [dataTo]
      | succ i ih =>
        intro hi
        simp only [dataTo]
        rw [ih (by omega), (h1 i (by omega)).2.1, Nat.add_mul, Nat.one_mul, List.take_add]
        rfl
    rw [key s (Nat.le_refl _), hxl, List.take_length]
  · have key : ∀ i, i ≤ s → mostTo S i = maxC (cntTo (8 * W) (8 * n + 13 * f) ps) i := by
      intro i
      induction i with
      | zero => intro _; rfl
      | succ i ih => intro hi; simp only [mostTo, maxC]; rw [ih (by omega), (h1 i (by omega)).2.2]
    exact key s (Nat.le_refl _)
theorem flip_mark {s W L : Nat} {z ps : List Int} (hL : s * W + 1 = L) (hin : ∀ p ∈ ps, 0 ≤ p ∧ p < 8 * ((s * W : Nat) : Int)) : (turnI z ps)[L - 1]?.getD 0 = z[L - 1]?.getD 0 := byte_kept ps z _ fun p hp => by have := hin p hp; omega
theorem cnt_le (K T : Nat) (ps : List Int) (j : Nat) : cntTo K T ps j ≤ ps.length := List.length_filter_le _ _

end Go.Proofs.YtgamakejaknagaaGreat
