/-
  The code of layer 14 (sha512): take.
-/
import Derived.Test.YthcnnglpncblaaaShbHash
namespace Go.Proofs.Ythcnnglpncblaaa.B
open Go.RowKit
set_option linter.unusedVariables false
set_option maxRecDepth 8192

theorem Try.size54 : (Try.prog.info? 54).map (·.size) = some 128 := by kernel_rfl
set_option maxHeartbeats 3200000 in
theorem take_any (K : List Nat) (S : S8) (hK : K.length = 80) (hKl : ∀ x ∈ K, x < 18446744073709551616) (hSok : S.Ok)
    (w : World) (h : Nat) (D z : List Nat) (a : Option Addr) (len cap : Nat) (H : RunIs w h K S D) (hr : Row .u8 w a len cap (nI z)) (hz : ∀ x ∈ z, x < 256) (hne : 0 < len → ∀ ad, a = some ad → ad.block ≠ h) (hb : D.length + len < 1000000000000) :
    Calls Try.prog 28 #[.pointer (some ⟨h, 0, none⟩), .slice a len cap] w fun e w' => e = .returned (.tuple #[]) ∧ RunIs w' h K S (D ++ z) ∧ w.grownBy w' (some h) := by
  have HLz : Hid (z.length = len) := by have := hr.hlen; rw [nI_length] at this; exact this
  have HK : Hid (K.length = 80) := hK
  have HKl : Hid (∀ x ∈ K, x < 18446744073709551616) := hKl
  have HZ : Hid (∀ x ∈ z, x < 256) := hz
  clear hK hKl hz
  obtain ⟨r1, A1, R1, B1⟩ := H
  have HR1 : Hid (RestOk D r1 ∧ ∀ x ∈ r1, x < 256) := ⟨R1, B1⟩
  obtain ⟨N, hN⟩ : ∃ N, D.length = N := ⟨_, rfl⟩
  have HN : Hid (D.length = N) := hN
  have hll : len < 1000000000000 := by omega
  have HA1 : Hid (RunAt w h K (blocksTo K S D (D.length / 128)).list r1 (N % 128)) := by rw [hN] at A1 ⊢; exact A1
  have HRW : Hid (Row .u8 w a len cap (nI z)) := hr
  have HNE : Hid (0 < len → ∀ ad, a = some ad → ad.block ≠ h) := hne
  clear R1 B1 A1 hr hne hb hN
  go_enter Try.func28, Try.ntmps28
  go_wp2
  go_loopw [1] (fun b wr => ∃ (j rm : Nat) (a' : Option Addr) (c' : Nat) (r : List Nat), b = .slice a' rm c' ∧ rm ≤ len ∧ Hid (j + rm = len) ∧ Hid (Row .u8 wr a' rm c' (nI (z.drop j))) ∧ Hid (0 < rm → ∀ ad, a' = some ad → ad.block ≠ h) ∧ Hid (RunAt wr h K (blocksTo K S (D ++ z.take j) ((D ++ z.take j).length / 128)).list r ((N + j) % 128)) ∧ Hid (RestOk (D ++ z.take j) r ∧ ∀ x ∈ r, x < 256) ∧ Hid (w.grownBy wr (some h))) (fun b _ => match b with | .slice _ l _ => l | _ => 0)
  case atStart => exact ⟨0, len, a, cap, r1, rfl, Nat.le_refl _, by show 0 + len = len; omega, HRW, HNE, by rw [List.take_zero, List.append_nil]; exact HA1, by rw [List.take_zero, List.append_nil]; exact HR1, World.grownBy.refl _ _⟩
  case round =>
    clear HA1 HRW HNE HR1
    obtain ⟨j, rm, a', c', r, rfl, hrm, HJ, HR, HNE, HH, HRO, HG⟩ := hrel
    have HDl : Hid ((D ++ z.take j).length = N + j) := by
      show _ = _
      rw [List.length_append, List.length_take, HN.out, HLz.out]
      have := HJ.out
      omega
    by_cases h0 : rm = 0
    · subst h0
      have HF : Hid (RunIs wr h K S (D ++ z)) := by
        have e : z.take j = z := List.take_of_length_le (by rw [HLz.out]; have := HJ.out; omega)
        have hh := HH.out
        have ho := HRO.out
        have hd := HDl.out
        rw [e] at hh ho hd
        refine ⟨r, ?_, ho.1, ho.2⟩
        rw [hd] at hh ⊢
        exact hh
      go_wp2
      go_end0
      exact ⟨rfl, HF.out, HG.out⟩
    · have hat : (N + j) % 128 < 128 := Nat.mod_lt _ (by decide)
      obtain ⟨at_, hat0⟩ : ∃ x, (N + j) % 128 = x := ⟨_, rfl⟩
      have HAt : Hid ((N + j) % 128 = at_) := hat0
      rw [hat0] at hat HH
      clear hat0
      obtain ⟨b, off, rfl, hbs, hcell⟩ := HR.out.hcell (by omega)
      have hbh : b ≠ h := HNE.out (by omega) _ rfl
      obtain ⟨m, hm⟩ : ∃ m : Nat, (m = rm ∧ at_ + rm < 128) ∨ (at_ + m = 128 ∧ m ≤ rm) := by
        rcases Nat.lt_or_ge (at_ + rm) 128 with h1 | h1
        · exact ⟨rm, .inl ⟨rfl, h1⟩⟩
        · exact ⟨128 - at_, .inr ⟨by omega, by omega⟩⟩
      have hmr : m ≤ rm := by omega
      have hm64 : at_ + m ≤ 128 := by omega
      have hm0 : 0 < m := by omega
      have HLl : Hid (((z.drop j).take m).length = m) := by
        show _ = _
        rw [List.length_take, List.length_drop, HLz.out]
        have := HJ.out
        omega
      have th := there_part HH.out.drew.th (88 + at_) m (by omega)
      have hcp := run_copy_cells (P := Try.prog) wr.drew 29 29 3 5 h (88 + at_) (128 - at_) (128 - at_) ⟨b, off, none⟩ rm c' ((nI ((z.drop j).take m)).map (Value.int .u8)) Try.underlying29 Try.one5 (by rw [List.length_map, nI_length, HLl.out]; show m = min rm (128 - at_); omega)
        (fun i v hv => by
          rw [plain_add]
          have hi : i < m := by have := (List.getElem?_eq_some_iff.1 hv).1; rwa [List.length_map, nI_length, HLl.out] at this
          show wr.cell? _ = _
          rw [hcell i (by omega), ← hv, ← nI_take, List.getElem?_map, List.getElem?_take, if_pos hi, List.getElem?_eq_getElem (show i < (nI (z.drop j)).length by rw [HR.out.hlen]; omega)]
          rfl)
        (fun i hi => (th i (by rwa [List.length_map, nI_length, HLl.out] at hi)).1) (fun i hi => (th i (by rwa [List.length_map, nI_length, HLl.out] at hi)).2) (by intro v hv; obtain ⟨x, _, rfl⟩ := List.mem_map.1 hv; rfl)
      rw [List.length_map, nI_length, HLl.out] at hcp
      obtain ⟨a2, c2, hs2, row2, blk2⟩ := row_rest HR.out m hmr
      have hrest := fun W => run_restA 29 5 Try.underlying29 Try.one5 (some ⟨b, off, none⟩) rm c' m .i64 hmr HR.out.hcap W
      rw [hs2] at hrest
      rw [nI_drop, List.drop_drop] at row2
      have HRest : Hid (∀ W, (Instr.sliceAt 29 (.slice (some ⟨b, off, none⟩) rm c') (some (.int .i64 (m : Int))) none none).run Try.prog W = .ok (.slice a2 (rm - m) c2) W) := hrest
      have HB2 : Hid (0 < rm - m → ∀ ad, a2 = some ad → ad.block ≠ h) := fun _ ad hd => by
        obtain ⟨ad', h1, h2⟩ := blk2 ad hd
        rw [h2]
        exact HNE.out (by omega) _ h1
      have gC := turned_cells wr.drew h ((nI ((z.drop j).take m)).map (Value.int .u8)) (88 + at_)
      have HC := HH.out.drew.setR at_ ((z.drop j).take m) (by rw [HLl.out]; exact hm64)
      replace row2 := (row2.turned (turned_drew (World.grownBy.refl wr (some h))) HB2.out).turned gC HB2.out
      have HE : Hid (z.take (j + m) = z.take j ++ (z.drop j).take m) := by show _ = _; rw [List.take_add]
      rw [HLl.out] at HC
      have HCp : Hid (Sem.run Try.prog (Builtin.copy_ #[29, 29] 3 #[.slice (some ⟨h, 88 + at_, none⟩) (128 - at_) (128 - at_), .slice (some ⟨b, off, none⟩) rm c']) wr.drew = .ok (goInt m) (wr.drew.setCells h (88 + at_) ((nI ((z.drop j).take m)).map (Value.int .u8)))) := hcp
      clear hcp hrest hs2 blk2 th hcell
      have HLen : Hid ((D ++ z.take j).length % 128 = at_) := by show _ = _; rw [HDl.out]; exact HAt.out
      have HAp : Hid (D ++ z.take (j + m) = D ++ z.take j ++ (z.drop j).take m) := by show _ = _; rw [HE.out, List.append_assoc]
      have HL256 : Hid (∀ x ∈ (z.drop j).take m, x < 256) := fun x hx => HZ.out x (List.mem_of_mem_drop (List.mem_of_mem_take hx))
      generalize hL : (z.drop j).take m = L at *
      clear hL
      have HB3 : Hid (∀ x ∈ r.take at_ ++ (L ++ r.drop (at_ + m)), x < 256) := rest_bytes (D := D) HRO.out.2 HL256.out _ _
      have gG : wr.grownBy (wr.drew.setCells h (88 + at_) ((nI L).map (Value.int .u8))) (some h) := turned_trans (turned_drew (World.grownBy.refl _ _)) gC
      have HGC : Hid (w.grownBy (wr.drew.setCells h (88 + at_) ((nI L).map (Value.int .u8))) (some h)) := turned_trans HG.out gG
      have HROW : Hid (Row .u8 (wr.drew.setCells h (88 + at_) ((nI L).map (Value.int .u8))) a2 (rm - m) c2 (nI (z.drop (j + m)))) := row2
      have HOK : Hid ((blocksTo K S (D ++ z.take j) ((D ++ z.take j).length / 128)).Ok) := blocksTo_ok hSok _ _
      obtain ⟨st, hst⟩ : ∃ x, blocksTo K S (D ++ z.take j) ((D ++ z.take j).length / 128) = x := ⟨_, rfl⟩
      have HST0 : Hid (blocksTo K S (D ++ z.take j) ((D ++ z.take j).length / 128) = st) := hst
      rw [hst] at HH HC HOK
      clear hst gC row2
      have HS0 : Hid ((∃ r', RunAt wr.drew h K st.list r' at_) ∧ wr.grownBy wr.drew (some h)) := ⟨⟨_, HH.out.drew⟩, turned_drew (World.grownBy.refl _ _)⟩
      have hrm0 : (0 : Int) < (rm : Int) := by omega
      go_wp2_with fail
      refine heldS_open (fun w' => (∃ r', RunAt w' h K st.list r' at_) ∧ wr.grownBy w' (some h)) (by kernel_rfl) ?_
      refine held_reads (rs := [0, 1, 2, 3, 4, 5, 6, 7, 8]) (fuel := 2) (by kernel_rfl) (fun c d v a w h => by cases d <;> exact h) (by kernel_rfl) HS0.out (fun K' hK' => ?_)
      refine calm_move _ rfl (by rfl) rfl ?_
      go_simp
      refine calm_do (.pointer (some ⟨h, 0, none⟩)) rfl (by rfl) (fun w' hw' => ?_) ?_
      · go_simp
      go_simp
      refine calm_do (.pointer (some ⟨h, 88, none⟩)) rfl (by rfl) (fun w' hw' => ?_) ?_
      · go_simp
      go_simp
      refine calm_move _ rfl (by rfl) rfl ?_
      go_simp
      refine calm_do (.pointer (some ⟨h, 0, none⟩)) rfl (by rfl) (fun w' hw' => ?_) ?_
      · go_simp
      go_simp
      refine calm_do (.pointer (some ⟨h, 216, none⟩)) rfl (by rfl) (fun w' hw' => ?_) ?_
      · go_simp
      go_simp
      refine calm_do (.int .i64 (at_ : Int)) rfl (by rfl) (fun w' hw' => ?_) ?_
      · obtain ⟨⟨r', hh⟩, _⟩ := hw'
        have hc := hh.cn
        go_simp
      go_simp
      refine calm_do (.slice (some ⟨h, 88 + at_, none⟩) (128 - at_) (128 - at_)) rfl (by rfl) (fun w' hw' => ?_) ?_
      · exact exec_sliceL 54 (.tmp 10) (.tmp 14) rfl (.pointer (some ⟨h, 88, none⟩)) (.int .i64 (at_ : Int)) _ rfl rfl (run_sliceAtL 54 5 128 Try.underlying54 Try.one5 h 88 .i64 at_ hat w')
      go_simp
      refine calm_move _ rfl (by rfl) rfl ?_
      go_simp
      refine calm_nil (hK'.out _ ?_)
      clear hK' K'
      refine heldS_op (i := 9) (fuel := 1) (by kernel_rfl) rfl (by rfl) (fun K' hK' => ?_)
      have hcp := HCp.out
      go_simp
      refine hK' _ _ ⟨⟨_, HC⟩, gG⟩ ?_
      clear hK' K' hcp HCp
      refine held_reads (rs := [10]) (fuel := 0) (by kernel_rfl) (fun c d v a w h => by cases d <;> exact h) (by kernel_rfl) ⟨⟨_, HC⟩, gG⟩ (fun K' hK' => ?_)
      go_simp
      refine calm_assign _ rfl (by rfl) rfl ?_
      go_simp
      refine calm_nil (hK'.out _ ?_)
      clear hK' K'
      refine wpAnyH_done (by kernel_rfl) ?_ _
      have HC2 : Hid (RunAt (wr.drew.setCells h (88 + at_) ((nI L).map (Value.int .u8))) h K st.list (r.take at_ ++ (L ++ r.drop (at_ + m))) at_) := HC
      clear HC gG HS0
      generalize wr.drew.setCells h (88 + at_) ((nI L).map (Value.int .u8)) = wc at *
      have cn := HC2.out.cn
      have f1 := (HC2.out.th 216 (by decide)).2
      rw [Nat.zero_add] at f1
      have HC3 : Hid (RunAt (wc.setCell ⟨h, 216, none⟩ (.int .i64 ((at_ + m : Nat) : Int))) h K st.list (r.take at_ ++ (L ++ r.drop (at_ + m))) (at_ + m)) := HC2.out.setN (at_ + m)
      have gN := turned_cell wc h 216 (.int .i64 ((at_ + m : Nat) : Int))
      have HGN : Hid (w.grownBy (wc.setCell ⟨h, 216, none⟩ (.int .i64 ((at_ + m : Nat) : Int))) (some h)) := turned_trans HGC.out gN
      have HROWN : Hid (Row .u8 (wc.setCell ⟨h, 216, none⟩ (.int .i64 ((at_ + m : Nat) : Int))) a2 (rm - m) c2 (nI (z.drop (j + m)))) := HROW.out.turned gN HB2.out
      clear gN HC2 HGC HROW
      have hlow : (at_ : Int) + (m : Int) ≤ 128 := by omega
      rcases hm with ⟨rfl, hlt⟩ | ⟨hfull, _⟩
      · have HNEW := rest_more K S (L := L) HRO.out.1 (by rw [HLen.out, HLl.out]; exact hlt)
        rw [HLen.out, HLl.out, ← HAp.out] at HNEW
        have HST : Hid (RunAt (wc.setCell ⟨h, 216, none⟩ (.int .i64 ((at_ + m : Nat) : Int))) h K (blocksTo K S (D ++ z.take (j + m)) ((D ++ z.take (j + m)).length / 128)).list (r.take at_ ++ (L ++ r.drop (at_ + m))) ((N + (j + m)) % 128)) := by
          show RunAt _ _ _ _ _ _
          rw [HNEW.2.1, HNEW.2.2, HST0.out, show (N + (j + m)) % 128 = at_ + m from by have := HAt.out; omega]
          exact HC3.out
        have HRN : Hid (RestOk (D ++ z.take (j + m)) (r.take at_ ++ (L ++ r.drop (at_ + m))) ∧ ∀ x ∈ r.take at_ ++ (L ++ r.drop (at_ + m)), x < 256) := ⟨HNEW.1, HB3.out⟩
        have HJ2 : Hid (j + m + (m - m) = len) := by show _ = _; have := HJ.out; omega
        have hq : ((at_ : Int) + (m : Int) == 128) = false := by simp; omega
        rw [Nat.sub_self] at HROWN HJ2 HB2
        clear HNEW HC3 HRO HH
        go_wp2_with (refine wpList_sliceLo rfl 29 _ _ rfl (.slice (some ⟨b, off, none⟩) m c') (.int .i64 (m : Int)) _ rfl rfl (HRest.out _) ?_)
        go_roundw
        case rel => exact ⟨j + m, 0, a2, c2, _, rfl, Nat.zero_le _, HJ2, HROWN, HB2, HST, HRN, HGN⟩
        case measure => simp only; omega
      · have HNEW := rest_full K S (L := L) HRO.out.1 (by rw [HLen.out, HLl.out]; exact hfull)
        rw [HLen.out, HLl.out, ← HAp.out, HST0.out] at HNEW
        have hq : ((at_ : Int) + (m : Int) == 128) = true := by simp; omega
        have HNW : Hid (_ ∧ _) := HNEW
        clear HNEW
        go_wp2_with (refine wpList_sliceLo rfl 29 _ _ rfl (.slice (some ⟨b, off, none⟩) rm c') (.int .i64 (m : Int)) _ rfl rfl (HRest.out _) ?_)
        change Code.wp _ _ _ _ (wc.setCell ⟨h, 216, none⟩ (.int .i64 ((at_ + m : Nat) : Int)))
        generalize wc.setCell ⟨h, 216, none⟩ (.int .i64 ((at_ + m : Nat) : Int)) = wd at *
        generalize r.take at_ ++ (L ++ r.drop (at_ + m)) = r2 at *
        have HA2 : Hid ((N + (j + m)) % 128 = 0) := by show _ = _; have := HAt.out; omega
        have HJ2 : Hid (j + m + (rm - m) = len) := by show _ = _; have := HJ.out; omega
        rw [hfull] at HC3
        clear HRest HH HRO HR HNE cn f1
        have hS0 : (∃ s' : List Nat, RunAt wd.drew h K s' r2 128) ∧ wd.grownBy wd.drew (some h) := ⟨⟨_, HC3.out.drew⟩, turned_drew (World.grownBy.refl _ _)⟩
        refine heldS_open (fun w' => (∃ s' : List Nat, RunAt w' h K s' r2 128) ∧ wd.grownBy w' (some h)) (by kernel_rfl) ?_
        refine held_reads (rs := [0, 1, 2, 3, 5, 6, 7, 8, 9, 10, 11]) (fuel := 5) (by kernel_rfl) (fun c d v a w h => by cases d <;> exact h) (by kernel_rfl) hS0 (fun K' hK' => ?_)
        refine calm_move _ rfl (by rfl) rfl ?_
        go_simp
        refine calm_move _ rfl (by rfl) rfl ?_
        go_simp
        refine calm_do (.pointer (some ⟨h, 0, none⟩)) rfl (by rfl) (fun w' hw' => ?_) ?_
        · go_simp
        go_simp
        refine calm_do (.pointer (some ⟨h, 80, none⟩)) rfl (by rfl) (fun w' hw' => ?_) ?_
        · go_simp
        go_simp
        refine calm_move _ rfl (by rfl) rfl ?_
        go_simp
        refine calm_do (.pointer (some ⟨h, 0, none⟩)) rfl (by rfl) (fun w' hw' => ?_) ?_
        · go_simp
        go_simp
        refine calm_do (.pointer (some ⟨h, 88, none⟩)) rfl (by rfl) (fun w' hw' => ?_) ?_
        · go_simp
        go_simp
        refine calm_do (.slice (some ⟨h, 88, none⟩) 128 128) rfl (by rfl) (fun w' hw' => ?_) ?_
        · exact exec_sliceAll 54 (.tmp 41) rfl (.pointer (some ⟨h, 88, none⟩)) _ rfl (run_sliceAtAll 54 5 128 Try.underlying54 Try.one5 h 88 (by decide) w')
        go_simp
        refine calm_move _ rfl (by rfl) rfl ?_
        go_simp
        refine calm_do (.pointer (some ⟨h, 0, none⟩)) rfl (by rfl) (fun w' hw' => ?_) ?_
        · go_simp
        go_simp
        refine calm_do (.pointer (some ⟨h, 0, none⟩)) rfl (by rfl) (fun w' hw' => ?_) ?_
        · go_simp
        go_simp
        refine calm_nil (hK'.out _ ?_)
        clear hK' K'
        refine heldS_op (i := 4) (fuel := 4) (by kernel_rfl) rfl (by rfl) (fun K' hK' => ?_)
        refine wp_load_mid 26 _ rfl h 80 rfl _ _ HC3.out.drew.rs Try.underlying26 rfl (by rw [Try.size26, List.length_map, nI_length, HC3.out.ls]) ?_
        go_simp
        refine hK' _ _ hS0 ?_
        clear hK' K'
        refine heldS_op (i := 12) (fuel := 3) (by kernel_rfl) rfl (by rfl) (fun K' hK' => ?_)
        go_simp
        refine (mix_any st K r2 (some ⟨h, 88, none⟩) 128 _ HOK.out HK.out HKl.out h HC3.out.drew.lt HC3.out.drew.rK HC3.out.drew.row HB3.out).mono ?_
        rintro e wm ⟨rfl, qm⟩
        have HM := HC3.out.drew.below qm HC3.out.lt
        have gM : wd.grownBy wm (some h) := turned_trans (turned_drew (World.grownBy.refl _ _)) (turned_below _ qm)
        have SM : (∃ s' : List Nat, RunAt wm h K s' r2 128) ∧ wd.grownBy wm (some h) := ⟨⟨_, HM⟩, gM⟩
        refine hK' _ _ SM ?_
        clear hK' K'
        refine held_reads (rs := [13, 14]) (fuel := 1) (by kernel_rfl) (fun c d v a w h => by cases d <;> exact h) (by kernel_rfl) SM (fun K' hK' => ?_)
        go_simp
        refine calm_do (.pointer (some ⟨h, 0, none⟩)) rfl (by rfl) (fun w' hw' => ?_) ?_
        · go_simp
        go_simp
        refine calm_do (.pointer (some ⟨h, 80, none⟩)) rfl (by rfl) (fun w' hw' => ?_) ?_
        · go_simp
        go_simp
        refine calm_nil (hK'.out _ ?_)
        clear hK' K'
        refine heldS_op (i := 15) (fuel := 0) (by kernel_rfl) rfl (by rfl) (fun K' hK' => ?_)
        refine wp_storeM 26 _ _ rfl h 80 (nI (mixL K st r2).list) rfl rfl (there_part HM.th 80 8 (by decide)) Try.size26 (by rw [nI_length]; rfl) ?_
        have HE2 := HM.setS (mixL K st r2).list rfl
        have gE := turned_trans gM (turned_cells wm h ((nI (mixL K st r2).list).map (Value.int .u64)) 80)
        generalize wm.setCells h 80 ((nI (mixL K st r2).list).map (Value.int .u64)) = wE at *
        refine hK' _ _ ⟨⟨_, HE2⟩, gE⟩ ?_
        clear hK' K'
        refine wpAnyH_done (by kernel_rfl) ?_ _
        have cE := HE2.cn
        have f2 := (HE2.th 216 (by decide)).2
        rw [Nat.zero_add] at f2
        have gF := turned_trans gE (turned_cell wE h 216 (.int .i64 ((0 : Nat) : Int)))
        have HST : Hid (RunAt (wE.setCell ⟨h, 216, none⟩ (.int .i64 ((0 : Nat) : Int))) h K (blocksTo K S (D ++ z.take (j + m)) ((D ++ z.take (j + m)).length / 128)).list r2 ((N + (j + m)) % 128)) := by
          show RunAt _ _ _ _ _ _
          rw [← HNW.out.1, HA2.out]
          exact HE2.setN 0
        have HRN : Hid (RestOk (D ++ z.take (j + m)) r2 ∧ ∀ x ∈ r2, x < 256) := ⟨HNW.out.2.2 r2 HC3.out.lr, HB3.out⟩
        have HROW2 : Hid (Row .u8 (wE.setCell ⟨h, 216, none⟩ (.int .i64 ((0 : Nat) : Int))) a2 (rm - m) c2 (nI (z.drop (j + m)))) := HROWN.out.turned gF HB2.out
        have HGE : Hid (w.grownBy (wE.setCell ⟨h, 216, none⟩ (.int .i64 ((0 : Nat) : Int))) (some h)) := turned_trans HGN.out gF
        clear HE2 gE gF HM gM SM hS0 HROWN HNW HC3 HGN qm
        go_wp2
        go_roundw
        case rel => exact ⟨j + m, rm - m, a2, _, r2, rfl, by omega, HJ2, HROW2, HB2, HST, HRN, HGE⟩
        case measure => simp only; omega
end Go.Proofs.Ythcnnglpncblaaa.B
