/-
  The code of layer 13 (sha256): Write.
-/
import Derived.Test.YtoijeefmddopbaaShaHash4
namespace Go.Proofs.Ytoijeefmddopbaa
open Go.RowKit
set_option linter.unusedVariables false
set_option maxRecDepth 8192

theorem exec_sliceAll {P : Program} {a : Act} {o : Oper} {w : World} (ty : TypeId) (x : Operand) (ho : o.op = .slice ty x none none none) (vx v : Value) (hx : a.eval x = vx) (hr : (Instr.sliceAt ty vx none none none).run P w = .ok v w) : (execOp a.eval o).run P w = .ok (.value v) w := by
  unfold execOp
  simp only [ho, hx, Option.map_none, Sem.run_bind, Sem.run_pure, Result.andThen_ok, hr]
theorem HashAt.row {w : World} {h : Nat} {d m : Int} {K s r : List Nat} {n : Nat} (H : HashAt w h d m K s r n) : Row .u8 w (some ⟨h, 75, none⟩) 64 64 (nI r) :=
  ⟨by rw [nI_length]; exact H.lr, Nat.le_refl _, by decide, by simp, fun _ => ⟨h, 75, rfl, H.lt, fun i hi => by
    have hl : i < (nI r).length := by rw [nI_length, H.lr]; exact hi
    apply H.rr i
    rw [List.getElem?_map, List.getElem?_eq_getElem hl]
    rfl⟩⟩
theorem write_nil (a : Option Addr) (len cap : Nat) (w : World) : Calls Try.prog 24 #[.pointer none, .slice a len cap] w fun e w' => e = .returned (.int .i64 3) ∧ w = w' := by
  go_enter Try.func24, Try.ntmps24
  go_wp2
  go_ret
  exact ⟨rfl, rfl⟩
set_option maxHeartbeats 3200000 in
theorem write_gen (K : List Nat) (S : S8) (hK : K.length = 64) (hKl : ∀ x ∈ K, x < 4294967296) (hSok : S.Ok)
    (hOnce : ∀ w h D, HIs w h K S D → Calls Try.prog 40 #[.pointer (some ⟨h, 0, none⟩), .func (.func 41) #[.pointer (some ⟨h, 0, none⟩)] #[]] w fun e w' => e = .returned (.tuple #[]) ∧ OnAt w' h K S D ∧ w.grownBy w' (some h))
    (w : World) (h : Nat) (D z : List Nat) (a : Option Addr) (len cap : Nat) (H : HIs w h K S D) (hr : Row .u8 w a len cap (nI z)) (hz : ∀ x ∈ z, x < 256) (hne : 0 < len → ∀ ad, a = some ad → ad.block ≠ h) (hb : D.length + len < 1000000000000) :
    Calls Try.prog 24 #[.pointer (some ⟨h, 0, none⟩), .slice a len cap] w fun e w' => e = .returned (.int .i64 0) ∧ OnAt w' h K S (D ++ z) ∧ w.grownBy w' (some h) := by
  have hmf : ∀ (fn : Fn) (first cap : Array Value) (w : World), (Instr.makeFunc fn first cap).run Try.prog w = .ok (.func fn first cap) w := fun _ _ _ _ => rfl
  have HLz : Hid (z.length = len) := by have := hr.hlen; rw [nI_length] at this; exact this
  have HK : Hid (K.length = 64) := hK
  have HKl : Hid (∀ x ∈ K, x < 4294967296) := hKl
  have HZ : Hid (∀ x ∈ z, x < 256) := hz
  clear hK hKl hz
  go_enter Try.func24, Try.ntmps24
  go_wp2_with fail
  refine (hOnce _ h D H).mono ?_
  rintro e w1 ⟨rfl, H1, g1⟩
  clear hOnce H hmf
  replace hr := hr.turned g1 hne
  obtain ⟨r1, A1, R1, B1⟩ := H1
  have f1 := (A1.th 139 (by decide)).2
  rw [Nat.zero_add] at f1
  go_wp2_with fail
  refine (count_add ⟨h, 139, none⟩ D.length len _ A1.cn f1 (by omega)).mono ?_
  rintro e w2 ⟨rfl, hw2⟩
  have A2 : HashAt w2 h 1 0 K (blocksTo K S D (D.length / 64)).list r1 (D.length + len) := by rw [hw2]; exact A1.setN (D.length + len)
  have g2 : w1.grownBy w2 (some h) := by rw [hw2]; exact turned_cell w1 h 139 _
  replace hr := hr.turned g2 hne
  replace g2 := turned_trans g1 g2
  clear hw2 A1 g1 f1
  have HR1 : Hid (RestOk D r1 ∧ ∀ x ∈ r1, x < 256) := ⟨R1, B1⟩
  have HB : Hid (D.length + len < 1000000000000) := hb
  have hat : D.length % 64 < 64 := Nat.mod_lt _ (by decide)
  have e2 : (D.length : Int) % 64 = ((D.length % 64 : Nat) : Int) := by omega
  have e1 : ((D.length + len : Nat) : Int) - (len : Int) = (D.length : Int) := by omega
  have HAT : Hid (D.length % 64 = D.length % 64) := rfl
  clear R1 B1
  obtain ⟨NL, hNL⟩ : ∃ NL, D.length + len = NL := ⟨_, rfl⟩
  rw [hNL] at A2 e1 ⊢
  obtain ⟨N, hN⟩ : ∃ N, D.length = N := ⟨_, rfl⟩
  rw [hN] at e1 e2 hat
  obtain ⟨at0, hat0⟩ : ∃ x, N % 64 = x := ⟨_, rfl⟩
  rw [hat0] at e2 hat
  have HNL : Hid (D.length + len = NL) := hNL
  have HN : Hid (D.length = N) := hN
  have HAt : Hid (N % 64 = at0) := hat0
  have hNLl : NL < 1000000000000 := by rw [← hNL]; exact hb
  have hNle : N + len = NL := by rw [← hN]; exact hNL
  clear hNL hN hat0 hb HAT
  have hNN : N ≤ NL ∧ len ≤ NL := by omega
  clear hNle
  go_wp2
  clear e1 e2
  have HG2 : Hid (w.grownBy w2 (some h)) := g2
  have HA2 : Hid (HashAt w2 h 1 0 K (blocksTo K S D (D.length / 64)).list r1 NL) := A2
  have HRW : Hid (Row .u8 w2 a len cap (nI z)) := hr
  have HNE : Hid (0 < len → ∀ ad, a = some ad → ad.block ≠ h) := hne
  clear g2 A2 hr hne
  go_loopw [1, 6] (fun b y wr => ∃ (j rm at_ : Nat) (a' : Option Addr) (c' : Nat) (r : List Nat), b = .slice a' rm c' ∧ y = .int .i64 (at_ : Int) ∧ at_ < 64 ∧ rm ≤ NL ∧ Hid (j + rm = len) ∧ Hid ((N + j) % 64 = at_) ∧ Hid (Row .u8 wr a' rm c' (nI (z.drop j))) ∧ Hid (0 < rm → ∀ ad, a' = some ad → ad.block ≠ h) ∧ Hid (HashAt wr h 1 0 K (blocksTo K S (D ++ z.take j) ((D ++ z.take j).length / 64)).list r NL) ∧ Hid (RestOk (D ++ z.take j) r ∧ ∀ x ∈ r, x < 256) ∧ Hid (w.grownBy wr (some h))) (fun b _ _ => match b with | .slice _ l _ => l | _ => 0)
  case atStart => exact ⟨0, len, at0, a, cap, r1, rfl, rfl, hat, hNN.2, by show 0 + len = len; omega, HAt, HRW, HNE, by rw [List.take_zero, List.append_nil]; exact HA2, by rw [List.take_zero, List.append_nil]; exact HR1, HG2⟩
  case round =>
    clear HG2 HA2 HRW HNE HR1 HAt hat
    obtain ⟨j, rm, at_, a', c', r, rfl, rfl, hat, hrm, HJ, HAt, HR, HNE, HH, HRO, HG⟩ := hrel
    have HDl : Hid ((D ++ z.take j).length = N + j) := by
      show _ = _
      rw [List.length_append, List.length_take, HN.out, HLz.out]
      have := HJ.out
      omega
    by_cases h0 : rm = 0
    · subst h0
      have HF : Hid (OnAt wr h K S (D ++ z)) := by
        have e : z.take j = z := List.take_of_length_le (by rw [HLz.out]; have := HJ.out; omega)
        have hh := HH.out
        have ho := HRO.out
        rw [e] at hh ho
        refine ⟨r, ?_, ho.1, ho.2⟩
        have el : (D ++ z).length = NL := by rw [List.length_append, HLz.out]; exact HNL.out
        rw [el] at hh ⊢
        exact hh
      go_wp2
      go_ret
      exact ⟨rfl, HF.out, HG.out⟩
    · obtain ⟨b, off, rfl, hbs, hcell⟩ := HR.out.hcell (by omega)
      have hbh : b ≠ h := HNE.out (by omega) _ rfl
      obtain ⟨m, hm⟩ : ∃ m : Nat, (m = rm ∧ at_ + rm < 64) ∨ (at_ + m = 64 ∧ m ≤ rm) := by
        rcases Nat.lt_or_ge (at_ + rm) 64 with h1 | h1
        · exact ⟨rm, .inl ⟨rfl, h1⟩⟩
        · exact ⟨64 - at_, .inr ⟨by omega, by omega⟩⟩
      have hmr : m ≤ rm := by omega
      have hm64 : at_ + m ≤ 64 := by omega
      have hm0 : 0 < m := by omega
      have HLl : Hid (((z.drop j).take m).length = m) := by
        show _ = _
        rw [List.length_take, List.length_drop, HLz.out]
        have := HJ.out
        omega
      have hsl : ∀ W, (Instr.sliceAt 74 (.pointer (some ⟨h, 75, none⟩)) (some (.int .i64 (at_ : Int))) none none).run Try.prog W = .ok (.slice (some ⟨h, 75 + at_, none⟩) (64 - at_) (64 - at_)) W := fun W => run_sliceAtL 74 5 64 Try.underlying74 Try.one5 h 75 .i64 at_ hat W
      have th := there_part HH.out.th (75 + at_) m (by omega)
      have hcp := run_copy_cells (P := Try.prog) wr 36 36 3 5 h (75 + at_) (64 - at_) (64 - at_) ⟨b, off, none⟩ rm c' ((nI ((z.drop j).take m)).map (Value.int .u8)) Try.underlying36 Try.one5 (by rw [List.length_map, nI_length, HLl.out]; show m = min rm (64 - at_); omega)
        (fun i v hv => by
          rw [plain_add]
          have hi : i < m := by have := (List.getElem?_eq_some_iff.1 hv).1; rwa [List.length_map, nI_length, HLl.out] at this
          rw [hcell i (by omega), ← hv, ← nI_take, List.getElem?_map, List.getElem?_take, if_pos hi, List.getElem?_eq_getElem (show i < (nI (z.drop j)).length by rw [HR.out.hlen]; omega)]
          rfl)
        (fun i hi => (th i (by rwa [List.length_map, nI_length, HLl.out] at hi)).1) (fun i hi => (th i (by rwa [List.length_map, nI_length, HLl.out] at hi)).2) (by intro v hv; obtain ⟨x, _, rfl⟩ := List.mem_map.1 hv; rfl)
      rw [List.length_map, nI_length, HLl.out] at hcp
      obtain ⟨a2, c2, hs2, row2, blk2⟩ := row_rest HR.out m hmr
      have hrest := fun W => run_restA 36 5 Try.underlying36 Try.one5 (some ⟨b, off, none⟩) rm c' m .i64 hmr HR.out.hcap W
      rw [hs2] at hrest
      rw [nI_drop, List.drop_drop] at row2
      have HRest : Hid (∀ W, (Instr.sliceAt 36 (.slice (some ⟨b, off, none⟩) rm c') (some (.int .i64 (m : Int))) none none).run Try.prog W = .ok (.slice a2 (rm - m) c2) W) := hrest
      have HB2 : Hid (0 < rm - m → ∀ ad, a2 = some ad → ad.block ≠ h) := fun _ ad hd => by
        obtain ⟨ad', h1, h2⟩ := blk2 ad hd
        rw [h2]
        exact HNE.out (by omega) _ h1
      have gC := turned_cells wr h ((nI ((z.drop j).take m)).map (Value.int .u8)) (75 + at_)
      have HC := HH.out.setR at_ ((z.drop j).take m) (by rw [HLl.out]; exact hm64)
      replace row2 := row2.turned gC HB2.out
      have HE : Hid (z.take (j + m) = z.take j ++ (z.drop j).take m) := by show _ = _; rw [List.take_add]
      rw [HLl.out] at HC
      have HCp : Hid (Sem.run Try.prog (Builtin.copy_ #[36, 36] 3 #[.slice (some ⟨h, 75 + at_, none⟩) (64 - at_) (64 - at_), .slice (some ⟨b, off, none⟩) rm c']) wr = .ok (goInt m) (wr.setCells h (75 + at_) ((nI ((z.drop j).take m)).map (Value.int .u8)))) := hcp
      clear hcp hrest hs2 blk2 th hcell
      have hcp := HCp.out
      have e64 : (at_ : Int) < 64 := by omega
      have HLen : Hid ((D ++ z.take j).length % 64 = at_) := by show _ = _; rw [HDl.out]; exact HAt.out
      have HAp : Hid (D ++ z.take (j + m) = D ++ z.take j ++ (z.drop j).take m) := by show _ = _; rw [HE.out, List.append_assoc]
      have HL256 : Hid (∀ x ∈ (z.drop j).take m, x < 256) := fun x hx => HZ.out x (List.mem_of_mem_drop (List.mem_of_mem_take hx))
      generalize hL : (z.drop j).take m = L at *
      clear hL
      generalize wr.setCells h (75 + at_) ((nI L).map (Value.int .u8)) = wc at *
      have HB3 : Hid (∀ x ∈ r.take at_ ++ (L ++ r.drop (at_ + m)), x < 256) := rest_bytes (D := D) HRO.out.2 HL256.out _ _
      have gG : w.grownBy wc (some h) := turned_trans HG.out gC
      have HGC : Hid (w.grownBy wc (some h)) := gG
      have HROW : Hid (Row .u8 wc a2 (rm - m) c2 (nI (z.drop (j + m)))) := row2
      clear gG gC row2 HCp
      rcases hm with ⟨rfl, hlt⟩ | ⟨hfull, _⟩
      · have HNEW := rest_more K S (L := L) HRO.out.1 (by rw [HLen.out, HLl.out]; exact hlt)
        rw [HLen.out, HLl.out, ← HAp.out] at HNEW
        have HST : Hid (HashAt wc h 1 0 K (blocksTo K S (D ++ z.take (j + m)) ((D ++ z.take (j + m)).length / 64)).list (r.take at_ ++ (L ++ r.drop (at_ + m))) NL) := by
          show HashAt _ _ _ _ _ _ _ _
          rw [HNEW.2.1, HNEW.2.2]
          exact HC
        have HRN : Hid (RestOk (D ++ z.take (j + m)) (r.take at_ ++ (L ++ r.drop (at_ + m))) ∧ ∀ x ∈ r.take at_ ++ (L ++ r.drop (at_ + m)), x < 256) := ⟨HNEW.1, HB3.out⟩
        have HA2 : Hid ((N + (j + m)) % 64 = at_ + m) := by show _ = _; have := HAt.out; omega
        have HJ2 : Hid (j + m + (m - m) = len) := by show _ = _; have := HJ.out; omega
        have hq : ((at_ : Int) + (m : Int) == 64) = false := by simp; omega
        rw [Nat.sub_self] at HROW HJ2 HB2
        clear HNEW HC HRO HH
        go_wp2_with (refine wpList_sliceLo rfl 36 _ _ rfl (.slice (some ⟨b, off, none⟩) m c') (.int .i64 (m : Int)) _ rfl rfl (HRest.out _) ?_)
        go_roundw
        case rel => exact ⟨j + m, 0, at_ + m, a2, c2, _, rfl, by go_num, by omega, Nat.zero_le _, HJ2, HA2, HROW, HB2, HST, HRN, HGC⟩
        case measure => simp only; omega
      · have HNEW := rest_full K S (L := L) HRO.out.1 (by rw [HLen.out, HLl.out]; exact hfull)
        rw [HLen.out, HLl.out, ← HAp.out] at HNEW
        have hq : ((at_ : Int) + (m : Int) == 64) = true := by simp; omega
        have HC2 : Hid (HashAt wc h 1 0 K (blocksTo K S (D ++ z.take j) ((D ++ z.take j).length / 64)).list (r.take at_ ++ (L ++ r.drop (at_ + m))) NL) := HC
        have HN2 := HNEW
        have HNW : Hid (_ ∧ _) := HNEW
        clear HN2 HNEW HC
        have HOK : Hid ((blocksTo K S (D ++ z.take j) ((D ++ z.take j).length / 64)).Ok) := blocksTo_ok hSok _ _
        go_wp2_with (refine wpList_sliceLo rfl 36 _ _ rfl (.slice (some ⟨b, off, none⟩) rm c') (.int .i64 (m : Int)) _ rfl rfl (HRest.out _) ?_)
        generalize blocksTo K S (D ++ z.take j) ((D ++ z.take j).length / 64) = st at *
        generalize r.take at_ ++ (L ++ r.drop (at_ + m)) = r2 at *
        have HA2 : Hid ((N + (j + m)) % 64 = 0) := by show _ = _; have := HAt.out; omega
        have HJ2 : Hid (j + m + (rm - m) = len) := by show _ = _; have := HJ.out; omega
        clear hcp hsl HRest HH HRO HR HNE
        have hS0 : (∃ s' : List Nat, HashAt wc.drew h 1 0 K s' r2 NL) ∧ wc.grownBy wc.drew (some h) := ⟨⟨_, HC2.out.drew⟩, turned_drew (World.grownBy.refl _ _)⟩
        refine heldS_open (fun w' => (∃ s' : List Nat, HashAt w' h 1 0 K s' r2 NL) ∧ wc.grownBy w' (some h)) (by kernel_rfl) ?_
        refine held_reads (rs := [0, 1, 2, 3, 5, 6, 7, 8, 9, 10, 11, 12]) (fuel := 5) (by kernel_rfl) (fun c d v a w h => by cases d <;> exact h) (by kernel_rfl) hS0 (fun K' hK' => ?_)
        refine calm_move _ rfl (by rfl) rfl ?_
        go_simp
        refine calm_move _ rfl (by rfl) rfl ?_
        go_simp
        refine calm_do (.pointer (some ⟨h, 0, none⟩)) rfl (by rfl) (fun w' hw' => ?_) ?_
        · go_simp
        go_simp
        refine calm_do (.pointer (some ⟨h, 67, none⟩)) rfl (by rfl) (fun w' hw' => ?_) ?_
        · go_simp
        go_simp
        refine calm_move _ rfl (by rfl) rfl ?_
        go_simp
        refine calm_do (.pointer (some ⟨h, 0, none⟩)) rfl (by rfl) (fun w' hw' => ?_) ?_
        · go_simp
        go_simp
        refine calm_do (.pointer (some ⟨h, 75, none⟩)) rfl (by rfl) (fun w' hw' => ?_) ?_
        · go_simp
        go_simp
        refine calm_do (.slice (some ⟨h, 75, none⟩) 64 64) rfl (by rfl) (fun w' hw' => ?_) ?_
        · exact exec_sliceAll 74 (.tmp 53) rfl (.pointer (some ⟨h, 75, none⟩)) _ rfl (run_sliceAtAll 74 5 64 Try.underlying74 Try.one5 h 75 (by decide) w')
        go_simp
        refine calm_move _ rfl (by rfl) rfl ?_
        go_simp
        refine calm_do (.pointer (some ⟨h, 0, none⟩)) rfl (by rfl) (fun w' hw' => ?_) ?_
        · go_simp
        go_simp
        refine calm_do (.pointer (some ⟨h, 3, none⟩)) rfl (by rfl) (fun w' hw' => ?_) ?_
        · go_simp
        go_simp
        refine calm_do (.agg ((nI K).map (Value.int .u32)).toArray) rfl (by rfl) (fun w' hw' => ?_) ?_
        · obtain ⟨⟨s', hh⟩, _⟩ := hw'
          exact exec_loadM 32 _ rfl h 3 rfl hh.rK Try.underlying32 Try.size32 (by rw [nI_length]; exact HK.out)
        go_simp
        refine calm_nil (hK'.out _ ?_)
        clear hK' K'
        refine heldS_op (i := 4) (fuel := 4) (by kernel_rfl) rfl (by rfl) (fun K' hK' => ?_)
        refine wp_load_mid 30 _ rfl h 67 rfl _ _ HC2.out.drew.rs Try.underlying30 rfl (by rw [Try.size30, List.length_map, nI_length, HC2.out.ls]) ?_
        go_simp
        refine hK' _ _ hS0 ?_
        clear hK' K'
        refine heldS_op (i := 13) (fuel := 3) (by kernel_rfl) rfl (by rfl) (fun K' hK' => ?_)
        go_simp
        refine (mix_any st K r2 (some ⟨h, 75, none⟩) 64 _ HOK.out HK.out HKl.out HC2.out.drew.row HB3.out).mono ?_
        rintro e wm ⟨rfl, qm⟩
        have HM := HC2.out.drew.below qm HC2.out.lt
        have gM : wc.grownBy wm (some h) := turned_trans (turned_drew (World.grownBy.refl _ _)) (turned_below _ qm)
        have SM : (∃ s' : List Nat, HashAt wm h 1 0 K s' r2 NL) ∧ wc.grownBy wm (some h) := ⟨⟨_, HM⟩, gM⟩
        refine hK' _ _ SM ?_
        clear hK' K'
        refine held_reads (rs := [14, 15]) (fuel := 1) (by kernel_rfl) (fun c d v a w h => by cases d <;> exact h) (by kernel_rfl) SM (fun K' hK' => ?_)
        go_simp
        refine calm_do (.pointer (some ⟨h, 0, none⟩)) rfl (by rfl) (fun w' hw' => ?_) ?_
        · go_simp
        go_simp
        refine calm_do (.pointer (some ⟨h, 67, none⟩)) rfl (by rfl) (fun w' hw' => ?_) ?_
        · go_simp
        go_simp
        refine calm_nil (hK'.out _ ?_)
        clear hK' K'
        refine heldS_op (i := 16) (fuel := 0) (by kernel_rfl) rfl (by rfl) (fun K' hK' => ?_)
        refine wp_storeM 30 _ _ rfl h 67 (nI (mixL K st r2).list) rfl rfl (there_part HM.th 67 8 (by decide)) Try.size30 (by rw [nI_length]; rfl) ?_
        have HE2 := HM.setS (mixL K st r2).list rfl
        have gE := turned_trans gM (turned_cells wm h ((nI (mixL K st r2).list).map (Value.int .u32)) 67)
        generalize wm.setCells h 67 ((nI (mixL K st r2).list).map (Value.int .u32)) = wE at *
        refine hK' _ _ ⟨⟨_, HE2⟩, gE⟩ ?_
        clear hK' K'
        refine wpAnyH_done (by kernel_rfl) ?_ _
        have HST : Hid (HashAt wE h 1 0 K (blocksTo K S (D ++ z.take (j + m)) ((D ++ z.take (j + m)).length / 64)).list r2 NL) := by
          show HashAt _ _ _ _ _ _ _ _
          rw [← HNW.out.1]
          exact HE2
        have HRN : Hid (RestOk (D ++ z.take (j + m)) r2 ∧ ∀ x ∈ r2, x < 256) := ⟨HNW.out.2.2 r2 HC2.out.lr, HB3.out⟩
        have HROW2 : Hid (Row .u8 wE a2 (rm - m) c2 (nI (z.drop (j + m)))) := HROW.out.turned gE HB2.out
        have HGE : Hid (w.grownBy wE (some h)) := turned_trans HGC.out gE
        clear HE2 gE HM gM SM hS0 HROW HNW HC2 HGC qm
        go_wp2
        go_roundw
        case rel => exact ⟨j + m, rm - m, 0, a2, c2, r2, rfl, rfl, by omega, by omega, HJ2, HA2, HROW2, HB2, HST, HRN, HGE⟩
        case measure => simp only; omega
end Go.Proofs.Ytoijeefmddopbaa
