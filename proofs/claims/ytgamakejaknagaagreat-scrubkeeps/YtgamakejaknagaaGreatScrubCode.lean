/-
  The code of layer 12 (scrub), as it landed: Worn, Move; Read of a store whose power went.
-/
import Derived.Test.YtgamakejaknagaaGreatScrubPlain
namespace Go.Proofs.YtgamakejaknagaaGreat
open Go.RowKit Go.Maps
set_option linter.unusedVariables false
set_option maxRecDepth 8192

section
variable {G : Geo} {B : CB} {F : Nat → Prop} {N : Nat} {S : CS} {d s g : Nat} {st : List Int} {nu : Int} {dn : Bool}
theorem use_off {x : Int} {o : Bool} (hu : S.up = false) : S.use G x o = 70 := by
  have : S.rdy G x o = 70 := by unfold CS.rdy; rw [if_pos hu]
  unfold CS.use; rw [this, if_pos (by simp)]
theorem bytes_off (x : Int) (hx : I64 x) (w : World) (h : StAt G B F N S d s g st nu dn w) (hup : S.up = false) :
    Calls Tryz.prog 29 #[.pointer (some ⟨s, 0, none⟩), .int .i64 x] w fun e w' => e = .returned (.tuple #[.slice none 0 0, .int .i64 0, .int .i64 70]) ∧ Below w.heap.size w w' := by
  have c0 := h.sb.c0
  have hrd := drvRead_no x 0 hx w h.db h.chip 70 (by decide) (use_off hup)
  clear h
  go_enter Tryz.func29, Tryz.ntmps29
  go_wp2_with fail
  refine hrd.mono ?_
  rintro e w1 ⟨rfl, q1⟩
  clear hrd
  go_wp2_with fail
  go_ret3
  exact ⟨rfl, q1⟩
set_option maxHeartbeats 800000 in
theorem stRead_off (j : Nat) (w : World) (h : StAt G B F N S d s g st nu false w) (hj : j < st.length) (hup : S.up = false) (hx : 0 ≤ st[j]?.getD 0 ∧ st[j]?.getD 0 < 1000) :
    Calls Tryz.prog 10 #[.pointer (some ⟨s, 0, none⟩), .int .i64 (j : Int)] w fun e w' => e = .returned (.tuple #[.slice none 0 0, .int .i64 0, .int .i64 70]) ∧ SDoes F s g w F w' := by
  have hrd := stReady_any (j : Int) w h.sb
  rw [rdyS_in (by omega)] at hrd
  have c1 := h.sb.c1
  have ca := h.sb.at j hj
  have hl := h.sb.len
  have hby := bytes_off (st[j]?.getD 0) (by unfold I64; omega) w h hup
  have hne : (st[j]?.getD 0 == -1) = false := by simp; omega
  have HS : Hid _ := h
  clear h
  generalize st[j]?.getD 0 = x at *
  generalize hLL : st.length = L at *
  clear hLL
  go_enter Tryz.func10, Tryz.ntmps10
  go_wp2_with fail
  refine hrd.mono ?_
  rintro e w1 ⟨rfl, rfl⟩
  clear hrd
  go_wp2_with fail
  refine hby.mono ?_
  rintro e w2 ⟨rfl, q⟩
  clear hby
  have htl := stTell_yes w2 (StAt.below HS.out q)
  have Q : Hid _ := q
  clear HS q
  go_wp2_with fail
  refine htl.mono ?_
  rintro e w3 ⟨rfl, h3, q3⟩
  clear htl h3
  have Q3 : Hid (SDoes F s g w F w3) := SDoes.trans (SDoes.of_below Q.out) q3
  clear q3
  go_wp2_with fail
  go_ret3
  exact ⟨rfl, Q3.out⟩
end
section
variable {W w w' w1 : World} {G : Geo} {B : CB} {F F' : Nat → Prop} {N N' : Nat} {S S' : CS} {K K' : Int → BK} {M M' : Int → Option (List Int)} {c : Int} {d s g : Nat} {st st' : List Int} {nu nu' : Int}
theorem worn_nil (t : Int) (w : World) : Calls Tryz.prog 11 #[.pointer none, .int .i64 t] w fun e w' => e = .returned (.tuple #[.slice none 0 0, .int .i64 3]) ∧ w = w' := by
  go_enter Tryz.func11, Tryz.ntmps11
  go_wp2_with fail
  go_ret2
  exact ⟨rfl, rfl⟩
theorem worn_arg (s : Nat) (t : Int) (ht : t < 1) (w : World) : Calls Tryz.prog 11 #[.pointer (some ⟨s, 0, none⟩), .int .i64 t] w fun e w' => e = .returned (.tuple #[.slice none 0 0, .int .i64 1]) ∧ w = w' := by
  go_enter Tryz.func11, Tryz.ntmps11
  go_wp2_with fail
  go_ret2
  exact ⟨rfl, rfl⟩
set_option maxHeartbeats 1600000 in
theorem worn_any (h : LS W G B F N S K M c d s g st nu w) (t : Int) (ht : 1 ≤ t) :
    Calls Tryz.prog 11 #[.pointer (some ⟨s, 0, none⟩), .int .i64 t] w fun e w' => ∃ v, e = .returned (.tuple #[v, .int .i64 0]) ∧ w'.ownsRow w.heap.size 3 1 v (wornTo (wornB G S st M t) st.length).length ((wornTo (wornB G S st M t) st.length).map (Value.int .i64)) ∧ Below w.heap.size w w' := by
  obtain ⟨iq, hiq, hiq0, hiq1, hiq2⟩ := info_parts Tryz.info3
  have ht' : ¬ t < 1 := by omega
  have hlen := h.len
  have hle := stLebs_any w h.at_.sb
  have HS : Hid (LS W G B F N S K M c d s g st nu w) := h
  clear h
  obtain ⟨C, hC⟩ : ∃ C, C = wornB G S st M t := ⟨_, rfl⟩
  have HC : Hid (C = wornB G S st M t) := hC
  rw [← hC]
  clear hC
  obtain ⟨L, hL⟩ : ∃ L, L = st.length := ⟨_, rfl⟩
  have HL : Hid (L = st.length) := hL
  rw [← hL] at hle hlen ⊢
  clear hL
  go_enter Tryz.func11, Tryz.ntmps11
  go_wp2_with fail
  refine hle.mono ?_
  rintro e w1 ⟨rfl, rfl⟩
  clear hle
  go_wp2_with fail
  go_loopw [6, 17] (fun u i wr => ∃ k : Nat, k ≤ L ∧ i = .int .i64 (k : Int) ∧ Hid (wr.ownsRow w.heap.size 3 1 u (wornTo C k).length ((wornTo C k).map (Value.int .i64))) ∧ Hid (Below w.heap.size w wr)) (fun _ i _ => L - (RowKit.intOf i).toNat)
  case atStart => exact ⟨0, by omega, rfl, World.ownsRow_nil _ _ _ _, Below.refl _ _⟩
  case round =>
    obtain ⟨k, hk, rfl, OW, Q⟩ := hrel
    have hsz := Q.out.size
    by_cases hlt : k < L
    · have hlt' : (k : Int) < (L : Int) := by omega
      have hls := HS.out.below Q.out
      have hkl : k < st.length := by have := HL.out; omega
      cases hm : M (k : Int) with
      | none =>
        have hrd := hls.read_none k hkl hm
        have HM : Hid (wornTo C (k + 1) = wornTo C k) := wornTo_miss (by rw [HC.out]; unfold wornB; rw [hm]; rfl)
        have OW2 : Hid (wr.ownsRow w.heap.size 3 1 u6 (wornTo C (k + 1)).length ((wornTo C (k + 1)).map (Value.int .i64))) := by
          show World.ownsRow _ _ _ _ _ _ _
          rw [HM.out]
          exact OW.out
        clear hls hkl hm OW
        go_wp2_with fail
        refine hrd.mono ?_
        rintro e w2 ⟨rfl, rfl⟩
        clear hrd
        go_wp2_with fail
        go_roundw
        case rel => exact ⟨k + 1, by omega, by go_num, OW2, Q⟩
        case measure => simp [RowKit.intOf]; omega
      | some D =>
        have hrd := hls.read_cnt k hkl hm
        have HB : Hid (C k = decide (t ≤ (mostW G (S.wr (st[k]?.getD 0)) (pagesOf G.R D.length) : Nat))) := by
          show _ = _
          rw [HC.out]
          unfold wornB cntJ
          rw [hm]
          rfl
        clear hls hkl hm
        generalize mostW G (S.wr (st[k]?.getD 0)) (pagesOf G.R D.length) = m at *
        go_wp2_with fail
        refine hrd.mono ?_
        rintro e w2 ⟨a, cap, _, rfl, _, q2⟩
        clear hrd
        have OW2 : Hid (w2.ownsRow w.heap.size 3 1 u6 (wornTo C k).length ((wornTo C k).map (Value.int .i64))) := owns_same (w' := w2) OW.out (fun b hb => q2.block b (owns_lt OW.out hb).2)
        have Q2 : Hid (Below w.heap.size w w2) := btrans Q.out q2
        have hsz2 := Q2.out.size
        clear OW Q q2 hsz
        by_cases hge : t ≤ (m : Int)
        · have HM : Hid (wornTo C (k + 1) = wornTo C k ++ [(k : Int)]) := wornTo_hit (by rw [HB.out]; exact decide_eq_true hge)
          have hwl := wornTo_len C k
          have OWB : Hid _ := OW2.out.alloc (.cells #[.int .i64 (k : Int)] 3)
          generalize hgl : (wornTo C k).length = lw at *
          have HGL : Hid ((wornTo C k).length = lw) := hgl
          clear hgl
          go_wp2_with (at_builtin; refine wpList_append_own _ rfl _ _ 32 rfl w.heap.size 3 iq (.int .i64 0) 1 8 Tryz.underlying32 hiq hiq0 hiq1 hiq2 rfl (by decide) _ lw _ rfl OWB.out ⟨w2.heap.size, 0, none⟩ 1 1 [.int .i64 (k : Int)] rfl rfl ?c1 ?c2 ?c3 ?c4 ?c5 ?_)
          case c1 => exact cell_one_new w2 (.int .i64 (k : Int)) 3
          case c2 => intro u hu; simp at hu; subst hu; rfl
          case c3 => unfold maxLen; omega
          case c4 => omega
          case c5 => simp; omega
          intro u' w3 own3 grow3 _
          have Q3 : Hid (Below w.heap.size w w3) := (Q2.out.alloc hsz2 (.cells #[.int .i64 (k : Int)] 3)).grown grow3 (by simp; omega) (fun i hi => (owns_lt OW2.out hi).1)
          have HO : Hid (w3.ownsRow w.heap.size 3 1 u' (wornTo C (k + 1)).length ((wornTo C (k + 1)).map (Value.int .i64))) := by
            show World.ownsRow _ _ _ _ _ _ _
            rw [HM.out, List.length_append, List.map_append, HGL.out]
            exact own3
          clear own3 grow3 OWB OW2 Q2 HGL
          go_wp2_with fail
          go_roundw
          case rel => exact ⟨k + 1, by omega, by go_num, HO, Q3⟩
          case measure => simp [RowKit.intOf]; omega
        · have HM : Hid (wornTo C (k + 1) = wornTo C k) := wornTo_miss (by rw [HB.out]; exact decide_eq_false hge)
          have HO : Hid (w2.ownsRow w.heap.size 3 1 u6 (wornTo C (k + 1)).length ((wornTo C (k + 1)).map (Value.int .i64))) := by
            show World.ownsRow _ _ _ _ _ _ _
            rw [HM.out]
            exact OW2.out
          clear OW2
          go_wp2_with fail
          go_roundw
          case rel => exact ⟨k + 1, by omega, by go_num, HO, Q2⟩
          case measure => simp [RowKit.intOf]; omega
    · obtain rfl : k = L := by omega
      have hge : ¬ (k : Int) < (k : Int) := by omega
      go_wp2_with fail
      go_ret2
      exact ⟨_, rfl, OW.out, Q.out⟩
set_option maxHeartbeats 800000 in
theorem worn_off (h : StAt G B F N S d s g st nu false w) (hup : S.up = false) (t : Int) (ht : 1 ≤ t) (hx : (0 : Int) ≤ st[0]?.getD 0 ∧ st[0]?.getD 0 < 1000) :
    Calls Tryz.prog 11 #[.pointer (some ⟨s, 0, none⟩), .int .i64 t] w fun e w' => e = .returned (.tuple #[.slice none 0 0, .int .i64 70]) ∧ SDoes F s g w F w' := by
  have ht' : ¬ t < 1 := by omega
  have hlen := h.sb.len
  have hle := stLebs_any w h.sb
  have hrd := stRead_off 0 w h (by omega) hup hx
  clear h hx
  generalize st.length = L at *
  go_enter Tryz.func11, Tryz.ntmps11
  go_wp2_with fail
  refine hle.mono ?_
  rintro e w1 ⟨rfl, rfl⟩
  clear hle
  go_wp2_with fail
  go_loopw [6, 17] (fun u i wr => i = .int .i64 0 ∧ wr = w) (fun _ _ _ => 0)
  case atStart => exact ⟨rfl, rfl⟩
  case round =>
    obtain ⟨rfl, rfl⟩ := hrel
    have hlt' : (0 : Int) < (L : Int) := by omega
    go_wp2_with fail
    refine hrd.mono ?_
    rintro e w2 ⟨rfl, q2⟩
    clear hrd
    go_wp2_with fail
    go_ret2
    exact ⟨rfl, q2⟩
theorem ChgIs.from {j : Nat} {D : List Int} {r : Int} (q : Below w.heap.size w w1) (h : ChgIs W G B F N S M c d s g st j D w1 r w') : ChgIs W G B F N S M c d s g st j D w r w' := by
  cases h with
  | ok F1 S1 K1 st1 nu1 hr hl hst q' wk ah cl mono only wrs new => exact .ok F1 S1 K1 st1 nu1 hr hl hst ((SDoes.of_below q).trans q') wk ah cl mono only wrs new
  | full F1 S1 K1 nu1 hr hl q' wk ah cl mono only all => exact .full F1 S1 K1 nu1 hr hl ((SDoes.of_below q).trans q') wk ah cl mono only all
  | down F1 S1 K1 M1 nu1 hr hl hm hs q' hah wk only => exact .down F1 S1 K1 M1 nu1 hr hl hm hs ((SDoes.of_below q).trans q') hah wk only
theorem move_nil (j : Int) (w : World) : Calls Tryz.prog 21 #[.pointer none, .int .i64 j] w fun e w' => e = .returned (.int .i64 3) ∧ w = w' := by
  go_enter Tryz.func21, Tryz.ntmps21
  go_wp2_with fail
  refine (stRead_nil j _).mono ?_
  rintro e w1 ⟨rfl, rfl⟩
  go_wp2_with fail
  go_ret
  exact ⟨rfl, rfl⟩
theorem move_arg (h : LS W G B F N S K M c d s g st nu w) (j : Int) (hj : ¬ (0 ≤ j ∧ j < (st.length : Int))) : Calls Tryz.prog 21 #[.pointer (some ⟨s, 0, none⟩), .int .i64 j] w fun e w' => e = .returned (.int .i64 1) ∧ w = w' := by
  have e : rdyS false st.length j = 1 := by unfold rdyS; rw [if_neg (by simp), if_neg hj]
  have hrd := stRead_no j w h.at_.sb (by rw [e]; decide)
  rw [e] at hrd
  clear h hj e
  go_enter Tryz.func21, Tryz.ntmps21
  go_wp2_with fail
  refine hrd.mono ?_
  rintro e w1 ⟨rfl, rfl⟩
  go_wp2_with fail
  go_ret
  exact ⟨rfl, rfl⟩
theorem move_none (h : LS W G B F N S K M c d s g st nu w) (j : Nat) (hj : j < st.length) (hm : M j = none) : Calls Tryz.prog 21 #[.pointer (some ⟨s, 0, none⟩), .int .i64 (j : Int)] w fun e w' => e = .returned (.int .i64 5) ∧ w = w' := by
  have hrd := h.read_none j hj hm
  clear h hj hm
  go_enter Tryz.func21, Tryz.ntmps21
  go_wp2_with fail
  refine hrd.mono ?_
  rintro e w1 ⟨rfl, rfl⟩
  go_wp2_with fail
  go_ret
  exact ⟨rfl, rfl⟩
theorem move_any (h : LS W G B F N S K M c d s g st nu w) (j : Nat) (hj : j < st.length) {D : List Int} (hm : M j = some D) (hN : N + 300 * G.b.toNat + 700 < 100000000) (hc : c + 1 ≤ 1000000000) :
    Calls Tryz.prog 21 #[.pointer (some ⟨s, 0, none⟩), .int .i64 (j : Int)] w fun e w' => ∃ r, e = .returned (.int .i64 r) ∧ D.length ≤ G.C ∧ ChgIs W G B F N S M c d s g st j D w r w' := by
  have hrd := h.read_cnt j hj hm
  have HS : Hid _ := h
  clear h hm
  generalize mostW G (S.wr (st[j]?.getD 0)) (pagesOf G.R D.length) = m at *
  go_enter Tryz.func21, Tryz.ntmps21
  go_wp2_with fail
  refine hrd.mono ?_
  rintro e w1 ⟨a, cap, ⟨hn, hB, hC⟩, rfl, r1, q1⟩
  have ho := LS.new HS.out r1 hn
  have hch := (LS.below HS.out q1).change j hj D a _ cap ho hB hC hN hc
  have Q : Hid _ := q1
  clear hrd HS ho r1 q1 hn hN hj
  have HCC : Hid (D.length ≤ G.C) := hC
  clear hC
  generalize hDD : D.length = n at *
  have HDD : Hid (D.length = n) := hDD
  clear hDD
  go_wp2_with fail
  refine hch.mono ?_
  rintro e w2 ⟨r, rfl, hc2⟩
  have HF : Hid _ := ChgIs.from Q.out hc2
  clear hch hc2
  go_wp2_with fail
  go_ret
  exact ⟨r, rfl, by rw [HDD.out]; exact HCC.out, HF.out⟩
end
end Go.Proofs.YtgamakejaknagaaGreat
