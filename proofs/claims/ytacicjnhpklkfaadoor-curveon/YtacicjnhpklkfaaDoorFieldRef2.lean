/-
  Layer 16's reference: Round.
-/
import Derived.Test.YtacicjnhpklkfaaDoorFieldRef
namespace Go.Proofs.YtacicjnhpklkfaaDoor.N
open Go.RowKit
set_option linter.unusedVariables false
set_option maxRecDepth 8192

theorem pow31 : (256 : Nat) ^ 31 * 128 = 2 ^ 255 := by decide
/-- What a round of Round makes of a number. -/
def foldN (v : Nat) : Nat := v % 2 ^ 255 + v / 2 ^ 255 * 19
theorem foldN_mod (v : Nat) : foldN v % fP = v % fP := by
  have e : v = foldN v + fP * (v / 2 ^ 255) := by
    unfold foldN
    have h1 := Nat.div_add_mod v (2 ^ 255)
    have h2 : fP * (v / 2 ^ 255) + 19 * (v / 2 ^ 255) = 2 ^ 255 * (v / 2 ^ 255) := by rw [← Nat.add_mul, show fP + 19 = 2 ^ 255 from by have := fP_eq; omega]
    generalize fP * (v / 2 ^ 255) = x at *
    generalize v / 2 ^ 255 = y at *
    omega
  conv => rhs; rw [e, Nat.add_mul_mod_self_left]
theorem foldN_lt {v : Nat} (h : 2 ^ 255 ≤ v) : foldN v < v := by
  unfold foldN
  have h1 := Nat.div_add_mod v (2 ^ 255)
  have h2 : 1 ≤ v / 2 ^ 255 := (Nat.le_div_iff_mul_le (by decide)).2 (by omega)
  generalize v / 2 ^ 255 = y at *
  omega
/-- Normal bytes: 32 of them and more, or the last one great, just if the number is 2^255 or more. -/
theorem nb_great (v : Nat) : 2 ^ 255 ≤ v ↔ (32 < (nb v).length ∨ (nb v).length = 32 ∧ 127 < dg (nb v) 31) := by
  have hlt : v < 256 ^ (nb v).length := by have := (dig_nb v).vL_lt; rwa [vL_nb] at this
  constructor
  · intro h
    rcases Nat.lt_or_ge 32 (nb v).length with h1 | h1
    · exact .inl h1
    · have h2 : (nb v).length = 32 := by
        rcases Nat.lt_or_ge (nb v).length 32 with h3 | h3
        · have h4 : v < 256 ^ 31 := Nat.lt_of_lt_of_le hlt (Nat.pow_le_pow_right (by decide) (by omega))
          have : (256 : Nat) ^ 31 < 2 ^ 255 := by decide
          omega
        · omega
      refine .inr ⟨h2, ?_⟩
      rw [dg_of (dig_nb v), vL_nb]
      rw [h2] at hlt
      have h5 : 128 ≤ v / 256 ^ 31 := (Nat.le_div_iff_mul_le (by decide)).2 (by rw [Nat.mul_comm, pow31]; exact h)
      have h6 : v / 256 ^ 31 < 256 := Nat.div_lt_of_lt_mul (by rw [show (256 : Nat) ^ 31 * 256 = 256 ^ 32 from by decide]; exact hlt)
      rw [Nat.mod_eq_of_lt h6]
      omega
  · rintro (h | ⟨h1, h2⟩)
    · have h3 : 256 ^ 32 ≤ v := by
        have := (nrm_nb v).ge ((nb v).length - 1) (by omega)
        rw [vL_nb] at this
        exact Nat.le_trans (Nat.pow_le_pow_right (by decide) (by omega)) this
      have : (2 : Nat) ^ 255 ≤ 256 ^ 32 := by decide
      omega
    · rw [dg_of (dig_nb v), vL_nb] at h2
      have h5 : 128 ≤ v / 256 ^ 31 := by have := Nat.mod_le (v / 256 ^ 31) 256; omega
      have := (Nat.le_div_iff_mul_le (Nat.pow_pos (by decide))).1 h5
      rw [Nat.mul_comm, pow31] at this
      exact this
/-- The lower 32 bytes, their top bit taken off. -/
theorem low_set {l : List Nat} (h : Dig l) (hl : l.length = 32) : dg l 31 / 128 = vL l / 2 ^ 255 ∧ vL (l.set 31 (dg l 31 % 128)) = vL l % 2 ^ 255 := by
  have hs := vL_set (l := l) (j := 31) (x := dg l 31 % 128) (by rw [hl]; decide)
  have hd := h.at 31
  have hv := h.vL_lt
  rw [hl] at hv
  have e : dg l 31 = vL l / 256 ^ 31 := by
    rw [dg_of h, Nat.mod_eq_of_lt]
    exact Nat.div_lt_of_lt_mul (by rw [show (256 : Nat) ^ 31 * 256 = 256 ^ 32 from by decide]; exact hv)
  have e2 := Nat.div_add_mod (vL l) (256 ^ 31)
  have e3 : vL l % 256 ^ 31 < 256 ^ 31 := Nat.mod_lt _ (by decide)
  rw [← e] at e2
  generalize vL (l.set 31 (dg l 31 % 128)) = u at *
  generalize vL l = v at *
  generalize dg l 31 = d at *
  constructor <;> omega
theorem fold_parts (v : Nat) : v % 256 ^ 32 % 2 ^ 255 = v % 2 ^ 255 ∧ v / 256 ^ 32 * 2 + v % 256 ^ 32 / 2 ^ 255 = v / 2 ^ 255 := by
  have h := Nat.div_add_mod v (256 ^ 32)
  have h2 : v % 256 ^ 32 < 256 ^ 32 := Nat.mod_lt _ (by decide)
  generalize v / 256 ^ 32 = a at *
  generalize v % 256 ^ 32 = b at *
  constructor <;> omega
theorem dig_one {x : Nat} (h : x < 256) : Dig [x] := fun y hy => by rw [List.mem_singleton.1 hy]; exact h
theorem vL_take {l : List Nat} (h : Dig l) (n : Nat) (hn : n ≤ l.length) : vL (l.take n) = vL l % 256 ^ n := by
  have e := digL_part (v := vL l) (n := l.length) (off := 0) (len := n) (by omega)
  rw [← digL_of h, List.drop_zero, Nat.pow_zero, Nat.div_one] at e
  rw [e, vL_digL]
theorem row_from {w : World} {b off len cap n : Nat} {zs : List Int} (h : Row .u8 w (some ⟨b, off, none⟩) len cap zs) (hn : n ≤ len) {ad : Option Addr} (had : (if cap = n then some (⟨b, off, none⟩ : Addr) else some ⟨b, off + n, none⟩) = ad) : Row .u8 w ad (len - n) (cap - n) (zs.drop n) := by
  have hd := row_drop h n hn
  by_cases hc : cap = n
  · rw [if_pos hc] at had
    subst had
    have hl : len - n = 0 := by have := h.hcap; omega
    exact ⟨hd.hlen, hd.hcap, hd.hmax, by simp, fun h0 => by omega⟩
  · rw [if_neg hc] at had
    subst had
    exact hd
set_option maxHeartbeats 3200000 in
theorem refRound_any (z : List Nat) (dz : Dig z) (a : Option Addr) (len cap : Nat) (w : World) (hr : Row .u8 w a len cap (nI z)) (hl : len ≤ 1000) :
    Calls Tryd.prog 48 #[.slice a len cap] w (Gives w (nb (vL z % fP))) := by
  obtain ⟨i0, hi0, hz0, hz1, hz2⟩ := info_parts Tryd.info5
  have HL : Hid ((nb (vL z)).length ≤ 1000) := by
    have h1 := hr.hlen
    rw [nI_length] at h1
    exact Nat.le_trans (nb_len dz.vL_lt) (by omega)
  have cN := refNorm15_any z dz a len cap w hr (by omega)
  clear hr
  generalize vL z = v0 at *
  obtain ⟨R, hR⟩ : ∃ R, Gives w (nb (v0 % fP)) = R := ⟨_, rfl⟩
  rw [hR]
  have HRR : Hid (Gives w (nb (v0 % fP)) = R) := hR
  clear hR
  go_enter Tryd.func48, Tryd.ntmps48
  go_wp2_with fail
  refine cN.mono ?_
  rintro e w1 ⟨a1, c1, rfl, r1, q1⟩
  clear cN
  go_wp2
  go_loopg [0] v0 (fun v x wr => ∃ (ax : Option Addr) (cx : Nat), x = .slice ax (nb v).length cx ∧ Hid (Row .u8 wr ax (nb v).length cx (nI (nb v))) ∧ Hid ((nb v).length ≤ 1000) ∧ Hid (v % fP = v0 % fP) ∧ Hid (Below w.heap.size w wr))
  case atStart => exact ⟨a1, c1, rfl, r1, HL, rfl, q1⟩
  case round =>
    clear r1 q1 HL
    obtain ⟨ax, cx, rfl, HR, HL, HM, HQ⟩ := hrel
    have hgr := nb_great gk
    have hd31 := (dig_nb gk).at 31
    by_cases hbig : 2 ^ 255 ≤ gk
    · have h32 : 32 ≤ (nb gk).length := by rcases hgr.1 hbig with h | h <;> omega
      obtain ⟨b, off, rfl, hbs, hcell⟩ := HR.out.hcell (by omega)
      have hc31 := hcell 31 (by omega)
      rw [nI_dg] at hc31
      clear hcell
      have hcond : (32 : Int) < ((nb gk).length : Int) ∨ ¬ (32 : Int) < ((nb gk).length : Int) ∧ (((nb gk).length : Int) == 32) = true ∧ (127 : Int) < ((dg (nb gk) 31 : Nat) : Int) := by
        rcases hgr.1 hbig with h | ⟨h1, h2⟩
        · exact .inl (by omega)
        · exact .inr ⟨by omega, by simp; omega, by omega⟩
      have rA := HR.out
      clear hgr
      have HG : Hid (foldN gk < gk ∧ foldN gk % fP = gk % fP) := ⟨foldN_lt hbig, foldN_mod gk⟩
      clear hbig
      have rT := row_take rA 32 h32
      rw [nI_take] at rT
      have hl32 : ((nb gk).take 32).length = 32 := by rw [List.length_take]; omega
      have dT : Dig ((nb gk).take 32) := fun x hx => dig_nb gk x (List.mem_of_mem_take hx)
      have vT : vL ((nb gk).take 32) = gk % 256 ^ 32 := by
        have := vL_take (dig_nb gk) 32 h32
        rwa [vL_nb] at this
      have HT : Hid (((nb gk).take 32).length = 32 ∧ Dig ((nb gk).take 32) ∧ vL ((nb gk).take 32) = gk % 256 ^ 32) := ⟨hl32, dT, vT⟩
      clear hl32 dT vT
      generalize (nb gk).take 32 = lo at *
      have hnil := World.ownsRow_nil wr wr.heap.size 5 1
      obtain ⟨ad, had⟩ : ∃ ad, (if cx = 32 then some (⟨b, off, none⟩ : Addr) else some ⟨b, off + 32, none⟩) = ad := ⟨_, rfl⟩
      have rD := row_from rA h32 had
      rw [nI_drop] at rD
      have HD : Hid (Dig ((nb gk).drop 32) ∧ vL ((nb gk).drop 32) = gk / 256 ^ 32) := ⟨(dig_nb gk).drop 32, by have := vL_drop (dig_nb gk) 32; rwa [vL_nb] at this⟩
      generalize (nb gk).drop 32 = hi at *
      have hcx : (32 : Int) ≤ (cx : Int) := by have := rA.hcap; omega
      have hlen9 := HL.out
      have HN : Hid (gk < 256 ^ (nb gk).length) := by show _ < _; have := (dig_nb gk).vL_lt; rwa [vL_nb] at this
      generalize (nb gk).length = n at *
      have hn32 : (32 : Int) ≤ (n : Int) := by omega
      rcases hcond with h1 | ⟨h1, h2, h3⟩
      all_goals
        go_wp2_with (at_builtin; refine wpList_append_row _ rfl _ _ 25 rfl wr.heap.size 5 i0 (.int .u8 0) 1 Tryd.underlying25 hi0 hz0 hz1 hz2 rfl _ 0 [] rfl hnil .u8 _ 32 cx _ rfl rT (by unfold maxLen; omega) (by omega) (Nat.le_refl _) ?_)
        intro v1 w2 own1 hg1
        have q2 : Below wr.heap.size wr w2 := (Below.refl _ _).grown hg1 (Nat.le_refl _) (fun k hk => (hnil.lt k hk).1)
        clear hg1 hnil hc31
        try rw [List.nil_append, Nat.zero_add] at own1
        obtain ⟨al, cl, rfl, _⟩ := row_of_owns own1
        obtain ⟨gl, hgl, rfl⟩ := owns_head own1 (by decide)
        have hcl := owned_cell own1 31 (by decide)
        rw [nI_dg] at hcl
        have hfz := own1.frozenAt 31
        have hS := owned_set (q := 31) (x := ((dg lo 31 % 128 : Nat) : Int)) hgl own1 q2
        rw [nI_set] at hS
        have T := low_set HT.out.2.1 HT.out.1
        have hd9 := HT.out.2.1.at 31
        have HLo : Hid (Dig (lo.set 31 (dg lo 31 % 128)) ∧ vL (lo.set 31 (dg lo 31 % 128)) = gk % 2 ^ 255) := ⟨HT.out.2.1.set _ (by omega), by rw [T.2, HT.out.2.2, (fold_parts gk).1]⟩
        have HTop : Hid (dg lo 31 / 128 = gk % 256 ^ 32 / 2 ^ 255) := by show _ = _; rw [T.1, HT.out.2.2]
        clear T own1
        generalize lo.set 31 (dg lo 31 % 128) = lo2 at *
        generalize dg lo 31 = d at *
        have ed : (d : Int) / 128 = ((d / 128 : Nat) : Int) := by omega
        have em : (d : Int) % 128 = ((d % 128 : Nat) : Int) := by omega
        have et : (d : Int).tdiv 128 = ((d / 128 : Nat) : Int) := by rw [Int.tdiv_eq_ediv_of_nonneg (by omega)]; omega
        have eu : (d : Int).tmod 128 = ((d % 128 : Nat) : Int) := by rw [Int.tmod_eq_emod_of_nonneg (by omega)]; omega
        have ht2 : d / 128 < 2 := by omega
        generalize d / 128 = tp at *
        generalize d % 128 = dm at *
        obtain ⟨hS1, hS2⟩ := hS
        obtain ⟨al, cl2, el, rL⟩ := row_of_owns hS1
        simp only [Value.slice.injEq, true_and] at el
        obtain ⟨rfl, rfl⟩ := el
        have z3 : (w2.setCell ⟨gl, 31, none⟩ (.int .u8 (dm : Int))).heap.size = w2.heap.size := by simp [World.setCell]
        have hu5 : gk / 256 ^ 32 * 2 + tp = gk / 2 ^ 255 := by rw [HTop.out]; exact (fold_parts gk).2
        have hu5l : gk / 2 ^ 255 ≤ gk := Nat.div_le_self _ _
        have hu4l : gk / 256 ^ 32 * 2 ≤ gk := by omega
        have l4 : (nb (gk / 256 ^ 32 * 2)).length ≤ n := nb_len (Nat.lt_of_le_of_lt hu4l HN.out)
        have l5 : (nb (gk / 2 ^ 255)).length ≤ n := nb_len (Nat.lt_of_le_of_lt hu5l HN.out)
        have l6 : (nb (gk / 2 ^ 255 * 19)).length ≤ n + 1 := nb_len (by
          have := HN.out
          rw [Nat.pow_succ]
          omega)
        have l7 : (nb (foldN gk)).length ≤ n := nb_len (Nat.lt_trans HG.out.1 HN.out)
        have HU5 : Hid (gk / 256 ^ 32 * 2 + tp = gk / 2 ^ 255) := hu5
        have HF : Hid (gk % 2 ^ 255 + gk / 2 ^ 255 * 19 = foldN gk) := rfl
        have HL7 : Hid ((nb (foldN gk)).length ≤ 1000) := by show _ ≤ _; omega
        clear hu5 hu5l hu4l
        go_wp2_with fail
        generalize w2.setCell ⟨gl, 31, none⟩ (.int .u8 (dm : Int)) = w3 at *
        rw [← z3]
        have r2 := row_new .u8 (w3.alloc (Obj.cells #[.int .u8 0] 5)) 5 (w3.heap.size + 1) (by simp) [2] 1 rfl (by decide) #[.int .u8 2] rfl
        have q34 := below_two w3 (Obj.cells #[.int .u8 0] 5) (Obj.cells #[.int .u8 2] 5)
        have c4 := refMul15_any hi [2] ad (some ⟨w3.heap.size + 1, 0, none⟩) (n - 32) (cx - 32) 1 1 _ HD.out.1 (dig_one (by decide)) ((rD.below hS2 (Nat.le_refl _)).below q34 (Nat.le_refl _)) r2 (by omega) (by omega)
        rw [HD.out.2, show vL [2] = 2 from by decide] at c4
        refine c4.mono ?_
        rintro e w4 ⟨a4, k4, rfl, r4, q4⟩
        have Q4 := btrans q34 q4
        clear c4 q4 q34 r2 hcl hfz
        generalize gk / 256 ^ 32 * 2 = u4 at *
        generalize hn4 : (nb u4).length = n4 at *
        clear hn4
        go_wp2_with fail
        have r2 := row_new .u8 w4 5 w4.heap.size rfl [(tp : Int)] 1 rfl (by decide) #[.int .u8 (tp : Int)] rfl
        have q45 := below_one w4 (Obj.cells #[.int .u8 (tp : Int)] 5)
        have c5 := refAdd15_any (nb u4) [tp] a4 (some ⟨w4.heap.size, 0, none⟩) n4 k4 1 1 _ (dig_nb _) (fun x hx => by rw [List.mem_singleton.1 hx]; omega) (r4.below q45 (Nat.le_refl _)) r2 (by omega) (by omega)
        rw [vL_nb, show vL [tp] = tp from by simp [vL, vTo, dg], HU5.out] at c5
        refine c5.mono ?_
        rintro e w5 ⟨a5, k5, rfl, r5, q5⟩
        have Q5 := btrans Q4 (btrans q45 q5)
        clear c5 q5 q45 r2 r4 Q4
        generalize gk / 2 ^ 255 = u5 at *
        generalize hn5 : (nb u5).length = n5 at *
        clear hn5
        go_wp2_with fail
        have r2 := row_new .u8 w5 5 w5.heap.size rfl [19] 1 rfl (by decide) #[.int .u8 19] rfl
        have q56 := below_one w5 (Obj.cells #[.int .u8 19] 5)
        have c6 := refMul15_any (nb u5) [19] a5 (some ⟨w5.heap.size, 0, none⟩) n5 k5 1 1 _ (dig_nb _) (dig_one (by decide)) (r5.below q56 (Nat.le_refl _)) r2 (by omega) (by omega)
        rw [vL_nb, show vL [19] = 19 from by decide] at c6
        refine c6.mono ?_
        rintro e w6 ⟨a6, k6, rfl, r6, q6⟩
        have Q6 := btrans Q5 (btrans q56 q6)
        clear c6 q6 q56 r2 r5 Q5
        generalize u5 * 19 = u6 at *
        generalize hn6 : (nb u6).length = n6 at *
        clear hn6
        have c7 := refAdd15_any lo2 (nb u6) (some ⟨gl, 0, none⟩) a6 32 cl n6 k6 w6 HLo.out.1 (dig_nb _) (rL.below Q6 (Nat.le_refl _)) r6 (by omega) (by omega)
        rw [HLo.out.2, vL_nb, HF.out] at c7
        go_wp2_with fail
        refine c7.mono ?_
        rintro e w7 ⟨a7, k7, rfl, r7, q7⟩
        have Q7 := btrans Q6 q7
        clear c7 q7 r6 Q6
        go_wp2
        go_roundg (foldN gk)
        case measure => exact HG.out.1
        case rel => exact ⟨a7, k7, rfl, r7, HL7, by rw [HG.out.2]; exact HM.out, HQ.out.trans ((hS2.trans (Q7.mono hS2.size)).mono HQ.out.size)⟩
    · have hlt : ¬ ((32 : Int) < ((nb gk).length : Int)) ∧ (¬ (((nb gk).length : Int) == 32) = true ∨ (((nb gk).length : Int) == 32) = true ∧ ∃ (b off d : Nat), ax = some ⟨b, off, none⟩ ∧ wr.cell? ⟨b, off + 31, none⟩ = some (.int .u8 (d : Int)) ∧ d < 256 ∧ (31 : Int) < ((nb gk).length : Int) ∧ ¬ (127 : Int) < (d : Int)) := by
        have h := fun h => hbig (hgr.2 h)
        refine ⟨fun h1 => h (.inl (by omega)), ?_⟩
        by_cases h2 : (nb gk).length = 32
        · obtain ⟨b, off, rfl, hbs, hcell⟩ := HR.out.hcell (by omega)
          have hc31 := hcell 31 (by omega)
          rw [nI_dg] at hc31
          exact .inr ⟨by simp; omega, b, off, _, rfl, hc31, hd31, by omega, fun h3 => h (.inr ⟨h2, by omega⟩)⟩
        · exact .inl (by simp; omega)
      clear hgr hbig hd31
      rcases hlt with ⟨h1, h2 | ⟨h2, b, off, d31, rfl, hc31, hd31, h31, h3⟩⟩
      all_goals
        have hln := HL.out
        generalize hn : (nb gk).length = n at *
        have HNN : Hid ((nb gk).length = n) := hn
        clear hn
        go_wp2
        go_loopg [0] gk (fun v x wr => ∃ (ax : Option Addr) (cx : Nat), x = .slice ax (nb v).length cx ∧ Hid (Row .u8 wr ax (nb v).length cx (nI (nb v))) ∧ Hid ((nb v).length ≤ 1000) ∧ Hid (v % fP = v0 % fP) ∧ Hid (Below w.heap.size w wr))
        case atStart => exact ⟨_, cx, by rw [HNN.out], by rw [HNN.out]; exact HR.out, by rw [HNN.out]; exact HL.out, HM.out, HQ.out⟩
        case round =>
          clear HR HL HM HQ HNN hln h1 h2
          try clear hc31 hd31 h31 h3
          obtain ⟨ay, cy, rfl, HR, HL, HM, HQ⟩ := hrel
          have rA := HR.out
          have hln := HL.out
          have HN : Hid (gk < 256 ^ (nb gk).length) := by show _ < _; have := (dig_nb gk).vL_lt; rwa [vL_nb] at this
          have hl2 : (nb fP).length = 32 := by rw [nb_fP, pL_length]
          have HL2 : Hid ((nb fP).length = 32) := hl2
          clear hl2
          have HCC : Hid (cmpN gk fP < 0 ↔ gk < fP) := by
            unfold cmpN
            show _ ↔ _
            split
            · omega
            · split <;> omega
          have hcb := cmp_bounds gk fP
          have cP := refP_any wr
          unfold Gives at cP
          rw [HL2.out] at cP
          go_wp2_with fail
          refine cP.mono ?_
          rintro e w2 ⟨a2, c2, rfl, r2, q2⟩
          have cC := refCmp15_any (nb gk) (nb fP) ay a2 (nb gk).length cy 32 c2 w2 (dig_nb _) (dig_nb _) (rA.below q2 (Nat.le_refl _)) r2 (by omega) (by omega)
          rw [vL_nb, vL_nb] at cC
          clear cP r2
          generalize cmpN gk fP = cc at *
          by_cases hge : gk < fP
          · have hc0 : ¬ (0 : Int) ≤ cc := by have := HCC.out.2 hge; omega
            have hcd : decide ((0 : Int) ≤ cc) = false := decide_eq_false hc0
            clear hcb
            have HE : Hid (v0 % fP = gk) := by show _ = _; rw [← HM.out, Nat.mod_eq_of_lt hge]
            clear hge
            generalize hn : (nb gk).length = n at *
            have HNN : Hid ((nb gk).length = n) := hn
            clear hn
            go_wp2_with fail
            refine cC.mono ?_
            rintro e w' ⟨rfl, rfl⟩
            clear cC
            go_wp2
            try go_ret
            rw [← HRR.out]
            unfold Gives
            rw [HE.out, HNN.out]
            exact ⟨_, _, rfl, rA.below q2 (Nat.le_refl _), HQ.out.trans (q2.mono HQ.out.size)⟩
          · have hc0 : (0 : Int) ≤ cc := Int.not_lt.1 (fun h => hge (HCC.out.1 h))
            have HG : Hid (gk - fP < gk ∧ (gk - fP) % fP = gk % fP ∧ (nb (gk - fP)).length ≤ 1000) :=
              ⟨by have := fP_pos; omega, by rw [Nat.mod_eq_sub_mod (a := gk) (by omega)], Nat.le_trans (nb_len (Nat.lt_of_le_of_lt (Nat.sub_le _ _) HN.out)) HL.out⟩
            clear hge
            generalize hn : (nb gk).length = n at *
            go_wp2_with fail
            refine cC.mono ?_
            rintro e w' ⟨rfl, rfl⟩
            clear cC
            have cP := refP_any w2
            unfold Gives at cP
            rw [HL2.out] at cP
            go_wp2_with fail
            refine cP.mono ?_
            rintro e w3 ⟨a3, c3, rfl, r3, q3⟩
            have Q3 := btrans q2 q3
            have cS := refSub15_any (nb gk) (nb fP) ay a3 n cy 32 c3 w3 (dig_nb _) (dig_nb _) (rA.below Q3 (Nat.le_refl _)) r3 (by omega) (by omega)
            rw [vL_nb, vL_nb] at cS
            clear cP r3 q3 q2
            go_wp2_with fail
            refine cS.mono ?_
            rintro e w4 ⟨a4, c4, rfl, r4, q4⟩
            go_wp2
            go_roundg (gk - fP)
            case measure => exact HG.out.1
            case rel => exact ⟨a4, c4, rfl, r4, HG.out.2.2, by rw [HG.out.2.1]; exact HM.out, HQ.out.trans ((btrans Q3 q4).mono HQ.out.size)⟩
end Go.Proofs.YtacicjnhpklkfaaDoor.N
