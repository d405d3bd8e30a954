/-
  The code of layer 21 (keys), as it landed: place, Find, Revoke.
-/
import Derived.Test.YtjcfooiibgidhaaKeyCode5
namespace Go.Proofs.Ytjcfooiibgidhaa.N
open Go.RowKit
set_option linter.unusedVariables false
set_option maxRecDepth 8192

/-- What place tells of a ring that may be. -/
def PlaceIs (l : List Ky) (x : Int) (p e : Int) : Prop := (∃ i : Nat, placeK l x = some i ∧ p = (i : Int) ∧ e = 0) ∨ (placeK l x = none ∧ p = 0 ∧ e = 190)
theorem Part.at {l : List Ky} {x : Int} {n p i : Nat} (hm : mayK l = true) (hl : l.length = n) (h : Part l x n p p) (hi : i < n) (hx : (kyI l i).num = x) : p = i := by
  rcases Nat.lt_or_ge i p with h1 | h1
  · have := h.lt i h1; omega
  · rcases Nat.lt_or_ge p i with h2 | h2
    · have := h.ge p (Nat.le_refl _) (by omega)
      have := mayK_lt hm h2 (by omega)
      omega
    · omega
set_option maxHeartbeats 800000 in
theorem place_no {a : Option Addr} {n c : Nat} {l : List Ky} {x : Int} {w : World} (hr : KRow w a n c l) (ho : ∀ s ∈ l, s.Ok) (hm : mayK l = false) :
    Calls Try.prog 22 #[.slice a n c, .int .i64 x] w fun e w' => e = .returned (.tuple #[.int .i64 0, .int .i64 1]) ∧ Below w.heap.size w w' := by
  have V := ((Vars.start w).new 22 #[.slice a n c]).new 3 #[.int .i64 x]
  simp only [World.size_alloc] at V
  have c1 := man_c (V.at 1 rfl) 0
  have h := kMayBe_any (hr.below V.bel (Nat.le_refl _)) ho
  rw [hm] at h
  go_enter Try.func22, Try.ntmps22
  go_wp2_with fail
  refine h.mono ?_
  rintro e w2 ⟨rfl, q1⟩
  have HQ : Hid (Below w.heap.size w w2) := btrans V.bel q1
  clear h hr hm V q1 c1
  go_wp2_with fail
  go_ret2
  exact ⟨rfl, HQ.out⟩
set_option maxHeartbeats 3200000 in
theorem place_yes {a : Option Addr} {n c : Nat} {l : List Ky} {x : Int} {w : World} (hr : KRow w a n c l) (ho : ∀ s ∈ l, s.Ok) (hm : mayK l = true) :
    Calls Try.prog 22 #[.slice a n c, .int .i64 x] w fun e w' => ∃ p e', e = .returned (.tuple #[.int .i64 p, .int .i64 e']) ∧ PlaceIs l x p e' ∧ Below w.heap.size w w' := by
  have mc := hr.hcap
  have mm := hr.hmax
  unfold maxLen at mm
  have HL : Hid (l.length = n) := hr.hlen
  have V := ((Vars.start w).new 22 #[.slice a n c]).new 3 #[.int .i64 x]
  simp only [World.size_alloc] at V
  have B : KBox ((w.alloc (.cells #[.slice a n c] 22)).alloc (.cells #[.int .i64 x] 3)) w.heap.size (w.heap.size + 1) a n c l x := ⟨man_c (V.at 1 rfl) 0, man_c (V.at 0 rfl) 0, hr.below V.bel (Nat.le_refl _)⟩
  have q0 := V.bel
  have h := kMayBe_any B.row ho
  rw [hm] at h
  have c1 := B.ring
  have hmf : ∀ (fn : Fn) (first cap : Array Value) (w : World), (Instr.makeFunc fn first cap).run Try.prog w = .ok (.func fn first cap) w := fun _ _ _ _ => rfl
  go_enter Try.func22, Try.ntmps22
  go_wp2_with fail
  generalize (w.alloc (.cells #[.slice a n c] 22)).alloc (.cells #[.int .i64 x] 3) = w1 at *
  refine h.mono ?_
  rintro e w2 ⟨rfl, q1⟩
  replace B := B.below q1
  replace q0 := btrans q0 q1
  clear h V q1 c1 hr
  have c1 := B.ring
  have hs := search21_any B hm
  have HM : Hid (mayK l = true) := hm
  clear hm
  go_wp2_with fail
  refine hs.mono ?_
  rintro e w3 ⟨p, hp, rfl, P, q2⟩
  replace B := B.below q2
  replace q0 := (btrans q0 q2).drew
  have HP : Hid (Part l x n p p) := P
  clear hs q2 P c1 hmf
  have c1 := B.ring
  have c2 := B.num
  go_wp2_with fail
  refine av_open (fun w' => Below w3.heap.size w3 w') (by kernel_rfl) ?_
  by_cases hpn : p < n
  · obtain ⟨b, off, rfl, hbs, hcell⟩ := B.row.hcell (by omega)
    have hx := kr_num (hcell p hpn)
    have hpn' : (p : Int) < (n : Int) := by omega
    have hne : ¬ (p : Int) = (n : Int) := by omega
    have HX : Hid (((kyI l p).num = x → placeK l x = some p) ∧ ((kyI l p).num ≠ x → placeK l x = none)) := by
      refine ⟨fun h => placeK_at HM.out (by rw [HL.out]; exact hpn) h, fun h => ?_⟩
      cases hk : placeK l x with
      | none => rfl
      | some i =>
        have h1 := placeK_some hk
        have := HP.out.at HM.out HL.out (by rw [← HL.out]; exact h1.1) h1.2
        subst this
        exact absurd h1.2 h
    clear hcell B HP
    generalize (kyI l p).num = y at *
    obtain ⟨r, hr0⟩ : ∃ r, r = decide (y ≠ x) := ⟨_, rfl⟩
    have HR : Hid (r = decide (y ≠ x)) := hr0
    clear hr0
    refine held_reads (rs := [0, 1, 2, 3, 4, 5, 6, 7, 8, 9, 10, 11, 12]) (fuel := 0) (by kernel_rfl) (fun c d v a w h => by cases d <;> exact h) (by kernel_rfl) ((Below.refl _ _).drew) (fun K hK => ?_)
    refine calm_move _ rfl (by rfl) rfl ?_
    go_simp
    refine calm_do (.slice (some ⟨b, off, none⟩) n c) rfl (by rfl) (fun w' hw' => ?_) ?_
    · have d1 : w'.cell? ⟨w.heap.size, 0, none⟩ = some (.slice (some ⟨b, off, none⟩) n c) := by rw [hw'.cell (lt_of_cell c1)]; exact c1
      go_simp
    go_simp
    refine calm_do (.int .i64 (n : Int)) rfl (by rfl) (fun w' hw' => ?_) ?_
    · go_simp
    go_simp
    refine calm_do (.bool false) rfl (by rfl) (fun w' hw' => ?_) ?_
    · go_simp
    go_simp
    refine calm_move _ rfl (by rfl) rfl ?_
    go_simp
    refine calm_do (.slice (some ⟨b, off, none⟩) n c) rfl (by rfl) (fun w' hw' => ?_) ?_
    · have d1 : w'.cell? ⟨w.heap.size, 0, none⟩ = some (.slice (some ⟨b, off, none⟩) n c) := by rw [hw'.cell (lt_of_cell c1)]; exact c1
      go_simp
    go_simp
    refine calm_move _ rfl (by rfl) rfl ?_
    go_simp
    refine calm_do (.pointer (some ⟨b, off + p * 34, none⟩)) rfl (by rfl) (fun w' hw' => ?_) ?_
    · go_simp
    go_simp
    refine calm_do (.pointer (some ⟨b, off + p * 34, none⟩)) rfl (by rfl) (fun w' hw' => ?_) ?_
    · go_simp
    go_simp
    refine calm_do (.int .i64 y) rfl (by rfl) (fun w' hw' => ?_) ?_
    · have d1 : w'.cell? ⟨b, off + p * 34, none⟩ = some (.int .i64 y) := by rw [hw'.cell (lt_of_cell hx)]; exact hx
      go_simp
    go_simp
    refine calm_do (.int .i64 x) rfl (by rfl) (fun w' hw' => ?_) ?_
    · have d1 : w'.cell? ⟨w.heap.size + 1, 0, none⟩ = some (.int .i64 x) := by rw [hw'.cell (lt_of_cell c2)]; exact c2
      go_simp
    go_simp
    refine calm_do (.bool r) rfl (by rfl) (fun w' hw' => ?_) ?_
    · go_simp
      rw [HR.out]
      by_cases h : y = x <;> simp [h]
    go_simp
    refine calm_do (.bool r) rfl (by rfl) (fun w' hw' => ?_) ?_
    · go_simp
    go_simp
    refine calm_nil (hK.out _ ?_)
    clear hK K
    refine wpAnyH_done (by kernel_rfl) ?_ _
    clear c1 c2 hx
    cases r
    · have HZ : Hid (placeK l x = some p) := HX.out.1 (by have := HR.out; simpa using this)
      clear HX HR
      go_wp2_with fail
      go_ret2
      exact ⟨_, _, rfl, .inl ⟨p, HZ.out, rfl, rfl⟩, q0⟩
    · have HZ : Hid (placeK l x = none) := HX.out.2 (by have := HR.out; simpa using this)
      clear HX HR
      go_wp2_with fail
      go_ret2
      exact ⟨_, _, rfl, .inr ⟨HZ.out, rfl, rfl⟩, q0⟩
  · obtain rfl : p = n := by omega
    have HZ : Hid (placeK l x = none) := by
      show _ = _
      cases hk : placeK l x with
      | none => rfl
      | some i =>
        have h1 := placeK_some hk
        have h2 := h1.1
        rw [HL.out] at h2
        have := HP.out.lt i h2
        omega
    refine held_reads (rs := [0, 1, 2, 3, 4, 5, 6, 7, 8, 9, 10, 11, 12]) (fuel := 0) (by kernel_rfl) (fun c d v a w h => by cases d <;> exact h) (by kernel_rfl) ((Below.refl _ _).drew) (fun K hK => ?_)
    refine calm_move _ rfl (by rfl) rfl ?_
    go_simp
    refine calm_do (.slice a p c) rfl (by rfl) (fun w' hw' => ?_) ?_
    · have d1 : w'.cell? ⟨w.heap.size, 0, none⟩ = some (.slice a p c) := by rw [hw'.cell (lt_of_cell c1)]; exact c1
      go_simp
    go_simp
    refine calm_do (.int .i64 (p : Int)) rfl (by rfl) (fun w' hw' => ?_) ?_
    · go_simp
    go_simp
    refine calm_do (.bool true) rfl (by rfl) (fun w' hw' => ?_) ?_
    · go_simp
    go_simp
    refine calm_move _ rfl (by rfl) rfl ?_
    go_simp
    iterate 7 (refine calm_skip rfl (by rfl) ?_; go_simp)
    refine calm_do (.bool true) rfl (by rfl) (fun w' hw' => ?_) ?_
    · go_simp
    go_simp
    refine calm_nil (hK.out _ ?_)
    clear hK K
    refine wpAnyH_done (by kernel_rfl) ?_ _
    clear c1 c2 HP B
    go_wp2_with fail
    go_ret2
    exact ⟨_, _, rfl, .inr ⟨HZ.out, rfl, rfl⟩, q0⟩
theorem built_dg : Try.prog.built 28 [] = some (dA zero32) := by kernel_rfl
theorem find_no {a : Option Addr} {n c : Nat} {l : List Ky} {x : Int} {w : World} (hr : KRow w a n c l) (ho : ∀ s ∈ l, s.Ok) (hm : mayK l = false) :
    Calls Try.prog 10 #[.slice a n c, .int .i64 x] w fun e w' => e = .returned (.tuple #[.agg (dA zero32), .int .i64 1]) ∧ Below w.heap.size w w' := by
  have V0 := Vars.start w
  go_enter Try.func10, Try.ntmps10
  go_wp2_with (refine wpList_allocV V0 4 28 rfl rfl rfl (dA zero32) zeroDg ?_; intro w1 g1 V1)
  refine (place_no (hr.below V1.bel (Nat.le_refl _)) ho hm).mono ?_
  rintro e w2 ⟨rfl, q2⟩
  have V2 := V1.call q2
  go_wp2_with (first
    | (refine wpList_buildV 16 28 [] (by rfl) rfl rfl (dA zero32) built_dg ?_)
    | (refine wpList_storeV V2 0 rfl _ (.tmp 16) rfl rfl rfl (dA zero32) rfl rfl Try.szDg (dA_size ky0_ok.len) (dA_size ky0_ok.len) (dA_one _) ?_; intro w3 V3))
  refine bodyPost_ret (resV2 rfl _ V3 0 rfl rfl Try.underlying28 Try.szDg (dA_size ky0_ok.len)) rfl ?_
  exact ⟨rfl, V3.bel⟩
set_option maxHeartbeats 1600000 in
theorem find_yes {a : Option Addr} {n c : Nat} {l : List Ky} {x : Int} {w : World} (hr : KRow w a n c l) (ho : ∀ s ∈ l, s.Ok) (hm : mayK l = true) :
    Calls Try.prog 10 #[.slice a n c, .int .i64 x] w fun e w' => e = .returned (.tuple #[.agg (dA (fndD l x)), .int .i64 (fndC l x)]) ∧ Below w.heap.size w w' := by
  have mc := hr.hcap
  have mm := hr.hmax
  unfold maxLen at mm
  have HL : Hid (l.length = n) := hr.hlen
  have V0 := Vars.start w
  go_enter Try.func10, Try.ntmps10
  go_wp2_with (refine wpList_allocV V0 4 28 rfl rfl rfl (dA zero32) zeroDg ?_; intro w1 g1 V1)
  refine (place_yes (hr.below V1.bel (Nat.le_refl _)) ho hm).mono ?_
  rintro e w2 ⟨p, e', rfl, hp, q2⟩
  have V2 := V1.call q2
  rcases hp with ⟨i, hi, rfl, rfl⟩ | ⟨hn, rfl, rfl⟩
  · have h1 := (placeK_some hi).1
    rw [HL.out] at h1
    obtain ⟨b, off, rfl, hbs, hcell⟩ := (hr.below V2.bel (Nat.le_refl _)).hcell (by omega)
    have hx := hcell i h1
    have hk := kyI_ok ho i
    have hi' : (i : Int) < (n : Int) := by omega
    have c33 := kr_rev hk hx
    have hd := kr_dig hk hx
    clear hcell hx
    cases hv : (kyI l i).rev
    · have H : Hid (fndD l x = (kyI l i).dig ∧ fndC l x = 0) := fnd_some hi hv
      rw [hv] at c33
      have hdl := hk.len
      generalize (kyI l i).dig = d at *
      go_wp2_with (first
        | (refine wpList_load_mid rfl 28 _ rfl b (off + i * 34 + 1) rfl (dC d) _ hd Try.underlying28 rfl (by rw [dC_len hdl]; exact Try.szDg) ?_)
        | (refine wpList_storeV V2 0 rfl _ (.tmp 28) rfl rfl rfl (dA d) rfl rfl Try.szDg (dA_size ky0_ok.len) (dA_size hdl) (dA_one _) ?_; intro w3 V3))
      refine bodyPost_ret (resV2 rfl _ V3 0 rfl rfl Try.underlying28 Try.szDg (dA_size hdl)) rfl ?_
      exact ⟨by rw [H.out.1, H.out.2]; rfl, V3.bel⟩
    · have H : Hid (fndD l x = zero32 ∧ fndC l x = 190) := fnd_rev hi hv
      rw [hv] at c33
      go_wp2_with (first
        | (refine wpList_buildV 23 28 [] (by rfl) rfl rfl (dA zero32) built_dg ?_)
        | (refine wpList_storeV V2 0 rfl _ (.tmp 23) rfl rfl rfl (dA zero32) rfl rfl Try.szDg (dA_size ky0_ok.len) (dA_size ky0_ok.len) (dA_one _) ?_; intro w3 V3))
      refine bodyPost_ret (resV2 rfl _ V3 0 rfl rfl Try.underlying28 Try.szDg (dA_size ky0_ok.len)) rfl ?_
      exact ⟨by rw [H.out.1, H.out.2]; rfl, V3.bel⟩
  · have H : Hid (fndD l x = zero32 ∧ fndC l x = 190) := fnd_none hn
    go_wp2_with (first
      | (refine wpList_buildV 16 28 [] (by rfl) rfl rfl (dA zero32) built_dg ?_)
      | (refine wpList_storeV V2 0 rfl _ (.tmp 16) rfl rfl rfl (dA zero32) rfl rfl Try.szDg (dA_size ky0_ok.len) (dA_size ky0_ok.len) (dA_one _) ?_; intro w3 V3))
    refine bodyPost_ret (resV2 rfl _ V3 0 rfl rfl Try.underlying28 Try.szDg (dA_size ky0_ok.len)) rfl ?_
    exact ⟨by rw [H.out.1, H.out.2]; rfl, V3.bel⟩
theorem revoke_no {a : Option Addr} {n c : Nat} {l : List Ky} {x : Int} {w : World} (hr : KRow w a n c l) (ho : ∀ s ∈ l, s.Ok) (hm : mayK l = false) :
    Calls Try.prog 11 #[.slice a n c, .int .i64 x] w fun e w' => e = .returned (.tuple #[.slice none 0 0, .int .i64 1]) ∧ Below w.heap.size w w' := by
  have h := place_no (x := x) hr ho hm
  go_enter Try.func11, Try.ntmps11
  go_wp2_with fail
  refine h.mono ?_
  rintro e w2 ⟨rfl, q2⟩
  clear h
  go_wp2_with fail
  go_ret2
  exact ⟨rfl, q2⟩
set_option maxHeartbeats 1600000 in
theorem revoke_yes {a : Option Addr} {n c : Nat} {l : List Ky} {x : Int} {w : World} (hr : KRow w a n c l) (ho : ∀ s ∈ l, s.Ok) (hm : mayK l = true) :
    Calls Try.prog 11 #[.slice a n c, .int .i64 x] w fun e w' => Below w.heap.size w w' ∧ ((∃ i v, placeK l x = some i ∧ e = .returned (.tuple #[v, .int .i64 0]) ∧ w'.ownsRow w.heap.size 39 34 v n (kCs (revK l i))) ∨
      (placeK l x = none ∧ e = .returned (.tuple #[.slice none 0 0, .int .i64 190]))) := by
  have HL : Hid (l.length = n) := hr.hlen
  have hn8 : n ≤ 8 := by rw [← HL.out]; exact (mayK_yes hm).1
  go_enter Try.func11, Try.ntmps11
  go_wp2_with fail
  refine (place_yes (x := x) hr ho hm).mono ?_
  rintro e w2 ⟨p, e', rfl, hp, q2⟩
  rcases hp with ⟨i, hi, rfl, rfl⟩ | ⟨hn, rfl, rfl⟩
  · have hil := (placeK_some hi).1
    have h1 : i < n := by rw [← HL.out]; exact hil
    have hcl := kClone_any (hr.below q2 (Nat.le_refl _)) ho (by omega)
    have hk := kyI_ok ho i
    go_wp2_with fail
    refine hcl.mono ?_
    rintro e w3 ⟨v, rfl, own, q3⟩
    have hs2 := q2.size
    replace q2 := btrans q2 q3
    clear hcl q3
    rcases id own.2 with ⟨_, h0⟩ | ⟨g, cap, cur, rfl, hg, hh, hnc, hcm, _, _⟩
    · omega
    have c33 := own.cells (g := g) rfl (i * 34 + 33) _ (kCs_at ho i hil 33 _ (kC_33 hk))
    rw [plain_add, Nat.zero_add] at c33
    have f33 := arr_unfrozen hh (i * 34 + 33)
    have own2 := own.stored (i * 34 + 33) (.bool true)
    have o3 := own2.1
    rw [kCs_rev ho hil] at o3
    have HO : Hid ((w3.setCell ⟨g, i * 34 + 33, none⟩ (.bool true)).ownsRow w.heap.size 39 34 (.slice (some ⟨g, 0, none⟩) n cap) n (kCs (revK l i))) := owns_base o3 (by omega)
    have HQ : Hid (Below w.heap.size w (w3.setCell ⟨g, i * 34 + 33, none⟩ (.bool true))) := q2.setCell (by show w.heap.size ≤ g; omega) _
    have HI : Hid (placeK l x = some i) := hi
    have hi' : (i : Int) < (n : Int) := by omega
    unfold maxLen at hcm
    clear own own2 o3 hh q2 hi hk hg
    go_wp2_with fail
    go_ret2
    exact ⟨HQ.out, .inl ⟨i, _, HI.out, rfl, HO.out⟩⟩
  · have HN : Hid (placeK l x = none) := hn
    clear hn
    go_wp2_with fail
    go_ret2
    exact ⟨q2, .inr ⟨HN.out, rfl⟩⟩
end Go.Proofs.Ytjcfooiibgidhaa.N
