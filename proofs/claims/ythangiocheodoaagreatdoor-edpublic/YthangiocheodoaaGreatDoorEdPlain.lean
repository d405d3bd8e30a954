/-
 Layer 19, in plain words: a digest as a number; the numbers of a seed, of a signature; what was signed is verified, and by one number alone; the examples.
-/
import Derived.Test.YthangiocheodoaaGreatDoorPackCa
import Derived.Test.YthangiocheodoaaGreatDoorPackCb
import Derived.Test.YthangiocheodoaaGreatDoorPackSc
namespace Go.Proofs.YthangiocheodoaaGreatDoor.N
set_option linter.unusedVariables false
set_option maxRecDepth 8192

theorem sum_len (K : List Nat) (S : B.S8) (z : List Nat) : (B.sumL K S z).length = 64 := rfl
theorem sum_dig (K : List Nat) (S : B.S8) (z : List Nat) : Dig (B.sumL K S z) := by
 unfold B.sumL B.S8.bytes
 intro x hx
 simp only [List.mem_append] at hx
 rcases hx with (((((((h | h) | h) | h) | h) | h) | h) | h) <;> exact be8_lt _ x h
/-- The digest of bytes, as a number. -/
def hN (z : List Nat) : Nat := vL (B.sumL B.KL B.S0 z)
theorem hN_bytes (z : List Nat) : B.sumL B.KL B.S0 z = digL (hN z) 64 := by
 have h := digL_of (sum_dig B.KL B.S0 z)
 rwa [sum_len] at h
theorem p256 : (256 : Nat) ^ 32 = 2 ^ 256 := by decide
theorem hN_lt (z : List Nat) : hN z < 2 ^ 256 * 2 ^ 256 := by
 have h := (sum_dig B.KL B.S0 z).vL_lt
 rw [sum_len, show 64 = 32 + 32 from rfl, Nat.pow_add, p256] at h
 exact h
theorem h_high {v : Nat} (h : v < 2 ^ 256 * 2 ^ 256) : v / 2 ^ 256 < 2 ^ 256 := (Nat.div_lt_iff_lt_mul (Nat.two_pow_pos 256)).2 h
theorem h_low (v : Nat) : v % 2 ^ 256 < 2 ^ 256 := Nat.mod_lt _ (Nat.two_pow_pos 256)
/-- What is left of a digest by the order. -/
def numN (z : List Nat) : Nat := hN z % oL
theorem numN_eq (z : List Nat) : numN z = hN z % oL := rfl
theorem numN_lt256 (z : List Nat) : numN z < 2 ^ 256 := mod_oL256 _
/-- Of a seed: the number that scales the base; the bytes ahead of a message. -/
def secA (sd : Nat) : Nat := clampN (hN (digL sd 32) % 2 ^ 256)
def secB (sd : Nat) : Nat := hN (digL sd 32) / 2 ^ 256
theorem secA_eq (sd : Nat) : secA sd = clampN (hN (digL sd 32) % 2 ^ 256) := rfl
theorem secB_eq (sd : Nat) : secB sd = hN (digL sd 32) / 2 ^ 256 := rfl
theorem secA_lt (sd : Nat) : secA sd < 2 ^ 256 := clamp_lt _
def pubP (sd : Nat) : Pt := ptimes (secA sd) pbase
theorem pubP_on (sd : Nat) : OnC (pubP sd) := ptimes_on pbase_on _
def pubN (sd : Nat) : Nat := packN (pubP sd)
def rN (sd : Nat) (m : List Nat) : Nat := numN (digL (secB sd) 32 ++ m)
def rP (sd : Nat) (m : List Nat) : Pt := ptimes (rN sd m) pbase
theorem rP_on (sd : Nat) (m : List Nat) : OnC (rP sd m) := ptimes_on pbase_on _
def ptN (sd : Nat) (m : List Nat) : Nat := packN (rP sd m)
theorem ptN_lt (sd : Nat) (m : List Nat) : ptN sd m < 2 ^ 256 := packN_lt _
def kN (R P : Nat) (m : List Nat) : Nat := numN (digL R 32 ++ digL P 32 ++ m)
def sN (sd : Nat) (m : List Nat) : Nat := (kN (ptN sd m) (pubN sd) m * secA sd + rN sd m) % oL
theorem sN_lt256 (sd : Nat) (m : List Nat) : sN sd m < 2 ^ 256 := mod_oL256 _
def sgN (sd : Nat) (m : List Nat) : Nat := ptN sd m + 2 ^ 256 * sN sd m
theorem two_low {a b : Nat} (h : a < 2 ^ 256) : (a + 2 ^ 256 * b) % 2 ^ 256 = a := by rw [Nat.add_mul_mod_self_left, Nat.mod_eq_of_lt h]
theorem two_high {a b : Nat} (h : a < 2 ^ 256) : (a + 2 ^ 256 * b) / 2 ^ 256 = b := by rw [Nat.add_mul_div_left _ _ (Nat.two_pow_pos 256), Nat.div_eq_of_lt h, Nat.zero_add]
theorem two_gen {A a b : Nat} (h : a < A) (h' : b < A) : a + A * b < A * A := by
 have h1 : A * (b + 1) ≤ A * A := Nat.mul_le_mul_left A h'
 rw [Nat.mul_add, Nat.mul_one] at h1
 omega
theorem two_lt {a b : Nat} (h : a < 2 ^ 256) (h' : b < 2 ^ 256) : a + 2 ^ 256 * b < 2 ^ 256 * 2 ^ 256 := two_gen h h'
theorem two_parts (v : Nat) : v % 2 ^ 256 + 2 ^ 256 * (v / 2 ^ 256) = v := Nat.mod_add_div v (2 ^ 256)
theorem digL_mod (v n : Nat) : digL (v % 256 ^ n) n = digL v n := by
 unfold digL
 apply List.map_congr_left
 intro i hi
 have hi : i < n := List.mem_range.1 hi
 have e : (256 : Nat) ^ n = 256 ^ i * (256 * 256 ^ (n - i - 1)) := by rw [← Nat.pow_succ', ← Nat.pow_add, show i + (n - i - 1).succ = n by omega]
 rw [e, Nat.mod_mul_right_div_self, Nat.mod_mul_right_mod]
theorem digL_low (v : Nat) : digL (v % 2 ^ 256) 32 = digL v 32 := by rw [← p256]; exact digL_mod v 32
theorem digL_two (v : Nat) : digL v 64 = digL v 32 ++ digL (v / 2 ^ 256) 32 := by
 apply list_dg (by simp [digL_length])
 intro i
 rcases Nat.lt_or_ge i 64 with h | h
 ·rw [dg_digL h]
  rcases Nat.lt_or_ge i 32 with h1 | h1
  ·unfold dg
   rw [List.getElem?_append_left (by rw [digL_length]; exact h1)]
   have := dg_digL (x := v) h1
   unfold dg at this
   rw [this]
  ·unfold dg
   rw [List.getElem?_append_right (by rw [digL_length]; exact h1), digL_length]
   have := dg_digL (x := v / 2 ^ 256) (show i - 32 < 32 by omega)
   unfold dg at this
   rw [this, ← p256, Nat.div_div_eq_div_mul, ← Nat.pow_add, show 32 + (i - 32) = i by omega]
 ·rw [dg_past (by rw [digL_length]; exact h), dg_past (by rw [List.length_append, digL_length, digL_length]; exact h)]
theorem digL_both {a b : Nat} (h : a < 2 ^ 256) : digL (a + 2 ^ 256 * b) 64 = digL a 32 ++ digL b 32 := by
 rw [digL_two, two_high h, ← digL_low, two_low h]
/-- What was signed is verified. -/
theorem sum_holds (k a r : Nat) : ptimes ((k * a + r) % oL) pbase = psum (ptimes r pbase) (ptimes k (ptimes a pbase)) := by
 rw [base_mod, ptimes_add pbase_on, Nat.mul_comm k a, ptimes_mul pbase_on, psum_comm (ptimes_on (ptimes_on pbase_on _) _) (ptimes_on pbase_on _)]
theorem sign_holds (sd : Nat) (m : List Nat) : ptimes (sN sd m) pbase = psum (rP sd m) (ptimes (kN (ptN sd m) (pubN sd) m) (pubP sd)) := sum_holds _ _ _
/-- A point that is told, so many times the base. -/
theorem at_lit {v : Nat} (hv : v < 2 ^ 256) (p : Pt) (h : (run3 base3 v 256 256).x = p.x * (run3 base3 v 256 256).z ∧ (run3 base3 v 256 256).y = p.y * (run3 base3 v 256 256).z) : ptimes v pbase = p := by
 have s := Stands.all (Stands.one pbase) pbase_on v 256 hv
 have e : (⟨pbase.x, pbase.y, 1⟩ : T3) = base3 := rfl
 rw [e] at s
 obtain ⟨h1, h2⟩ := h
 generalize run3 base3 v 256 256 = t at *
 have hx := s.x
 have hy := s.y
 rw [h1] at hx
 rw [h2] at hy
 have hz := s.z
 apply Pt.ext
 ·exact fp_cancel hz (by rw [Fin.mul_comm t.z, Fin.mul_comm t.z]; exact hx.symm)
 ·exact fp_cancel hz (by rw [Fin.mul_comm t.z, Fin.mul_comm t.z]; exact hy.symm)
/-- RFC 8032's first test. -/
def aw0 : Nat := 43647624700350065415986689228612485845309737963740022737531181108678917972381
def awA : Pt := ⟨⟨38815646466658113194383306759739515082307681141926459231621296960732224964046, by decide⟩, ⟨11903303657706407974989296177215005343713679411332034699907763981919547054807, by decide⟩⟩
def awR : Pt := ⟨⟨44370630452101398467924320556439323233869374150616132215183787387252341590058, by decide⟩, ⟨38448863731492799660668882834560725606410712239157980760146247592118262650597, by decide⟩⟩
def awP : Nat := 11903303657706407974989296177215005343713679411332034699907763981919547054807
def awQ : Nat := 38448863731492799660668882834560725606410712239157980760146247592118262650597
def awS : Nat := 5004556735901913393272427758925840403246877222315506387332009764265656498271
theorem aw0_lt : aw0 < 2 ^ 256 := by decide
theorem aw_h0 : hN (digL aw0 32) = 7496039341941261757086370812145144201687131300977448198326011492468381147072957380151816307945363008053352834963924500125734224656659236037903842577447989 := by decide +kernel
theorem aw_a : secA aw0 = 36144925721603087658594284515452164870581325872720374094707712194495455132720 := by unfold secA; rw [aw_h0]; decide +kernel
theorem aw_b : secB aw0 = 64737059252623978071104362028976657683353137450516199718874906053307798278043 := by unfold secB; rw [aw_h0]
theorem aw_pub : pubP aw0 = awA := by unfold pubP; rw [aw_a]; exact at_lit (by decide) awA (by decide +kernel)
theorem aw_pubN : pubN aw0 = awP := by unfold pubN; rw [aw_pub]; decide +kernel
theorem aw_hr : hN (digL 64737059252623978071104362028976657683353137450516199718874906053307798278043 32 ++ []) = 2367685864793918820760658281706469898440682783741725977504635972868015130552574255946297729751531955922668158411754362626067829855208980039009695126303158 := by decide +kernel
theorem aw_r : rN aw0 [] = 2015312323900227545039973048451112962192803170366412514267238242679089760755 := by unfold rN numN; rw [aw_b, aw_hr]; decide +kernel
theorem aw_R : rP aw0 [] = awR := by unfold rP; rw [aw_r]; exact at_lit (by decide) awR (by decide +kernel)
theorem aw_ptN : ptN aw0 [] = awQ := by unfold ptN; rw [aw_R]; decide +kernel
theorem aw_hk : hN (digL awQ 32 ++ digL awP 32 ++ []) = 8330418374318453877305593039963243118404516881534716497174855478949682536611872763612979590919748364595573691387620693640258212958029701128430630950301991 := by decide +kernel
theorem aw_k : kN awQ awP [] = 1958233733501237659471134851339390337284068724042047466985993338226439154310 := by unfold kN numN; rw [aw_hk]; decide +kernel
theorem sN_of {sd : Nat} {m : List Nat} {R P k a r s : Nat} (h1 : ptN sd m = R) (h2 : pubN sd = P) (h3 : secA sd = a) (h4 : rN sd m = r) (h5 : kN R P m = k) (h6 : (k * a + r) % oL = s) : sN sd m = s := by
 unfold sN
 rw [h1, h2, h3, h4, h5, h6]
theorem aw_s : sN aw0 [] = awS := sN_of aw_ptN aw_pubN aw_a aw_r aw_k (by decide +kernel)
theorem aw_hk1 : hN (digL awQ 32 ++ digL awP 32 ++ [0]) = 8487411428019616496228839963596592320157905420635901131047886792407237528821961630061019766752333756181078942626768209736748769244667792485194512936609534 := by decide +kernel
theorem aw_k1 : kN awQ awP [0] = 5739917060239399386628100714654249777605879736788356462454918389142766655041 := by unfold kN numN; rw [aw_hk1]; decide +kernel
theorem aw_not : ptimes awS pbase ≠ psum awR (ptimes (kN awQ awP [0]) awA) := by
 rw [aw_k1, ← aw_R, ← aw_pub]
 unfold rP pubP
 rw [aw_r, aw_a, ← sum_holds, at_lit (v := awS) (by decide) ⟨⟨7806315969672089113800321789479484568884408219653157331949088689052905916728, by decide⟩, ⟨17903225727030484718372622726273485911589928373860394710736664880395775012094, by decide⟩⟩ (by decide +kernel), at_lit (v := (5739917060239399386628100714654249777605879736788356462454918389142766655041 * 36144925721603087658594284515452164870581325872720374094707712194495455132720 + 2015312323900227545039973048451112962192803170366412514267238242679089760755) % oL) (mod_oL256 _) ⟨⟨22719854181223948210876084800510600731286053477469347096053134788207643570955, by decide⟩, ⟨34267105924823401229771441850001143906598118107298506375563346011053518567181, by decide⟩⟩ (by decide +kernel)]
 intro h
 exact absurd (congrArg (fun p : Pt => p.x) h) (by decide)
attribute [irreducible] hN numN secA secB
end Go.Proofs.YthangiocheodoaaGreatDoor.N
