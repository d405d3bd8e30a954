/-
  The code of layer 13 (sha256), as it landed: apart, Primes, Mul64, squareTop, cubeTop, root, RotateLeft32, rotr.
-/
import Derived.Test.YthcnnglpncblaaaShaConst
import Derived.Test.YthcnnglpncblaaaBits
import Derived.Test.YthcnnglpncblaaaHeld
import Derived.Shelf.Bits.Mul64
import Derived.Laws.BitsAllLaws
namespace Go.Proofs.Ythcnnglpncblaaa
open Go.RowKit
set_option linter.unusedVariables false
set_option maxRecDepth 8192

/-- Numbers as the program's. -/
def nI (l : List Nat) : List Int := l.map fun n : Nat => (n : Int)
theorem nI_length (l : List Nat) : (nI l).length = l.length := by simp [nI]
theorem nI_get (l : List Nat) (i : Nat) : (nI l)[i]?.getD 0 = ((l[i]?.getD 0 : Nat) : Int) := by
  unfold nI
  rw [List.getElem?_map]
  cases l[i]? <;> rfl
theorem nI_snoc (l : List Nat) (a : Nat) : nI (l ++ [a]) = nI l ++ [(a : Int)] := by simp [nI]
theorem nI_append (l m : List Nat) : nI (l ++ m) = nI l ++ nI m := by simp [nI]
theorem nI_take (l : List Nat) (k : Nat) : (nI l).take k = nI (l.take k) := by simp [nI, List.map_take]
theorem nI_drop (l : List Nat) (k : Nat) : (nI l).drop k = nI (l.drop k) := by simp [nI, List.map_drop]
theorem nI_set (l : List Nat) (k a : Nat) : (nI l).set k (a : Int) = nI (l.set k a) := by simp [nI, List.map_set]
theorem nI_inj {p q : List Nat} (h : nI p = nI q) : p = q := by
  have h2 := congrArg (List.map Int.toNat) h
  simpa [nI, List.map_map, Function.comp_def] using h2

theorem apartP_drop (p : Nat) (l : List Nat) (k : Nat) (hk : k < l.length) : apartP p (l.drop k) = if p < l[k]?.getD 0 * l[k]?.getD 0 then true else if p % l[k]?.getD 0 = 0 then false else apartP p (l.drop (k + 1)) := by
  rw [List.drop_eq_getElem_cons hk, List.getElem?_eq_getElem hk]
  show (bif Nat.blt p (l[k] * l[k]) then true else bif Nat.beq (p % l[k]) 0 then false else apartP p (l.drop (k + 1))) = if p < l[k] * l[k] then true else if p % l[k] = 0 then false else apartP p (l.drop (k + 1))
  by_cases h1 : p < l[k] * l[k]
  · rw [if_pos h1, show Nat.blt p (l[k] * l[k]) = true from by rw [Nat.blt_eq]; exact h1]; rfl
  · rw [if_neg h1, show Nat.blt p (l[k] * l[k]) = false from by rw [← Bool.not_eq_true, Nat.blt_eq]; exact h1]
    by_cases h2 : p % l[k] = 0
    · rw [if_pos h2, show Nat.beq (p % l[k]) 0 = true from by rw [Nat.beq_eq]; exact h2]; rfl
    · rw [if_neg h2, show Nat.beq (p % l[k]) 0 = false from by rw [← Bool.not_eq_true, Nat.beq_eq]; exact h2]; rfl

set_option maxHeartbeats 800000 in
theorem apart_any (p : Nat) (l : List Nat) (a : Option Addr) (len cap : Nat) (w : World) (hr : Row .i64 w a len cap (nI l)) (hp : p < 1000) (hl : ∀ x ∈ l, 0 < x ∧ x < 542) :
    Calls Try.prog 32 #[.int .i64 p, .slice a len cap] w fun e w' => e = .returned (.bool (apartP p l)) ∧ w = w' := by
  have hm := hr.hmax
  have hc := hr.hcap
  have HL : Hid (l.length = len) := by have := hr.hlen; rw [nI_length] at this; exact this
  unfold maxLen at hm
  go_enter Try.func32, Try.ntmps32
  go_wp2
  go_loop [9] (fun y => ∃ k : Nat, k ≤ len ∧ y = .int .i64 k ∧ Hid (apartP p l = apartP p (l.drop k))) (fun y => len - (intOf y).toNat)
  case atStart => exact ⟨0, Nat.zero_le _, rfl, rfl⟩
  case round =>
    obtain ⟨k, hk, rfl, HA⟩ := hrel
    by_cases hlt : k < len
    · obtain ⟨b, off, rfl, hbs, hcell⟩ := hr.hcell (by omega)
      have hc1 := hcell k hlt
      clear hcell
      rw [nI_get] at hc1
      have HD : Hid (apartP p (l.drop k) = if p < l[k]?.getD 0 * l[k]?.getD 0 then true else if p % l[k]?.getD 0 = 0 then false else apartP p (l.drop (k + 1))) := apartP_drop p l k (by have := HL.out; omega)
      have hq : 0 < l[k]?.getD 0 ∧ l[k]?.getD 0 < 542 := by
        have hk' : k < l.length := by have := HL.out; omega
        rw [List.getElem?_eq_getElem hk']
        exact hl _ (List.getElem_mem hk')
      generalize l[k]?.getD 0 = q at *
      have hqq : q * q ≤ 541 * 541 := Nat.mul_le_mul (by omega) (by omega)
      have hcast : (q : Int) * (q : Int) = ((q * q : Nat) : Int) := (Int.natCast_mul q q).symm
      by_cases h1 : p < q * q
      · have HR : Hid (apartP p l = true) := by show _ = _; rw [HA.out, HD.out, if_pos h1]
        generalize q * q = qq at *
        go_wp2
        go_ret
        exact ⟨ret_bool HR.out.symm, rfl⟩
      · by_cases h2 : p % q = 0
        · have HR : Hid (apartP p l = false) := by show _ = _; rw [HA.out, HD.out, if_neg h1, if_pos h2]
          have h2' : (p : Int).tmod (q : Int) = 0 := by rw [← Int.ofNat_tmod, h2]; rfl
          generalize q * q = qq at *
          go_wp2
          go_ret
          exact ⟨ret_bool HR.out.symm, rfl⟩
        · have HR : Hid (apartP p l = apartP p (l.drop (k + 1))) := by show _ = _; rw [HA.out, HD.out, if_neg h1, if_neg h2]
          have h2' : ¬ (p : Int).tmod (q : Int) = 0 := by rw [← Int.ofNat_tmod]; exact fun h => h2 (by omega)
          have h2'' : ((p : Int).tmod (q : Int) == 0) = false := by simpa using h2'
          generalize q * q = qq at *
          go_wp2
          go_round
          case rel => exact ⟨k + 1, by omega, by go_num, HR⟩
          case measure => simp [intOf]; omega
    · have HR : Hid (apartP p l = true) := by
        show _ = _
        rw [HA.out, List.drop_eq_nil_of_le (by have := HL.out; omega)]
        rfl
      go_wp2
      go_ret
      exact ⟨ret_bool HR.out.symm, rfl⟩
theorem shaPrimes_no (n : Int) (w : World) (h : n < 0 ∨ 100 < n) : Calls Try.prog 19 #[.int .i64 n] w fun e w' => e = .returned (.tuple #[.slice none 0 0, .int .i64 1]) ∧ w = w' := by
  rcases h with h | h
  all_goals
    go_enter Try.func19, Try.ntmps19
    go_wp2
    go_ret2
    exact ⟨rfl, rfl⟩
set_option maxHeartbeats 1600000 in
theorem shaPrimes_yes (n : Nat) (w : World) (hn : n ≤ 100) : Calls Try.prog 19 #[.int .i64 (n : Int)] w fun e w' =>
    ∃ v, e = .returned (.tuple #[v, .int .i64 0]) ∧ w'.ownsRow w.heap.size 3 1 v n ((nI (prL.take n)).map (Value.int .i64)) ∧ Below w.heap.size w w' := by
  obtain ⟨i0, hi0, hz0, hz1, hz2⟩ := info_parts Try.info3
  go_enter Try.func19, Try.ntmps19
  go_wp2
  go_loopw [4, 5] (fun v y wr => ∃ p : Nat, 2 ≤ p ∧ p ≤ 542 ∧ y = .int .i64 (p : Int) ∧ Hid ((prTo p).length ≤ n) ∧ Hid (wr.ownsRow w.heap.size 3 1 v (prTo p).length ((nI (prTo p)).map (Value.int .i64))) ∧ Hid (Below w.heap.size w wr)) (fun _ y _ => 543 - (intOf y).toNat)
  case atStart => exact ⟨2, by omega, by omega, rfl, by rw [prTo_two]; exact Nat.zero_le _, by rw [prTo_two]; exact World.ownsRow_nil _ _ _ _, Below.refl _ _⟩
  case round =>
    obtain ⟨p, hp2, hp5, rfl, HL, HO, HB⟩ := hrel
    have hsz : w.heap.size ≤ wr.heap.size := HB.out.size
    obtain ⟨a, cap, rfl, hrow⟩ := row_of_owns HO.out
    by_cases hlt : (prTo p).length < n
    · have hp1 : p ≤ 541 := prTo_few hn hlt
      have hnx := prTo_next p hp2 hp1
      have hlL : (prTo p).length ≤ 100 := by omega
      have HN : Hid (prTo (p + 1) = (if apartP p (prTo p) = true then prTo p ++ [p] else prTo p)) := hnx.1
      clear hnx
      have hap := apart_any p (prTo p) a (prTo p).length cap wr hrow (by omega) (fun x hx => prTo_mem hx)
      have HLT : Hid ((prTo p).length < n) := hlt
      generalize hLL : (prTo p).length = L at *
      go_wp2_with fail
      refine hap.mono ?_
      rintro e w' ⟨rfl, rfl⟩
      cases h : apartP p (prTo p)
      · have HE : Hid (prTo (p + 1) = prTo p) := by show _ = _; rw [HN.out, h]; rfl
        go_wp2
        go_roundw
        case rel =>
          refine ⟨p + 1, by omega, by omega, by go_num, ?_, ?_, HB⟩
          · rw [HE.out, hLL]; exact HL
          · rw [HE.out, hLL]; exact HO
        case measure => simp [intOf]; omega
      · have HE : Hid (prTo (p + 1) = prTo p ++ [p]) := by show _ = _; rw [HN.out, h]; rfl
        have hown := HO.out
        go_wp2_with (at_builtin; refine wpList_append_own _ rfl _ _ 42 rfl w.heap.size 3 i0 (.int .i64 0) 1 8 Try.underlying42 hi0 hz0 hz1 hz2 rfl (by decide) _ _ _ rfl (hown.alloc _) ⟨wr.heap.size, 0, none⟩ 1 1 [.int .i64 (p : Int)] rfl rfl (cell_one_new _ _ _) (by intro u hu; simp at hu; subst hu; rfl) (by unfold maxLen; omega) (by omega) (by simp; omega) ?_)
        intro v' w1 hown' hgrow _
        have R := rel_push hsz hown HB.out hown' hgrow
        rw [← nI_snoc, ← HE.out] at R
        have hLn : (prTo (p + 1)).length = L + 1 := by rw [HE.out]; simp [hLL]
        clear hown' hgrow
        go_wp2
        go_roundw
        case rel =>
          refine ⟨p + 1, by omega, by omega, by go_num, ?_, ?_, R.2⟩
          · rw [hLn]; have := HLT.out; show L + 1 ≤ n; omega
          · rw [hLn]; exact R.1
        case measure => simp [intOf]; omega
    · have e1 : (prTo p).length = n := by have := HL.out; omega
      have HT : Hid (prTo p = prL.take n) := by show _ = _; rw [prTo_take p hp2 hp5, e1]
      have hown := HO.out
      rw [HT.out, List.length_take, prL_length, Nat.min_eq_left hn] at hown
      rw [e1] at *
      go_wp2
      go_ret2
      exact ⟨_, rfl, hown, HB.out⟩
set_option maxHeartbeats 1000000 in
theorem mul64_any (x y : Nat) (hx : x < 18446744073709551616) (hy : y < 18446744073709551616) (w : World) :
    Calls Try.prog 39 #[.int .u64 (x : Int), .int .u64 (y : Int)] w fun e w' => e = .returned (.tuple #[.int .u64 ((x * y / 18446744073709551616 : Nat) : Int), .int .u64 ((x * y % 18446744073709551616 : Nat) : Int)]) ∧ w = w' := by
  obtain ⟨bd, bt, bw, hhi⟩ := Lib.mul64_hi x y hx hy
  have ba := Lib.half_mul_le (a := x / 4294967296) (b := y / 4294967296) (by omega) (by omega)
  have bb := Lib.half_mul_le (a := x / 4294967296) (b := y % 4294967296) (by omega) (by omega)
  have bc := Lib.half_mul_le (a := x % 4294967296) (b := y / 4294967296) (by omega) (by omega)
  have ba' : x / 4294967296 * (y / 4294967296) < 18446744073709551616 := by omega
  have bb' : x / 4294967296 * (y % 4294967296) < 18446744073709551616 := by omega
  have bc' : x % 4294967296 * (y / 4294967296) < 18446744073709551616 := by omega
  have b1 : x / 4294967296 * (y / 4294967296) + (x / 4294967296 * (y % 4294967296) + x % 4294967296 * (y % 4294967296) / 4294967296) / 4294967296 < 18446744073709551616 := by omega
  have b2 : x / 4294967296 * (y / 4294967296) + (x / 4294967296 * (y % 4294967296) + x % 4294967296 * (y % 4294967296) / 4294967296) / 4294967296 + ((x / 4294967296 * (y % 4294967296) + x % 4294967296 * (y % 4294967296) / 4294967296) % 4294967296 + x % 4294967296 * (y / 4294967296)) / 4294967296 < 18446744073709551616 := by omega
  go_enter Try.func39, Try.ntmps39
  go_wp2
  simp only [Mul64.maskN x hx, Mul64.maskN y hy, Mul64.divN, Mul64.mulN, Mul64.addN, Mul64.wrapN _ bd, Mul64.wrapN _ bb', Mul64.wrapN _ bt, Mul64.maskN _ bt, Mul64.wrapN _ bc', Mul64.wrapN _ bw, Mul64.wrapN _ ba', Mul64.wrapN _ b1, Mul64.wrapN _ b2, Mul64.wrapM (x * y)]
  rw [hhi]
  go_ret2
  exact ⟨rfl, rfl⟩
end Go.Proofs.Ythcnnglpncblaaa
