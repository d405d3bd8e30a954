/-
  What the code of layer 4 (bpoly) must return, function by function (the face that the laws' walks lean on), and awake and small of the laws.
-/
import Derived.Test.YtjiaomkjebbkpabBpolyRef2
import Derived.Test.YtjiaomkjebbkpabHeld
namespace Go.Proofs.Ytjiaomkjebbkpab
open Go.RowKit
set_option linter.unusedVariables false

/-- A call hands back the bytes z. -/
def Gives (w : World) (z : List Int) (e : Ending) (w' : World) : Prop :=
  ∃ a cap, e = .returned (.slice a z.length cap) ∧ Row .u8 w' a z.length cap z ∧ Below w.heap.size w w'
/-- A call hands back the bytes z and the error number n. -/
def GivesE (w : World) (z : List Int) (n : Int) (e : Ending) (w' : World) : Prop :=
  ∃ a cap, e = .returned (.tuple #[.slice a z.length cap, .int .i64 n]) ∧ Row .u8 w' a z.length cap z ∧ Below w.heap.size w w'

def BDegC : Prop := ∀ (a : Option Addr) (len cap : Nat) (z : List Int) (w : World), Row .u8 w a len cap z → IsB z → len ≤ 500 →
  Calls Try.prog 37 #[.slice a len cap] w fun e w' => e = .returned (.int .i64 (((norm (bts z)).length : Int) - 1)) ∧ Below w.heap.size w w'
def BAddC : Prop := ∀ (a c : Option Addr) (len cap len' cap' : Nat) (x y : List Int) (w : World), Row .u8 w a len cap x → Row .u8 w c len' cap' y → IsB x → IsB y → len ≤ 500 → len' ≤ 500 →
  Calls Try.prog 22 #[.slice a len cap, .slice c len' cap'] w (Gives w (nb (addL (bts x) (bts y))))
def BMulC : Prop := ∀ (a c : Option Addr) (len cap len' cap' : Nat) (x y : List Int) (w : World), Row .u8 w a len cap x → Row .u8 w c len' cap' y → IsB x → IsB y → len ≤ 500 → len' ≤ 500 →
  Calls Try.prog 34 #[.slice a len cap, .slice c len' cap'] w (Gives w (nb (mulL (bts x) (bts y))))
structure BModC : Prop where
  zero : ∀ (a c : Option Addr) (len cap len' cap' : Nat) (x y : List Int) (w : World), Row .u8 w a len cap x → Row .u8 w c len' cap' y → IsB x → IsB y → len ≤ 500 → len' ≤ 500 → norm (bts y) = [] →
    Calls Try.prog 33 #[.slice a len cap, .slice c len' cap'] w (GivesE w [] 20)
  yes : ∀ (a c : Option Addr) (len cap len' cap' : Nat) (x y : List Int) (w : World), Row .u8 w a len cap x → Row .u8 w c len' cap' y → IsB x → IsB y → len ≤ 500 → len' ≤ 500 → norm (bts y) ≠ [] →
    Calls Try.prog 33 #[.slice a len cap, .slice c len' cap'] w fun e w' => ∃ r, IsMod (bts x) (bts y) r ∧ GivesE w (nb r) 0 e w'
structure BValC : Prop where
  no : ∀ (a : Option Addr) (len cap : Nat) (z : List Int) (x : Int) (w : World), Row .u8 w a len cap z → IsB z → len ≤ 500 → isE x = false →
    Calls Try.prog 23 #[.slice a len cap, .int .i64 x] w fun e w' => e = .returned (.tuple #[.int .i64 0, .int .i64 1]) ∧ Below w.heap.size w w'
  yes : ∀ (a : Option Addr) (len cap : Nat) (z : List Int) (x : Nat) (w : World), Row .u8 w a len cap z → IsB z → len ≤ 500 → x < 8192 →
    Calls Try.prog 23 #[.slice a len cap, .int .i64 x] w fun e w' => e = .returned (.tuple #[.int .i64 (evl (bts z) x : Nat), .int .i64 0]) ∧ Below w.heap.size w w'
def BMinC : Prop := ∀ (n : Int) (w : World), -9223372036854775808 ≤ n → n ≤ 9223372036854775807 → Calls Try.prog 50 #[.int .i64 n] w (Gives w (pk (minp (gz 2 n))))
structure BGenC : Prop where
  no : ∀ (t : Int) (w : World), t < 1 ∨ 8 < t → -9223372036854775808 ≤ t → t ≤ 9223372036854775807 → Calls Try.prog 32 #[.int .i64 t] w (GivesE w [] 1)
  yes : ∀ (t : Nat) (w : World), 1 ≤ t → t ≤ 8 → Calls Try.prog 32 #[.int .i64 t] w (GivesE w (pk (genTo t)) 0)

theorem isB_all (z : List Int) (h : z.all (fun n => decide (0 ≤ n ∧ n ≤ 255)) = true) : IsB z := by
  intro n hn
  have := List.all_eq_true.1 h n hn
  simpa using this
theorem pow_two_ok (n : Int) : gz 2 n < 8192 ∧ gz 2 n ≠ 0 := ⟨gz_lt 2 n (by decide), gpow_ne_zero 2 _ (by decide) (by decide)⟩
theorem min_ok (n : Int) : IsMin (gz 2 n) (minp (gz 2 n)) := minp_is _ (pow_two_ok n).1 (pow_two_ok n).2
theorem bmul_ex : nb (mulL (bts [3]) (bts [3])) = [5] := by decide +kernel
theorem bmin_ex : pk (minp (gz 2 1)) = [27, 32] := by
  have e : gz 2 1 = 2 := by show gpow 2 1 = 2; decide +kernel
  rw [e, minp_two]
  decide +kernel
theorem bdeg_ex0 : norm (bts [0]) = [] := by decide +kernel
theorem bdeg_ex1 : (norm (bts [0, 1])).length = 9 := by decide +kernel
theorem gen_norm (t : Nat) : norm (bts (pk (genTo t))) = genTo t := by rw [norm_ext (bts_pk (is01_genTo t)), norm_genTo]
theorem bgen_ex : (norm (bts (pk (genTo 8)))).length = 105 := by rw [gen_norm, length_genTo 8 (by decide)]
theorem bgen_len (t : Nat) (h : t ≤ 8) : (pk (genTo t)).length ≤ 14 := by rw [length_pk, length_genTo t h]; omega
theorem str_ex5 : strOfNums [5] = ⟨#[5]⟩ := by rfl
theorem str_ex27 : strOfNums [27, 32] = ⟨#[27, 32]⟩ := by rfl
theorem nil_row (w : World) : Row .u8 w none 0 0 [] := ⟨rfl, Nat.le_refl _, Nat.zero_le _, fun _ => rfl, fun h => absurd h (by omega)⟩

end Go.Proofs.Ytjiaomkjebbkpab
