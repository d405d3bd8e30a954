/-
  Layer 22, plain: two slots, which of them is tried, and their bytes.
-/
import Derived.Test.YtagppgdigabbmaaNumPlain
import Derived.Test.YtagppgdigabbmaaBase
namespace Go.Proofs.Ytagppgdigabbmaa.N
open Go.RowKit
set_option linter.unusedVariables false
set_option maxRecDepth 8192

/-- A slot: its tries, whether it is good. -/
structure So where
  t : Int
  g : Bool
/-- Which is first, and what is known of both. -/
structure Sl where
  f : Int
  a : So
  b : So
def sl0 : Sl := ⟨0, ⟨0, false⟩, ⟨0, false⟩⟩
def Sl.two (s : Sl) (i : Int) : So := if i = 0 then s.a else s.b
def Sl.put (s : Sl) (i : Int) (o : So) : Sl := if i = 0 then { s with a := o } else { s with b := o }
/-- May its tries be? -/
def okSo (o : So) : Bool := decide (0 ≤ o.t ∧ o.t ≤ 7)
def is01 (i : Int) : Bool := decide (0 ≤ i ∧ i < 2)
def maySl (s : Sl) : Bool := is01 s.f && (okSo s.a && okSo s.b)
def cSl (s : Sl) : Int := if maySl s then 0 else 1
def triedSo (o : So) : Bool := o.g || decide (0 < o.t)
def bitSo (b : Bool) : Int := if b then 1 else 0
def bytesSl (s : Sl) : List Int := [115, 108, 111, 116, s.f, s.a.t, bitSo s.a.g, s.b.t, bitSo s.b.g]
/-- What nine bytes say, if they say what may be. -/
def readSl (x : List Int) : Sl := ⟨x[4]?.getD 0, ⟨x[5]?.getD 0, x[6]?.getD 0 != 0⟩, ⟨x[7]?.getD 0, x[8]?.getD 0 != 0⟩⟩
def isSl (x : List Int) : Bool := decide (x.length = 9) && (maySl (readSl x) && decide (bytesSl (readSl x) = x))
def orderSl (s : Sl) : List Int := (if triedSo (s.two s.f) then [s.f] else []) ++ (if triedSo (s.two (1 - s.f)) then [1 - s.f] else [])
/-- What Try, Confirm, Install answer. -/
def tryS (s : Sl) (i : Int) : Sl := if maySl s = true ∧ is01 i = true ∧ triedSo (s.two i) = true then (if (s.two i).g then s else s.put i ⟨(s.two i).t - 1, false⟩) else sl0
def tryC (s : Sl) (i : Int) : Int := if maySl s = true ∧ is01 i = true then (if triedSo (s.two i) then 0 else 240) else 1
def confS (s : Sl) (i : Int) : Sl := if maySl s = true ∧ is01 i = true then { s.put i ⟨0, true⟩ with f := i } else sl0
def confC (s : Sl) (i : Int) : Int := if maySl s = true ∧ is01 i = true then 0 else 1
def instS (s : Sl) (i : Int) : Sl := if maySl s = true ∧ is01 i = true ∧ i ≠ s.f then { s.put i ⟨7, false⟩ with f := i } else sl0
def instC (s : Sl) (i : Int) : Int := if maySl s = true ∧ is01 i = true ∧ i ≠ s.f then 0 else 1
theorem is01_of {i : Int} (h : is01 i = true) : i = 0 ∨ i = 1 := by
  have := of_decide_eq_true h
  omega
theorem okSo_of {o : So} (h : okSo o = true) : 0 ≤ o.t ∧ o.t ≤ 7 := of_decide_eq_true h
theorem maySl_of {s : Sl} (h : maySl s = true) : (s.f = 0 ∨ s.f = 1) ∧ (0 ≤ s.a.t ∧ s.a.t ≤ 7) ∧ 0 ≤ s.b.t ∧ s.b.t ≤ 7 := by
  simp only [maySl, Bool.and_eq_true] at h
  exact ⟨is01_of h.1, okSo_of h.2.1, okSo_of h.2.2⟩
theorem cSl_no {s : Sl} (h : maySl s = false) : cSl s = 1 := by simp [cSl, h]
theorem cSl_yes {s : Sl} (h : maySl s = true) : cSl s = 0 := by simp [cSl, h]
theorem bit_01 {b : Bool} {g : Int} (h : bitSo b = g) : g = 0 ∨ g = 1 := by subst h; cases b <;> simp [bitSo]
end Go.Proofs.Ytagppgdigabbmaa.N
