/-
  A slice of strings that came in.
-/
import Derived.SliceStrings
import Derived.ProofKit
import Derived.OpenShut
import Derived.Test.YtgamakejaknagaaGreatStoreLaw2
import Derived.Test.YtgamakejaknagaaGreatRows
namespace Go.Proofs.YtgamakejaknagaaGreat
open Go.RowKit Go.Maps Go.ChangeShapes
set_option linter.unusedVariables false
set_option maxRecDepth 8192

theorem cellsStr11 : Tryz.prog.cellsOf 9 = 1 := by kernel_rfl
theorem str_back (t : ByteArray) : strOfNums (t.data.toList.map fun x => (x.toNat : Int)) = t := by
  apply ByteArray.ext
  apply Array.toList_inj.1
  rw [strOfNums_data, List.map_map]
  conv => rhs; rw [← List.map_id t.data.toList]
  refine List.map_congr_left fun x _ => ?_
  simp
/-- Strings that came in. -/
theorem strs_of {H : Type} {enc : TypeId × Value → H} {w : World} {base : Nat} {held : Bool} {fuel : Nat} {a : Option Addr} {len cap : Nat} {x : DataW H × List MemPlace}
    (h : DataW.trod enc Tryz.prog w base (fun _ => true) held fuel 24 [.slice a len cap] = some x) : ∃ D, SRow w a len cap D := by
  rcases open_strings Tryz.underlying24 Tryz.underlying9 cellsStr11 h with ⟨hcs, _⟩ | ⟨ad, l, c, ss, hcs, hb, hl, hm, hz, _, hcell, hwz⟩
  · simp at hcs
    obtain ⟨rfl, rfl, rfl⟩ := hcs
    exact ⟨fun _ => [], ⟨Nat.le_refl _, Nat.zero_le _, fun h => absurd h (by omega), fun i => by intro z hz; simp at hz, fun i => Nat.zero_le _⟩⟩
  · simp at hcs
    obtain ⟨rfl, rfl, rfl⟩ := hcs
    simp only [if_true] at hz
    refine ⟨fun i => (ss.getD i ByteArray.empty).data.toList.map fun x => (x.toNat : Int), hl, hm, fun h0 => ?_, fun i => ?_, fun i => ?_⟩
    · have c0 := hcell 0 (by omega)
      obtain ⟨b, off, sp⟩ := ad
      have hsp' : sp = none := by simpa [Addr.add] using World.cell?_spot c0
      subst hsp'
      have hb' := lt_of_cell c0
      rw [plain_add] at hb'
      refine ⟨b, off, rfl, hb', fun i hi => ?_⟩
      have := hcell i (by omega)
      rw [plain_add] at this
      rw [str_back]
      exact this
    · intro z hz
      rw [List.mem_map] at hz
      obtain ⟨u, _, rfl⟩ := hz
      have := u.toNat_lt
      omega
    · rw [List.length_map]
      rcases Nat.lt_or_ge i ss.length with hi | hi
      · have := hwz (ss.getD i ByteArray.empty) (by simp [List.getD, hi])
        exact this
      · have e : ss.getD i ByteArray.empty = ByteArray.empty := by simp [List.getD, hi]
        rw [e]
        exact Nat.zero_le _
end Go.Proofs.YtgamakejaknagaaGreat
