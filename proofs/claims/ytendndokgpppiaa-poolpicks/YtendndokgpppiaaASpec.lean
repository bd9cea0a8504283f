/-
  What package ids does, without the program: the first number, the last one that was given.
-/
import Derived.Test.YtendndokgpppiaaGBits
namespace Go.Proofs.Ytendndokgpppiaa.Id

structure Idd where
  first : Int
  last : Int
/-- Whether a stream may have that number. -/
def rightB (x : Int) : Bool := decide (1 ≤ x ∧ x ≤ 2147483647 ∧ x % 2 = 1)
/-- Behind Next; what it tells. -/
def nextI (x : Idd) : Idd × Int × Bool := if x.last ≤ 2147483645 then (⟨x.first, x.last + 2⟩, x.last + 2, true) else (x, 0, false)
def leftI (x : Idd) : Bool := decide (x.last ≤ 2147483645)
def kindI (x : Idd) (id : Int) : Int := if rightB id = true then (if x.first ≤ id ∧ id ≤ x.last then 1 else 2) else 0
/-- One that New made. -/
def newI (first : Int) : Idd := ⟨first, first - 2⟩
structure Fit (x : Idd) : Prop where
  first1 : 1 ≤ x.first
  firstM : x.first ≤ 2147483647
  last1 : -1 ≤ x.last
  lastM : x.last ≤ 2147483647
  odd : x.last % 2 = 1
theorem right_iff (x : Int) : rightB x = true ↔ 1 ≤ x ∧ x ≤ 2147483647 ∧ x % 2 = 1 := by simp [rightB]
theorem right_off (x : Int) : rightB x = false ↔ ¬ (1 ≤ x ∧ x ≤ 2147483647 ∧ x % 2 = 1) := by simp [rightB]
theorem new_fit {first : Int} (h : rightB first = true) : Fit (newI first) := by
  obtain ⟨h1, h2, h3⟩ := (right_iff first).1 h
  exact ⟨h1, h2, by show -1 ≤ first - 2; omega, by show first - 2 ≤ _; omega, by show (first - 2) % 2 = 1; omega⟩
theorem next_fit {x : Idd} (h : Fit x) : Fit (nextI x).1 := by
  obtain ⟨first, last⟩ := x
  obtain ⟨h1, h2, h3, h4, h5⟩ := h
  simp only at h1 h2 h3 h4 h5
  unfold nextI
  split
  · exact ⟨h1, h2, by show -1 ≤ last + 2; omega, by show last + 2 ≤ _; simp only at *; omega, by show (last + 2) % 2 = 1; omega⟩
  · exact ⟨h1, h2, h3, h4, h5⟩
/-- Of a number that is not below nothing. -/
theorem rem_two {x : Int} (h : 0 ≤ x) : x.tmod 2 = x % 2 := Int.tmod_eq_emod_of_nonneg h
theorem rem_even {x : Int} : (x.tmod 2 == 0) = decide (x % 2 = 0) := by
  by_cases h : x % 2 = 0
  · have : x.tmod 2 = 0 := Int.tmod_eq_zero_of_dvd (Int.dvd_of_emod_eq_zero h)
    simp [this, h]
  · have : x.tmod 2 ≠ 0 := fun e => h (Int.emod_eq_zero_of_dvd (Int.dvd_of_tmod_eq_zero e))
    simp [this, h]
end Go.Proofs.Ytendndokgpppiaa.Id
