/-
  Windows as numbers: what each call answers. (No program.)
-/
import Derived.Test.YtendndokgpppiaaGBits
namespace Go.Proofs.Ytendndokgpppiaa.Wi

/-- A window: what is left, its size, what is owed. -/
structure Wd where
  left : Int
  size : Int
  owed : Int
abbrev wval (s : Wd) : Value := .agg #[.int .i64 s.left, .int .i64 s.size, .int .i64 s.owed]
abbrev pairW (p : Wd × Bool) : Value := .tuple #[wval p.1, .bool p.2]
abbrev toldW (p : Wd × Int) : Value := .tuple #[wval p.1, .int .i64 p.2]
def newW (n : Int) : Wd × Bool := if 0 ≤ n ∧ n ≤ 2147483647 then (⟨n, n, 0⟩, true) else (⟨0, 0, 0⟩, false)
def takeW (s : Wd) (n : Int) : Wd × Bool := if 0 ≤ n ∧ n ≤ s.left then (⟨s.left - n, s.size, s.owed⟩, true) else (s, false)
def growW (s : Wd) (n : Int) : Wd × Bool := if (1 ≤ n ∧ n ≤ 2147483647) ∧ s.left ≤ 2147483647 - n then (⟨s.left + n, s.size, s.owed⟩, true) else (s, false)
def shiftW (s : Wd) (n : Int) : Wd × Bool := if (0 ≤ s.size + n ∧ s.size + n ≤ 2147483647) ∧ s.left + n ≤ 2147483647 then (⟨s.left + n, s.size + n, s.owed⟩, true) else (s, false)
def halfW (n : Int) : Int := max (n / 2) 1
def owedW (s : Wd) (n : Int) : Int := s.owed + max n 0
def creditW (s : Wd) (n : Int) : Wd × Int := if owedW s n < halfW s.size then (⟨s.left, s.size, owedW s n⟩, 0) else (⟨s.left + owedW s n, s.size, 0⟩, owedW s n)
theorem newW_yes {n : Int} (h : 0 ≤ n ∧ n ≤ 2147483647) : newW n = (⟨n, n, 0⟩, true) := if_pos h
theorem newW_no {n : Int} (h : ¬ (0 ≤ n ∧ n ≤ 2147483647)) : newW n = (⟨0, 0, 0⟩, false) := if_neg h
theorem takeW_yes {s : Wd} {n : Int} (h : 0 ≤ n ∧ n ≤ s.left) : takeW s n = (⟨s.left - n, s.size, s.owed⟩, true) := if_pos h
theorem takeW_no {s : Wd} {n : Int} (h : ¬ (0 ≤ n ∧ n ≤ s.left)) : takeW s n = (s, false) := if_neg h
theorem growW_yes {s : Wd} {n : Int} (h : (1 ≤ n ∧ n ≤ 2147483647) ∧ s.left ≤ 2147483647 - n) : growW s n = (⟨s.left + n, s.size, s.owed⟩, true) := if_pos h
theorem growW_no {s : Wd} {n : Int} (h : ¬ ((1 ≤ n ∧ n ≤ 2147483647) ∧ s.left ≤ 2147483647 - n)) : growW s n = (s, false) := if_neg h
theorem shiftW_yes {s : Wd} {n : Int} (h : (0 ≤ s.size + n ∧ s.size + n ≤ 2147483647) ∧ s.left + n ≤ 2147483647) : shiftW s n = (⟨s.left + n, s.size + n, s.owed⟩, true) := if_pos h
theorem creditW_no {s : Wd} {n : Int} (h : owedW s n < halfW s.size) : creditW s n = (⟨s.left, s.size, owedW s n⟩, 0) := if_pos h
theorem creditW_yes {s : Wd} {n : Int} (h : ¬ owedW s n < halfW s.size) : creditW s n = (⟨s.left + owedW s n, s.size, 0⟩, owedW s n) := if_neg h
/-- Numbers with which nothing goes beyond an int. -/
structure Small (s : Wd) : Prop where
  l0 : -(1152921504606846976 : Int) ≤ s.left
  l1 : s.left ≤ 1152921504606846976
  s0 : (0 : Int) ≤ s.size
  s1 : s.size ≤ 2147483647
  o0 : (0 : Int) ≤ s.owed
  o1 : s.owed ≤ 1152921504606846976
end Go.Proofs.Ytendndokgpppiaa.Wi
