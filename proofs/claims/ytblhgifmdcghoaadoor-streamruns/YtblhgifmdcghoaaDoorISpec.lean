/-
  Streams' states, as the program has them; no program in it.
-/
import Derived.Test.YtblhgifmdcghoaaDoorGDoor
namespace Go.Proofs.YtblhgifmdcghoaaDoor
open Go.RowKit

/-- What a side has to say; what is asked of a state. -/
def carryB (k : Int) : Bool := k == 0 || k == 1
def moveB (k : Int) : Bool := carryB k || k == 3 || k == 8 || k == 2
def stateB (s : Int) : Bool := decide (0 ≤ s) && decide (s ≤ 4)
/-- Behind a frame that may be. -/
def behindA (s k : Int) (e : Bool) (side : Int) : Int :=
  if k = 3 then 4 else if carryB k = false ∨ e = false then s else if s = 1 then side else 4
def sentA (s k : Int) (e : Bool) : Int × Int :=
  if stateB s = false ∨ moveB k = false then (s, 1) else
  if k = 2 then (s, 0) else
  if s = 0 then (if k = 1 then (behindA 1 k e 2, 0) else (0, 8)) else
  if s = 2 then (if carryB k then (2, 8) else (behindA 2 k e 2, 0)) else
  if s = 4 then (4, 12) else (behindA s k e 2, 0)
def gotA (s k : Int) (e : Bool) : Int × Int :=
  if stateB s = false ∨ moveB k = false then (s, 1) else
  if k = 2 then (s, 0) else
  if s = 0 then (0, 11) else
  if s = 4 ∨ s = 3 then (if carryB k then (s, 12) else (behindA s k e 3, 0)) else (behindA s k e 3, 0)
abbrev movedV (p : Int × Int) : Value := .tuple #[.int .i64 p.1, .int .i64 p.2]
def writesB (s : Int) : Bool := s == 1 || s == 3
def readsB (s : Int) : Bool := s == 1 || s == 2
theorem state_of {s : Int} (h0 : 0 ≤ s) (h1 : s ≤ 4) : stateB s = true := by simp [stateB, h0, h1]
theorem states_five {s : Int} (h : stateB s = true) : s = 0 ∨ s = 1 ∨ s = 2 ∨ s = 3 ∨ s = 4 := by
  simp [stateB] at h
  omega
theorem moves_five {k : Int} (h : moveB k = true) : k = 0 ∨ k = 1 ∨ k = 2 ∨ k = 3 ∨ k = 8 := by
  simp [moveB, carryB] at h
  omega
/-- The states' names. -/
def stateL : List ByteArray := [⟨#[105, 100, 108, 101]⟩, ⟨#[111, 112, 101, 110]⟩, ⟨#[108, 111, 99, 97, 108]⟩, ⟨#[114, 101, 109, 111, 116, 101]⟩, ⟨#[99, 108, 111, 115, 101, 100]⟩]
theorem stateL_length : stateL.length = 5 := rfl
def stateA (s : Int) : ByteArray := if 0 ≤ s ∧ s ≤ 4 then stateL.getD s.toNat ⟨#[]⟩ else ⟨#[]⟩
end Go.Proofs.YtblhgifmdcghoaaDoor
