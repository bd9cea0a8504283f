/-
  The law RuleCodes as a walk.
-/
import Derived.Test.YtdpbnlamdgdljaaUCheck
import Derived.Test.YtdpbnlamdgdljaaRBoundsW
namespace Go.Proofs.Ytdpbnlamdgdljaa
open Go.RowKit
attribute [local irreducible] checkA right stripA

theorem check_cases (f : Frm) : checkA f = (0, 0) ∨ checkA f = (1, 1) ∨ checkA f = (1, 11) ∨ checkA f = (6, 5) := by
  unfold checkA
  by_cases h : right f
  · rw [if_neg (fun g => g h)]
    by_cases p : placed f.kind f.id = false
    · rw [if_pos p]; simp
    · rw [if_neg p]
      by_cases z : sized f.kind (ackB f.flags) f.body.size = false
      · rw [if_pos z]; simp
      · rw [if_neg z]
        rcases stripE_cases f with e | e | e <;> rw [e] <;> simp [codeOf]
  · rw [if_pos h]; simp

end Go.Proofs.Ytdpbnlamdgdljaa
