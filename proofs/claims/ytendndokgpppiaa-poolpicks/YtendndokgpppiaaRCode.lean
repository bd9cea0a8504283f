/-
  Package frame: the small functions: within, Right, number, unpad.
-/
import Derived.Test.YtendndokgpppiaaRSpec
import Derived.Test.YtendndokgpppiaaGBits
namespace Go.Proofs.Ytendndokgpppiaa.Fr
open Go.RowKit
attribute [local irreducible] numL byteAt endOf idOf nums str

theorem within_ok (n m : Int) (w : World) : Calls Try.prog 66 #[.int .i64 n, .int .i64 m] w fun e w' => e = .returned (.bool (decide (0 ≤ n ∧ n ≤ m))) ∧ w = w' := by
  by_cases h : 0 ≤ n
  · have e : decide (0 ≤ n ∧ n ≤ m) = decide (n ≤ m) := by simp [h]
    rw [e]
    go_enter Try.func66, Try.ntmps66
    go_wp2
    go_ret
    exact ⟨by simp, rfl⟩
  · have e : decide (0 ≤ n ∧ n ≤ m) = false := by simp [h]
    rw [e]
    go_enter Try.func66, Try.ntmps66
    go_wp2
    go_ret
    exact ⟨rfl, rfl⟩

end Go.Proofs.Ytendndokgpppiaa.Fr
