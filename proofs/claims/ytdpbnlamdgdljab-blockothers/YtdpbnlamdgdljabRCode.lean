/-
  Package frame: the small functions: within, Right, number, unpad.
-/
import Derived.Test.YtdpbnlamdgdljabRSpec
import Derived.Test.YtdpbnlamdgdljabGBits
namespace Go.Proofs.Ytdpbnlamdgdljab
open Go.RowKit
attribute [local irreducible] numL byteAt endOf idOf nums str

theorem within_ok (n m : Int) (w : World) : Calls Try.prog 23 #[.int .i64 n, .int .i64 m] w fun e w' => e = .returned (.bool (decide (0 ≤ n ∧ n ≤ m))) ∧ w = w' := by
  by_cases h : 0 ≤ n
  · have e : decide (0 ≤ n ∧ n ≤ m) = decide (n ≤ m) := by simp [h]
    rw [e]
    go_enter Try.func23, Try.ntmps23
    go_wp2
    go_ret
    exact ⟨by simp, rfl⟩
  · have e : decide (0 ≤ n ∧ n ≤ m) = false := by simp [h]
    rw [e]
    go_enter Try.func23, Try.ntmps23
    go_wp2
    go_ret
    exact ⟨rfl, rfl⟩

end Go.Proofs.Ytdpbnlamdgdljab
