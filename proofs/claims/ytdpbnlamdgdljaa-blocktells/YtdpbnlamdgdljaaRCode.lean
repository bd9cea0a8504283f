/-
  Package frame: the small functions: within, Right, number, unpad.
-/
import Derived.Test.YtdpbnlamdgdljaaRSpec
import Derived.Test.YtdpbnlamdgdljaaGBits
namespace Go.Proofs.Ytdpbnlamdgdljaa
open Go.RowKit
attribute [local irreducible] numL byteAt endOf idOf nums str

theorem within_ok (n m : Int) (w : World) : Calls Try.prog 65 #[.int .i64 n, .int .i64 m] w fun e w' => e = .returned (.bool (decide (0 ≤ n ∧ n ≤ m))) ∧ w = w' := by
  by_cases h : 0 ≤ n
  · have e : decide (0 ≤ n ∧ n ≤ m) = decide (n ≤ m) := by simp [h]
    rw [e]
    go_enter Try.func65, Try.ntmps65
    go_wp2
    go_ret
    exact ⟨by simp, rfl⟩
  · have e : decide (0 ≤ n ∧ n ≤ m) = false := by simp [h]
    rw [e]
    go_enter Try.func65, Try.ntmps65
    go_wp2
    go_ret
    exact ⟨rfl, rfl⟩

end Go.Proofs.Ytdpbnlamdgdljaa
