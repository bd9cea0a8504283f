/-
  Package prefs: within, number, refused, with, First.
-/
import Derived.Test.YtendndokgpppiaaZMem
import Derived.Test.YtendndokgpppiaaGBits
import Derived.BigQuiet
namespace Go.Proofs.Ytendndokgpppiaa.Pf
open Go.RowKit
attribute [local irreducible] numL nums str

theorem pwithin_ok (n a b : Int) (w : World) : Calls Try.prog 48 #[.int .i64 n, .int .i64 a, .int .i64 b] w fun e w' => e = .returned (.bool (decide (a ≤ n ∧ n ≤ b))) ∧ w = w' := by
  by_cases h : a ≤ n
  · have e : decide (a ≤ n ∧ n ≤ b) = decide (n ≤ b) := by simp [h]
    rw [e]
    go_enter Try.func48, Try.ntmps48
    go_wp2
    go_ret
    exact ⟨by simp, rfl⟩
  · have e : decide (a ≤ n ∧ n ≤ b) = false := by simp [h]
    rw [e]
    go_enter Try.func48, Try.ntmps48
    go_wp2
    go_ret
    exact ⟨rfl, rfl⟩
theorem pfirst_ok (w : World) : Calls Try.prog 33 #[] w fun e w' => e = .returned (psval firstP) ∧ Keeps nobody w w' := by
  go_enter Try.func33, Try.ntmps33
  go_wp2
  exact bodyPost_ret (v := psval firstP) (by simp [results, Try.results33, go_sem, firstP]) rfl ⟨rfl, (Keeps.refl _ _).alloc _⟩

end Go.Proofs.Ytendndokgpppiaa.Pf
