/-
  Package window: within, New, Take, Grow, Shift, Spend, Credit.
-/
import Derived.Test.YtendndokgpppiaaWMem
import Derived.BigQuiet
namespace Go.Proofs.Ytendndokgpppiaa.Wi
open Go.RowKit

theorem wwithin_ok (n a b : Int) (w : World) : Calls Try.prog 51 #[.int .i64 n, .int .i64 a, .int .i64 b] w fun e w' => e = .returned (.bool (decide (a ≤ n ∧ n ≤ b))) ∧ w = w' := by
  by_cases h : a ≤ n
  · have e : decide (a ≤ n ∧ n ≤ b) = decide (n ≤ b) := by simp [h]
    rw [e]
    go_enter Try.func51, Try.ntmps51
    go_wp2
    go_ret
    exact ⟨by simp, rfl⟩
  · have e : decide (a ≤ n ∧ n ≤ b) = false := by simp [h]
    rw [e]
    go_enter Try.func51, Try.ntmps51
    go_wp2
    go_ret
    exact ⟨rfl, rfl⟩
set_option maxRecDepth 100000 in
theorem wnew_ok (n : Int) (w : World) : Calls Try.prog 32 #[.int .i64 n] w fun e w' => e = .returned (pairW (newW n)) ∧ Keeps nobody w w' := by
  have HW := hid wwithin_ok
  by_cases h : 0 ≤ n ∧ n ≤ 2147483647
  · have e : newW n = (⟨n, n, 0⟩, true) := by simp [newW, h]
    have HV : Hid (decide (0 ≤ n ∧ n ≤ 2147483647) = true) := decide_eq_true h
    rw [e]
    clear e h
    go_enter Try.func32, Try.ntmps32
    go_wp2_with fail
    refine Calls.mono (HW.out _ _ _ _) ?_
    rintro e w1 ⟨rfl, rfl⟩
    rw [HV.out]
    go_wp2
    exact bodyPost_ret (v := pairW (⟨n, n, 0⟩, true)) (by simp [results, Try.results32, go_sem]) rfl ⟨rfl, (Keeps.refl _ _).alloc _⟩
  · have e : newW n = (⟨0, 0, 0⟩, false) := by simp [newW, h]
    have HV : Hid (decide (0 ≤ n ∧ n ≤ 2147483647) = false) := decide_eq_false h
    rw [e]
    clear e h
    go_enter Try.func32, Try.ntmps32
    go_wp2_with fail
    refine Calls.mono (HW.out _ _ _ _) ?_
    rintro e w1 ⟨rfl, rfl⟩
    rw [HV.out]
    go_wp2
    exact bodyPost_ret (v := pairW (⟨0, 0, 0⟩, false)) (by simp [results, Try.results32, go_sem]) rfl ⟨rfl, (Keeps.refl _ _).alloc _⟩
end Go.Proofs.Ytendndokgpppiaa.Wi
