/-
  Package frame: Right, unpad.
-/
import Derived.Test.YtendndokgpppiaaRCode
namespace Go.Proofs.Ytendndokgpppiaa.Fr
open Go.RowKit
attribute [local irreducible] numL byteAt endOf idOf nums str

theorem within_yes (n m : Int) (h : 0 ≤ n ∧ n ≤ m) (w : World) : Calls Try.prog 66 #[.int .i64 n, .int .i64 m] w fun e w' => e = .returned (.bool true) ∧ w = w' := by
  have := within_ok n m w
  rwa [decide_eq_true h] at this
theorem within_no (n m : Int) (h : ¬ (0 ≤ n ∧ n ≤ m)) (w : World) : Calls Try.prog 66 #[.int .i64 n, .int .i64 m] w fun e w' => e = .returned (.bool false) ∧ w = w' := by
  have := within_ok n m w
  rwa [decide_eq_false h] at this

set_option maxRecDepth 100000 in
theorem right_ok (f : Frm) (w : World) : Calls Try.prog 62 #[frval f] w fun e w' => e = .returned (.bool (decide (right f))) ∧ Keeps nobody w w' := by
  obtain ⟨k, fl, id, b⟩ := f
  by_cases h1 : 0 ≤ k ∧ k ≤ 255
  · have H1 : Hid (∀ w, Calls Try.prog 66 #[.int .i64 k, .int .i64 255] w fun e w' => e = .returned (.bool true) ∧ w = w') := within_yes _ _ h1
    by_cases h2 : 0 ≤ fl ∧ fl ≤ 255
    · have H2 : Hid (∀ w, Calls Try.prog 66 #[.int .i64 fl, .int .i64 255] w fun e w' => e = .returned (.bool true) ∧ w = w') := within_yes _ _ h2
      by_cases h3 : 0 ≤ id ∧ id ≤ 2147483647
      · have H3 : Hid (∀ w, Calls Try.prog 66 #[.int .i64 id, .int .i64 2147483647] w fun e w' => e = .returned (.bool true) ∧ w = w') := within_yes _ _ h3
        have e : decide (right ⟨k, fl, id, b⟩) = decide (b.size ≤ 16777215) := by simp [right, h1, h2, h3]
        rw [e]
        clear e h1 h2 h3
        go_enter Try.func62, Try.ntmps62
        go_wp2_with fail
        refine Calls.mono (H1.out _) ?_
        rintro e w1 ⟨rfl, rfl⟩
        go_wp2_with fail
        refine Calls.mono (H2.out _) ?_
        rintro e w1 ⟨rfl, rfl⟩
        go_wp2_with fail
        refine Calls.mono (H3.out _) ?_
        rintro e w1 ⟨rfl, rfl⟩
        go_wp2
        go_ret
        exact ⟨by simp; omega, keeps_alloc _ _⟩
      · have H3 : Hid (∀ w, Calls Try.prog 66 #[.int .i64 id, .int .i64 2147483647] w fun e w' => e = .returned (.bool false) ∧ w = w') := within_no _ _ h3
        have e : decide (right ⟨k, fl, id, b⟩) = false := by simp only [right]; exact decide_eq_false fun h => h3 h.2.2.1
        rw [e]
        clear e h1 h2 h3
        go_enter Try.func62, Try.ntmps62
        go_wp2_with fail
        refine Calls.mono (H1.out _) ?_
        rintro e w1 ⟨rfl, rfl⟩
        go_wp2_with fail
        refine Calls.mono (H2.out _) ?_
        rintro e w1 ⟨rfl, rfl⟩
        go_wp2_with fail
        refine Calls.mono (H3.out _) ?_
        rintro e w1 ⟨rfl, rfl⟩
        go_wp2
        go_ret
        exact ⟨rfl, keeps_alloc _ _⟩
    · have H2 : Hid (∀ w, Calls Try.prog 66 #[.int .i64 fl, .int .i64 255] w fun e w' => e = .returned (.bool false) ∧ w = w') := within_no _ _ h2
      have e : decide (right ⟨k, fl, id, b⟩) = false := by simp only [right]; exact decide_eq_false fun h => h2 h.2.1
      rw [e]
      clear e h1 h2
      go_enter Try.func62, Try.ntmps62
      go_wp2_with fail
      refine Calls.mono (H1.out _) ?_
      rintro e w1 ⟨rfl, rfl⟩
      go_wp2_with fail
      refine Calls.mono (H2.out _) ?_
      rintro e w1 ⟨rfl, rfl⟩
      go_wp2
      go_ret
      exact ⟨rfl, keeps_alloc _ _⟩
  · have H1 : Hid (∀ w, Calls Try.prog 66 #[.int .i64 k, .int .i64 255] w fun e w' => e = .returned (.bool false) ∧ w = w') := within_no _ _ h1
    have e : decide (right ⟨k, fl, id, b⟩) = false := by simp only [right]; exact decide_eq_false fun h => h1 h.1
    rw [e]
    clear e h1
    go_enter Try.func62, Try.ntmps62
    go_wp2_with fail
    refine Calls.mono (H1.out _) ?_
    rintro e w1 ⟨rfl, rfl⟩
    go_wp2
    go_ret
    exact ⟨rfl, keeps_alloc _ _⟩

def unpadV (o : Option ByteArray) : Value := .tuple #[.string (o.getD ⟨#[]⟩), .bool o.isSome]
end Go.Proofs.Ytendndokgpppiaa.Fr
