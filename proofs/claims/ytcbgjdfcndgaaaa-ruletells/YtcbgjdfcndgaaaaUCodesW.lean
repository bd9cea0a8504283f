/-
  The law RuleCodes as a walk.
-/
import Derived.Test.YtcbgjdfcndgaaaaUCheck
import Derived.Test.YtcbgjdfcndgaaaaRBoundsW
namespace Go.Proofs.Ytcbgjdfcndgaaaa
open Go.RowKit
attribute [local irreducible] checkA right stripA

theorem check_cases (f : Frm) : checkA f = (0, 0) ∨ checkA f = (1, 1) ∨ checkA f = (1, 11) ∨ checkA f = (6, 5) := by
  unfold checkA
  by_cases h : right f
  · rw [if_neg (fun g => g h)]
    by_cases p : placed f.kind f.id = false
    · rw [if_pos p]; simp
    · rw [if_neg p]
      by_cases z : sized f.kind (ackB f.flags) f.body.size = false
      · rw [if_pos z]; simp
      · rw [if_neg z]
        rcases stripE_cases f with e | e | e <;> rw [e] <;> simp [codeOf]
  · rw [if_pos h]; simp

theorem codes_off (k fl id : Int) (b : ByteArray) (W : World) (HA : Hid (∀ w, Calls Try.prog 9 #[] w fun e w' => e = .returned (.bool true) ∧ Keeps nobody w w')) (h : 1000 < b.size) : Calls Try.prog 7 #[.agg #[.int .i64 k, .int .i64 fl, .int .i64 id, .string b]] W (Fine W) := by
  have hk := keeps_alloc W (frobj k fl id b)
  go_enter Try.func7, Try.ntmps7
  go_wp2_with fail
  refine Calls.mono (HA.out _) ?_
  rintro e w1 ⟨rfl, k1⟩
  go_wp2
  go_ret
  exact ⟨rfl, below_of_keeps (hk.then k1)⟩
set_option maxRecDepth 100000 in
theorem codes_true (f : Frm) (W : World) (_ : f.body.size ≤ 140737488355328) : Calls Try.prog 7 #[frval f] W (Fine W) := by
  have HA : Hid (∀ w, Calls Try.prog 9 #[] w fun e w' => e = .returned (.bool true) ∧ Keeps nobody w w') := fun w => alive_ok w
  by_cases hs : f.body.size ≤ 1000
  · have HC : Hid (∀ w, Calls Try.prog 10 #[frval f] w fun e w' => e = .returned (checkV (checkA f)) ∧ Keeps nobody w w') := fun w => check_ok f w (by omega)
    have hc := check_cases f
    obtain ⟨k, fl, id, b⟩ := f
    simp only at hs
    have hk := keeps_alloc W (frobj k fl id b)
    rcases hc with hc | hc | hc | hc
    all_goals
      rw [hc] at HC
      clear hc
      go_enter Try.func7, Try.ntmps7
      go_wp2_with fail
      refine Calls.mono (HA.out _) ?_
      rintro e w1 ⟨rfl, k1⟩
      obtain ⟨d0, d1, d2, d3⟩ := k1.four
      have K1 := hk.then k1
      clear hk k1 HA
      go_wp2_with fail
      refine Calls.mono (HC.out _) ?_
      rintro e w2 ⟨rfl, k2⟩
      have K2 := K1.then k2
      clear d0 d1 d2 d3 K1 k2 HC
      go_wp2
      go_ret
      exact ⟨rfl, below_of_keeps K2⟩
  · obtain ⟨k, fl, id, b⟩ := f
    exact codes_off k fl id b W HA (by simp only at hs; omega)
end Go.Proofs.Ytcbgjdfcndgaaaa
