/-
  RetryOnce, walked.
-/
import Derived.Test.YtekjnicgffeghaaDoorRAlive
namespace Go.Proofs.YtekjnicgffeghaaDoor
open Go.RowKit Go.Extern.Stop Go.Stop Go.Extern

/-- The ways that the law can go: what is asked, and what came of it. -/
def Ways (c15 c14 F A B R lt : Bool) : Prop :=
  (A = true → lt = true ∧ B = true ∧ F = false ∧ (c15 = true ∨ c14 = true ∨ R = true)) ∧ (B = true → lt = true ∧ F = false) ∧ (F = false → lt = true → B = true)
theorem ways (m : ByteArray) (c : Int) (tries most : Int) :
    Ways (c == 15) (c == 14) (finalB c) (againB m c true tries most) (againB m c false tries most) (againB m 16 true tries most) (decide (tries < most)) := by
  unfold Ways
  by_cases ht : tries < most
  · cases hr : rgB c
    · cases hd : drB c
      · simp [againB, stands_none hr hd, finalB, hr, hd, ht]
      · have h16 : drB 16 = true := by decide
        simp [againB, stands_dr hd, stands_dr h16, finalB, hr, hd, ht]
        exact fun h => .inr (.inr h)
    · have h2 : c = 15 ∨ c = 14 := by simpa [rgB] using hr
      simp [againB, stands_rg hr, finalB, hr, ht]
      rcases h2 with h | h <;> simp [h]
  · simp [againB, ht]
set_option maxRecDepth 100000 in
set_option maxHeartbeats 2000000 in
theorem once_law (m : ByteArray) (c : Int) (tries most : Int) (a0 a1 : Addr) (w : World) (h : Sent w a0 a1) (hm : m.size ≤ 140737488355328) :
    Calls Tryd.prog 4 #[.string m, .int .i64 c, .int .i64 tries, .int .i64 most] w fun e w' => e = .returned (.bool true) ∧ Keeps nobody w w' := by
  have HA : Hid (Calls Tryd.prog 8 #[] w fun e w' => e = .returned (.bool true) ∧ Keeps nobody w w') := alive_ok a0 a1 w h
  by_cases hl : m.size ≤ 40
  · have HF : Hid (∀ w1, Keeps nobody w w1 → Calls Tryd.prog 11 #[.int .i64 c] w1 fun e w' => e = .returned (.bool (finalB c)) ∧ Keeps nobody w1 w') := fun w1 h1 => final_ok c a0 a1 w1 (h.quiet h1)
    have H1 : Hid (∀ w1, Keeps nobody w w1 → Calls Tryd.prog 9 #[.string m, .int .i64 c, .bool true, .int .i64 tries, .int .i64 most] w1 fun e w' => e = .returned (.bool (againB m c true tries most)) ∧ w1 = w') := fun w1 h1 => again_ok m c true tries most a0 a1 w1 (h.quiet h1)
    have H2 : Hid (∀ w1, Keeps nobody w w1 → Calls Tryd.prog 9 #[.string m, .int .i64 c, .bool false, .int .i64 tries, .int .i64 most] w1 fun e w' => e = .returned (.bool (againB m c false tries most)) ∧ w1 = w') := fun w1 h1 => again_ok m c false tries most a0 a1 w1 (h.quiet h1)
    have H3 : Hid (∀ w1, Keeps nobody w w1 → Calls Tryd.prog 9 #[.string m, .int .i64 16, .bool true, .int .i64 tries, .int .i64 most] w1 fun e w' => e = .returned (.bool (againB m 16 true tries most)) ∧ w1 = w') := fun w1 h1 => again_ok m 16 true tries most a0 a1 w1 (h.quiet h1)
    have hW := ways m c tries most
    clear h
    generalize againB m c true tries most = A at *
    generalize againB m c false tries most = B at *
    generalize againB m 16 true tries most = R at *
    generalize finalB c = Fi at *
    cases q1 : (c == 15) <;> cases q2 : (c == 14) <;> rw [q1, q2] at hW
    all_goals
      by_cases ht : tries < most
      all_goals
        first | rw [decide_eq_true ht] at hW | rw [decide_eq_false ht] at hW
        cases A <;> cases B <;> cases Fi <;> cases R
        all_goals first
          | (exfalso; simp [Ways] at hW; done)
          | (clear hW
             go_enter Tryd.func4, Tryd.ntmps4
             go_wp2_with fail
             refine Calls.mono HA.out ?_
             rintro e w1 ⟨rfl, k1⟩
             go_wp2_with fail
             refine Calls.mono (H1.out _ k1) ?_
             rintro e w2 ⟨rfl, rfl⟩
             go_wp2_with fail
             refine Calls.mono (H2.out _ k1) ?_
             rintro e w2 ⟨rfl, rfl⟩
             go_wp2_with fail
             first
               | (refine Calls.mono (H3.out _ k1) ?_
                  rintro e w2 ⟨rfl, rfl⟩
                  go_wp2_with fail
                  refine Calls.mono (HF.out _ k1) ?_
                  rintro e w2 ⟨rfl, k2⟩
                  go_wp2_with fail
                  refine Calls.mono (HF.out _ (k1.then k2)) ?_
                  rintro e w3 ⟨rfl, k3⟩
                  go_wp2_with fail
                  go_ret
                  exact ⟨rfl, (k1.then k2).then k3⟩)
               | (refine Calls.mono (HF.out _ k1) ?_
                  rintro e w2 ⟨rfl, k2⟩
                  go_wp2_with fail
                  refine Calls.mono (HF.out _ (k1.then k2)) ?_
                  rintro e w3 ⟨rfl, k3⟩
                  go_wp2_with fail
                  go_ret
                  exact ⟨rfl, (k1.then k2).then k3⟩))
  · clear h
    go_enter Tryd.func4, Tryd.ntmps4
    go_wp2_with fail
    refine Calls.mono HA.out ?_
    rintro e w1 ⟨rfl, k1⟩
    go_wp2_with fail
    go_ret
    exact ⟨rfl, k1⟩
theorem once_main (m : ByteArray) (c : Int) (tries most : Int) (w : World) (h : EnvS w) (hm : m.size ≤ 140737488355328) :
    Calls Tryd.prog 4 #[.string m, .int .i64 c, .int .i64 tries, .int .i64 most] w fun e w' => e = .returned (.bool true) ∧ Below w.heap.size w w' := by
  obtain ⟨a0, a1, h⟩ := h
  exact (once_law m c tries most a0 a1 w h hm).mono fun e w' ⟨he, hk⟩ => ⟨he, below_of_keeps hk⟩
end Go.Proofs.YtekjnicgffeghaaDoor
