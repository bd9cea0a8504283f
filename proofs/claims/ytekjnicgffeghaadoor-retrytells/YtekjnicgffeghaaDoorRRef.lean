/-
  The reference's Safe and Again.
-/
import Derived.Test.YtekjnicgffeghaaDoorRCode
namespace Go.Proofs.YtekjnicgffeghaaDoor
open Go.RowKit Go.Extern.Stop Go.Stop Go.Extern

theorem rsafe_ok (m : ByteArray) (w : World) : Calls Tryd.prog 23 #[.string m] w fun e w' => e = .returned (.bool (safeB m)) ∧ w = w' := by
  unfold safeB
  cases h1 : (m.toList == [71, 69, 84])
  · cases h2 : (m.toList == [72, 69, 65, 68])
    · cases h3 : (m.toList == [80, 85, 84])
      · cases h4 : (m.toList == [68, 69, 76, 69, 84, 69])
        · cases h5 : (m.toList == [79, 80, 84, 73, 79, 78, 83])
          · go_enter Tryd.func23, Tryd.ntmps23
            go_wp2
            go_ret
            exact ⟨rfl, rfl⟩
          · go_enter Tryd.func23, Tryd.ntmps23
            go_wp2
            go_ret
            exact ⟨rfl, rfl⟩
        · go_enter Tryd.func23, Tryd.ntmps23
          go_wp2
          go_ret
          exact ⟨rfl, rfl⟩
      · go_enter Tryd.func23, Tryd.ntmps23
        go_wp2
        go_ret
        exact ⟨rfl, rfl⟩
    · go_enter Tryd.func23, Tryd.ntmps23
      go_wp2
      go_ret
      exact ⟨rfl, rfl⟩
  · go_enter Tryd.func23, Tryd.ntmps23
    go_wp2
    go_ret
    exact ⟨rfl, rfl⟩
theorem ragain_ok (m : ByteArray) (c : Int) (wr : Bool) (tries most : Int) (w : World) :
    Calls Tryd.prog 10 #[.string m, .int .i64 c, .bool wr, .int .i64 tries, .int .i64 most] w fun e w' => e = .returned (.bool (againB m c wr tries most)) ∧ w = w' := by
  unfold againB
  by_cases ht : tries < most
  · rw [decide_eq_true ht, Bool.true_and]
    have ht' : ¬ most ≤ tries := by omega
    cases hr : rgB c with
    | true =>
      rw [stands_rg hr]
      simp only [rgB, Bool.or_eq_true, beq_iff_eq] at hr
      rcases hr with rfl | rfl
      all_goals
        go_enter Tryd.func10, Tryd.ntmps10
        go_wp2_with fail
        go_ret
        exact ⟨rfl, rfl⟩
    | false =>
      cases hd : drB c with
      | true =>
        rw [stands_dr hd]
        have hS := hid (rsafe_ok m w)
        simp only [drB, Bool.or_eq_true, beq_iff_eq] at hd
        generalize safeB m = s at *
        cases s <;> cases wr
        all_goals
          rcases hd with rfl | rfl | rfl | rfl
          all_goals
            go_enter Tryd.func10, Tryd.ntmps10
            go_wp2_with fail
            refine Calls.mono hS.out ?_
            rintro e w1 ⟨rfl, rfl⟩
            go_wp2_with fail
            go_ret
            exact ⟨rfl, rfl⟩
      | false =>
        rw [stands_none hr hd]
        simp only [rgB, drB, Bool.or_eq_false_iff] at hr hd
        obtain ⟨q1, q2⟩ := hr
        obtain ⟨q3, q4, q5, q6⟩ := hd
        go_enter Tryd.func10, Tryd.ntmps10
        go_wp2_with fail
        go_ret
        exact ⟨rfl, rfl⟩
  · rw [decide_eq_false ht, Bool.false_and]
    have ht' : most ≤ tries := by omega
    go_enter Tryd.func10, Tryd.ntmps10
    go_wp2_with fail
    go_ret
    exact ⟨rfl, rfl⟩
end Go.Proofs.YtekjnicgffeghaaDoor
