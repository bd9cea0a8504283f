/-
  RetryMost, walked.
-/
import Derived.Test.YtekjnicgffeghaaDoorRAlive
namespace Go.Proofs.YtekjnicgffeghaaDoor
open Go.RowKit Go.Extern.Stop Go.Stop Go.Extern

theorem again_rg {m : ByteArray} {c : Int} {wr : Bool} {tries most : Int} (h : rgB c = true) : againB m c wr tries most = decide (tries < most) := by simp [againB, stands_rg h]
theorem again_last {m : ByteArray} {c : Int} {wr : Bool} {tries most : Int} (h : rgB c = false) (h2 : drB c = false) : againB m c wr tries most = false := by simp [againB, stands_none h h2]
set_option maxRecDepth 100000 in
theorem most_law (m : ByteArray) (wr : Bool) (tries most : Int) (a0 a1 : Addr) (w : World) (h : Sent w a0 a1) (hm : m.size ≤ 140737488355328) :
    Calls Tryd.prog 5 #[.string m, .bool wr, .int .i64 tries, .int .i64 most] w fun e w' => e = .returned (.bool true) ∧ Keeps nobody w w' := by
  have HA : Hid (Calls Tryd.prog 8 #[] w fun e w' => e = .returned (.bool true) ∧ Keeps nobody w w') := alive_ok a0 a1 w h
  by_cases hl : m.size ≤ 40
  · have HG : Hid (∀ c w1, Keeps nobody w w1 → Calls Tryd.prog 9 #[.string m, .int .i64 c, .bool wr, .int .i64 tries, .int .i64 most] w1 fun e w' => e = .returned (.bool (againB m c wr tries most)) ∧ w1 = w') := fun c w1 h1 => again_ok m c wr tries most a0 a1 w1 (h.quiet h1)
    have G1 : Hid (∀ w1, Keeps nobody w w1 → Calls Tryd.prog 9 #[.string m, .int .i64 15, .bool wr, .int .i64 tries, .int .i64 most] w1 fun e w' => e = .returned (.bool (decide (tries < most))) ∧ w1 = w') := fun w1 h1 => by have := HG.out 15 w1 h1; rwa [again_rg (by decide)] at this
    have G2 : Hid (∀ w1, Keeps nobody w w1 → Calls Tryd.prog 9 #[.string m, .int .i64 14, .bool wr, .int .i64 tries, .int .i64 most] w1 fun e w' => e = .returned (.bool (decide (tries < most))) ∧ w1 = w') := fun w1 h1 => by have := HG.out 14 w1 h1; rwa [again_rg (by decide)] at this
    have G3 : Hid (∀ w1, Keeps nobody w w1 → Calls Tryd.prog 9 #[.string m, .int .i64 11, .bool wr, .int .i64 tries, .int .i64 most] w1 fun e w' => e = .returned (.bool false) ∧ w1 = w') := fun w1 h1 => by have := HG.out 11 w1 h1; rwa [again_last (by decide) (by decide)] at this
    have G4 : Hid (∀ w1, Keeps nobody w w1 → Calls Tryd.prog 9 #[.string m, .int .i64 17, .bool wr, .int .i64 tries, .int .i64 most] w1 fun e w' => e = .returned (.bool false) ∧ w1 = w') := fun w1 h1 => by have := HG.out 17 w1 h1; rwa [again_last (by decide) (by decide)] at this
    clear h HG
    by_cases ht : tries < most
    · rw [decide_eq_true ht] at G1 G2
      go_enter Tryd.func5, Tryd.ntmps5
      go_wp2_with fail
      refine Calls.mono HA.out ?_
      rintro e w1 ⟨rfl, k1⟩
      go_wp2_with fail
      refine Calls.mono (G1.out _ k1) ?_
      rintro e w2 ⟨rfl, rfl⟩
      go_wp2_with fail
      refine Calls.mono (G2.out _ k1) ?_
      rintro e w2 ⟨rfl, rfl⟩
      go_wp2_with fail
      refine Calls.mono (G3.out _ k1) ?_
      rintro e w2 ⟨rfl, rfl⟩
      go_wp2_with fail
      refine Calls.mono (G4.out _ k1) ?_
      rintro e w2 ⟨rfl, rfl⟩
      go_wp2_with fail
      go_ret
      exact ⟨rfl, k1⟩
    · rw [decide_eq_false ht] at G1 G2
      go_enter Tryd.func5, Tryd.ntmps5
      go_wp2_with fail
      refine Calls.mono HA.out ?_
      rintro e w1 ⟨rfl, k1⟩
      go_wp2_with fail
      refine Calls.mono (G1.out _ k1) ?_
      rintro e w2 ⟨rfl, rfl⟩
      go_wp2_with fail
      refine Calls.mono (G2.out _ k1) ?_
      rintro e w2 ⟨rfl, rfl⟩
      go_wp2_with fail
      refine Calls.mono (G3.out _ k1) ?_
      rintro e w2 ⟨rfl, rfl⟩
      go_wp2_with fail
      refine Calls.mono (G4.out _ k1) ?_
      rintro e w2 ⟨rfl, rfl⟩
      go_wp2_with fail
      go_ret
      exact ⟨congrArg (fun b => Ending.returned (Value.bool b)) (show (!decide (tries < most)) = true by simp [ht]), k1⟩
  · clear h
    go_enter Tryd.func5, Tryd.ntmps5
    go_wp2_with fail
    refine Calls.mono HA.out ?_
    rintro e w1 ⟨rfl, k1⟩
    go_wp2_with fail
    go_ret
    exact ⟨rfl, k1⟩
theorem most_main (m : ByteArray) (wr : Bool) (tries most : Int) (w : World) (h : EnvS w) (hm : m.size ≤ 140737488355328) :
    Calls Tryd.prog 5 #[.string m, .bool wr, .int .i64 tries, .int .i64 most] w fun e w' => e = .returned (.bool true) ∧ Below w.heap.size w w' := by
  obtain ⟨a0, a1, h⟩ := h
  exact (most_law m wr tries most a0 a1 w h hm).mono fun e w' ⟨he, hk⟩ => ⟨he, below_of_keeps hk⟩
end Go.Proofs.YtekjnicgffeghaaDoor
