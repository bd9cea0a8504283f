/-
  RetryFinal, walked.
-/
import Derived.Test.YtekjnicgffeghaaDoorRAlive
namespace Go.Proofs.YtekjnicgffeghaaDoor
open Go.RowKit Go.Extern.Stop Go.Stop Go.Extern

theorem final_again {m : ByteArray} {c : Int} {wr : Bool} {tries most : Int} (h : finalB c = true) : againB m c wr tries most = false := by
  simp only [finalB, Bool.not_eq_true', Bool.or_eq_false_iff] at h
  simp [againB, stands_none h.1 h.2]
set_option maxRecDepth 100000 in
theorem final_law (m : ByteArray) (c : Int) (wr : Bool) (tries most : Int) (a0 a1 : Addr) (w : World) (h : Sent w a0 a1) (hm : m.size ≤ 140737488355328) :
    Calls Tryd.prog 7 #[.string m, .int .i64 c, .bool wr, .int .i64 tries, .int .i64 most] w fun e w' => e = .returned (.bool true) ∧ Keeps nobody w w' := by
  have HA : Hid (Calls Tryd.prog 8 #[] w fun e w' => e = .returned (.bool true) ∧ Keeps nobody w w') := alive_ok a0 a1 w h
  by_cases hl : m.size ≤ 40
  · have HF : Hid (∀ w1, Keeps nobody w w1 → Calls Tryd.prog 11 #[.int .i64 c] w1 fun e w' => e = .returned (.bool (finalB c)) ∧ Keeps nobody w1 w') := fun w1 h1 => final_ok c a0 a1 w1 (h.quiet h1)
    have HG : Hid (∀ w1, Keeps nobody w w1 → Calls Tryd.prog 9 #[.string m, .int .i64 c, .bool wr, .int .i64 tries, .int .i64 most] w1 fun e w' => e = .returned (.bool (againB m c wr tries most)) ∧ w1 = w') := fun w1 h1 => again_ok m c wr tries most a0 a1 w1 (h.quiet h1)
    clear h
    cases hf : finalB c with
    | false =>
      rw [hf] at HF
      go_enter Tryd.func7, Tryd.ntmps7
      go_wp2_with fail
      refine Calls.mono HA.out ?_
      rintro e w1 ⟨rfl, k1⟩
      go_wp2_with fail
      refine Calls.mono (HF.out _ k1) ?_
      rintro e w2 ⟨rfl, k2⟩
      go_wp2_with fail
      go_ret
      exact ⟨rfl, k1.then k2⟩
    | true =>
      rw [hf] at HF
      rw [final_again hf] at HG
      go_enter Tryd.func7, Tryd.ntmps7
      go_wp2_with fail
      refine Calls.mono HA.out ?_
      rintro e w1 ⟨rfl, k1⟩
      go_wp2_with fail
      refine Calls.mono (HF.out _ k1) ?_
      rintro e w2 ⟨rfl, k2⟩
      go_wp2_with fail
      refine Calls.mono (HG.out _ (k1.then k2)) ?_
      rintro e w3 ⟨rfl, rfl⟩
      go_wp2_with fail
      go_ret
      exact ⟨rfl, k1.then k2⟩
  · clear h
    go_enter Tryd.func7, Tryd.ntmps7
    go_wp2_with fail
    refine Calls.mono HA.out ?_
    rintro e w1 ⟨rfl, k1⟩
    go_wp2_with fail
    go_ret
    exact ⟨rfl, k1⟩
theorem final_main (m : ByteArray) (c : Int) (wr : Bool) (tries most : Int) (w : World) (h : EnvS w) (hm : m.size ≤ 140737488355328) :
    Calls Tryd.prog 7 #[.string m, .int .i64 c, .bool wr, .int .i64 tries, .int .i64 most] w fun e w' => e = .returned (.bool true) ∧ Below w.heap.size w w' := by
  obtain ⟨a0, a1, h⟩ := h
  exact (final_law m c wr tries most a0 a1 w h hm).mono fun e w' ⟨he, hk⟩ => ⟨he, below_of_keeps hk⟩
end Go.Proofs.YtekjnicgffeghaaDoor
