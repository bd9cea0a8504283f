/-
  Package ping: Tick, Got.
-/
import Derived.Test.YtendndokgpppiaaOMem
namespace Go.Proofs.Ytendndokgpppiaa.Pi
open Go.RowKit
attribute [local irreducible] nums str bodyB

/-- One less, but not below nothing. -/
theorem max_less (n : Nat) (ts : Array TypeId) (t : TypeId) (W : World) : (Builtin.max_ ts t #[.int .i64 ((n : Int) - 1), .int .i64 0]).run Try.prog W = .ok (.int .i64 ((n - 1 : Nat) : Int)) W := by
  rw [run_max_int2]
  rw [show (if 0 > (n : Int) - 1 then (0 : Int) else (n : Int) - 1) = ((n - 1 : Nat) : Int) by split <;> omega]
set_option maxRecDepth 100000 in
set_option maxHeartbeats 1000000 in
theorem tick_ok {w : World} {g : Nat} {h : He} (H : Hl w g h) (F : Fit h) : Calls Try.prog 46 #[.pointer (some ⟨g, 0, none⟩)] w fun e w' => e = .returned (.tuple #[.string (tickH h).2.1, .bool (tickH h).2.2]) ∧ Did (heT g h) (heT g (tickH h).1) w w' := by
  have HM : Hid (Calls Try.prog 58 #[.pointer (some ⟨g, 0, none⟩)] w fun e w' => e = .returned (.bool true) ∧ w = w') := made_ok H F.every1
  obtain ⟨c0, c1, c2, c3, c4, cf⟩ := H.cells
  have hD := did_rec (T := 92) H
  obtain ⟨every, wait, left, sent, waits⟩ := h
  obtain ⟨f0, f1, f2, f3, f4⟩ := F
  simp only at c0 c1 c2 c3 c4 f0 f1 f2 f3 f4
  have hmax := max_less left
  by_cases h1 : 0 < left - 1
  · have e : tickH ⟨every, wait, left, sent, waits⟩ = (⟨every, wait, left - 1, sent, waits⟩, ⟨#[]⟩, false) := by simp [tickH, h1]
    rw [e]
    have HD : Hid (Did (heT g ⟨every, wait, left, sent, waits⟩) (heT g ⟨every, wait, left - 1, sent, waits⟩) w (w.setCell ⟨g, 2, none⟩ (.int .i64 ((left - 1 : Nat) : Int)))) := hD.set 2 _
    have hl : left - 1 ≤ 9223372036854775807 := by omega
    clear H e hD
    generalize left - 1 = q at *
    go_enter Try.func46, Try.ntmps46
    go_wp2_with fail
    refine Calls.mono HM.out ?_
    rintro e w1 ⟨rfl, rfl⟩
    go_wp2
    exact bodyPost_ret (v := .tuple #[.string ⟨#[]⟩, .bool false]) (by simp [results, Try.results46, go_sem]) rfl ⟨rfl, HD.out⟩
  · have h0 : left - 1 = 0 := by omega
    rw [h0] at hmax
    cases waits with
    | true =>
      have e : tickH ⟨every, wait, left, sent, true⟩ = (⟨every, wait, 0, sent, true⟩, ⟨#[]⟩, true) := by simp [tickH, h1]
      rw [e]
      have HD : Hid (Did (heT g ⟨every, wait, left, sent, true⟩) (heT g ⟨every, wait, 0, sent, true⟩) w (w.setCell ⟨g, 2, none⟩ (.int .i64 0))) := hD.set 2 _
      clear H e hD h1 h0
      go_enter Try.func46, Try.ntmps46
      go_wp2_with fail
      refine Calls.mono HM.out ?_
      rintro e w1 ⟨rfl, rfl⟩
      go_wp2
      exact bodyPost_ret (v := .tuple #[.string ⟨#[]⟩, .bool true]) (by simp [results, Try.results46, go_sem]) rfl ⟨rfl, HD.out⟩
    | false =>
      have e : tickH ⟨every, wait, left, sent, false⟩ = (⟨every, wait, wait, sent + 1, true⟩, bodyB (sent + 1), false) := by simp [tickH, h1]
      rw [e]
      have HB : Hid (∀ W, Calls Try.prog 59 #[.int .i64 ((sent : Int) + 1)] W fun e w' => e = .returned (.string (bodyB (sent + 1))) ∧ Keeps nobody W w') := fun W => by
        have := body_ok (sent + 1) W (by omega)
        unfold bodyB
        simpa using this
      have HD : Hid (Did (heT g ⟨every, wait, left, sent, false⟩) (heT g ⟨every, wait, wait, sent + 1, true⟩) w ((((w.setCell ⟨g, 2, none⟩ (.int .i64 0)).setCell ⟨g, 2, none⟩ (.int .i64 (wait : Int))).setCell ⟨g, 4, none⟩ (.bool true)).setCell ⟨g, 3, none⟩ (.int .i64 ((sent : Int) + 1)))) := by
        have := (((hD.set 2 (.int .i64 0)).set 2 (.int .i64 (wait : Int))).set 4 (.bool true)).set 3 (.int .i64 ((sent : Int) + 1))
        exact this
      clear H e hD h1 h0
      generalize bodyB (sent + 1) = B at *
      go_enter Try.func46, Try.ntmps46
      go_wp2_with fail
      refine Calls.mono HM.out ?_
      rintro e w1 ⟨rfl, rfl⟩
      go_wp2_with fail
      refine Calls.mono (HB.out _) ?_
      rintro e w1 ⟨rfl, k1⟩
      go_wp2
      exact bodyPost_ret (v := .tuple #[.string B, .bool false]) (by simp [results, Try.results46, go_sem]) rfl ⟨rfl, HD.out.then k1⟩
end Go.Proofs.Ytendndokgpppiaa.Pi
