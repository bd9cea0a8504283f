/-
  The law PrefsLast, walked.
-/
import Derived.Test.YtkjdklcmaomjnaaZPushW
namespace Go.Proofs.Ytkjdklcmaomjnaa
open Go.RowKit
attribute [local irreducible] numL nums str sixes putP getP applyG

set_option maxRecDepth 100000 in
set_option maxHeartbeats 2000000 in
theorem last_walk (a b o : Int) (w : World) : Calls Try.prog 5 #[.int .i64 a, .int .i64 b, .int .i64 o] w (Fine w) := by
  have HL := hid alive_ok
  have HF := hid first_lit
  by_cases h1 : a < 0
  · go_enter Try.func5, Try.ntmps5
    go_wp2_with fail
    refine Calls.mono (HL.out _) ?_
    rintro e w1 ⟨rfl, k1⟩
    go_wp2
    go_ret
    exact ⟨rfl, below_of_keeps k1⟩
  by_cases h2 : b < 0
  · go_enter Try.func5, Try.ntmps5
    go_wp2_with fail
    refine Calls.mono (HL.out _) ?_
    rintro e w1 ⟨rfl, k1⟩
    go_wp2
    go_ret
    exact ⟨rfl, below_of_keeps k1⟩
  by_cases h3 : a > 2147483647
  · go_enter Try.func5, Try.ntmps5
    go_wp2_with fail
    refine Calls.mono (HL.out _) ?_
    rintro e w1 ⟨rfl, k1⟩
    go_wp2
    go_ret
    exact ⟨rfl, below_of_keeps k1⟩
  by_cases h4 : b > 2147483647
  · go_enter Try.func5, Try.ntmps5
    go_wp2_with fail
    refine Calls.mono (HL.out _) ?_
    rintro e w1 ⟨rfl, k1⟩
    go_wp2
    go_ret
    exact ⟨rfl, below_of_keeps k1⟩
  by_cases h5 : 1 ≤ o ∧ o ≤ 6
  · obtain ⟨h5, h6⟩ := h5
    go_enter Try.func5, Try.ntmps5
    go_wp2_with fail
    refine Calls.mono (HL.out _) ?_
    rintro e w1 ⟨rfl, k1⟩
    go_wp2
    go_ret
    exact ⟨rfl, below_of_keeps k1⟩
  have e1 : applyG firstP firstP [(4, a), (o, 7), (4, b)] = (⟨128, 6, b, 64, 600⟩, 0, 0) := by
    have g1 : o ≠ 1 := by omega
    have g2 : o ≠ 2 := by omega
    have g3 : o ≠ 3 := by omega
    have g4 : o ≠ 4 := by omega
    have g5 : o ≠ 5 := by omega
    have g6 : o ≠ 6 := by omega
    have ha : a ≤ 2147483647 := by omega
    have hb : b ≤ 2147483647 := by omega
    simp [applyG_cons, applyG_nil, refE, withP, firstP, g1, g2, g3, g4, g5, g6, ha, hb]
  have e2 : applyG firstP firstP [(o, 7)] = (⟨128, 6, 100, 64, 600⟩, 0, 0) := by
    have g1 : o ≠ 1 := by omega
    have g2 : o ≠ 2 := by omega
    have g3 : o ≠ 3 := by omega
    have g4 : o ≠ 4 := by omega
    have g5 : o ≠ 5 := by omega
    have g6 : o ≠ 6 := by omega
    simp [applyG_cons, applyG_nil, refE, withP, firstP, g1, g2, g3, g4, g5, g6]
  have HA : Hid (∀ w : World, Calls Try.prog 24 #[.agg #[.int .i64 128, .int .i64 6, .int .i64 100, .int .i64 64, .int .i64 600], .slice (some ⟨w.heap.size, 0, none⟩) 3 3] (w.alloc (.cells #[.int .i64 4, .int .i64 a, .int .i64 o, .int .i64 7, .int .i64 4, .int .i64 b] 48)) fun e w' => e = .returned (.tuple #[.agg #[.int .i64 128, .int .i64 6, .int .i64 b, .int .i64 64, .int .i64 600], .int .i64 0, .int .i64 0]) ∧ Keeps nobody w w') := fun w => by
    have := apply_new firstP [(4, a), (o, 7), (4, b)] #[.int .i64 4, .int .i64 a, .int .i64 o, .int .i64 7, .int .i64 4, .int .i64 b] rfl 3 rfl (by decide) w
    rw [e1] at this
    exact this
  have HB : Hid (∀ w : World, Calls Try.prog 24 #[.agg #[.int .i64 128, .int .i64 6, .int .i64 100, .int .i64 64, .int .i64 600], .slice (some ⟨w.heap.size, 0, none⟩) 1 1] (w.alloc (.cells #[.int .i64 o, .int .i64 7] 48)) fun e w' => e = .returned (.tuple #[.agg #[.int .i64 128, .int .i64 6, .int .i64 100, .int .i64 64, .int .i64 600], .int .i64 0, .int .i64 0]) ∧ Keeps nobody w w') := fun w => by
    have := apply_new firstP [(o, 7)] #[.int .i64 o, .int .i64 7] rfl 1 rfl (by decide) w
    rw [e2] at this
    exact this
  clear e1 e2
  by_cases h6 : 1 ≤ o
  · have h7 : ¬ o ≤ 6 := fun h => h5 ⟨h6, h⟩
    clear h5
    go_enter Try.func5, Try.ntmps5
    go_wp2_with fail
    refine Calls.mono (HL.out _) ?_
    rintro e w1 ⟨rfl, k1⟩
    go_wp2_with fail
    refine Calls.mono (HF.out _) ?_
    rintro e w2 ⟨rfl, k2⟩
    go_wp2_with fail
    refine Calls.mono (HA.out _) ?_
    rintro e w3 ⟨rfl, k3⟩
    go_wp2_with fail
    refine Calls.mono (HF.out _) ?_
    rintro e w4 ⟨rfl, k4⟩
    go_wp2_with fail
    refine Calls.mono (HB.out _) ?_
    rintro e w5 ⟨rfl, k5⟩
    go_wp2_with fail
    refine Calls.mono (HF.out _) ?_
    rintro e w6 ⟨rfl, k6⟩
    have x1 := alloc_ps w3 ⟨128, 6, b, 64, 600⟩
    have x2 := alloc_ps w5 ⟨128, 6, 100, 64, 600⟩
    have x3 := alloc_ps w6 ⟨128, 6, b, 64, 600⟩
    have y3 := keeps_alloc w6 (.cells #[.int .i64 128, .int .i64 6, .int .i64 b, .int .i64 64, .int .i64 600] 44)
    have y1 := ((k4.then k5).alloc (.cells #[.int .i64 128, .int .i64 6, .int .i64 100, .int .i64 64, .int .i64 600] 44)).then (k6.then y3)
    have y2 := k6.then y3
    have HD : Hid (∀ W, Keeps nobody (w6.alloc (.cells #[.int .i64 128, .int .i64 6, .int .i64 b, .int .i64 64, .int .i64 600] 44)) W → W.cell? ⟨w3.heap.size, 0, none⟩ = some (.int .i64 128) ∧ W.cell? ⟨w3.heap.size, 1, none⟩ = some (.int .i64 6) ∧ W.cell? ⟨w3.heap.size, 2, none⟩ = some (.int .i64 b) ∧ W.cell? ⟨w3.heap.size, 3, none⟩ = some (.int .i64 64) ∧ W.cell? ⟨w3.heap.size, 4, none⟩ = some (.int .i64 600) ∧ W.cell? ⟨w5.heap.size, 0, none⟩ = some (.int .i64 128) ∧ W.cell? ⟨w5.heap.size, 1, none⟩ = some (.int .i64 6) ∧ W.cell? ⟨w5.heap.size, 2, none⟩ = some (.int .i64 100) ∧ W.cell? ⟨w5.heap.size, 3, none⟩ = some (.int .i64 64) ∧ W.cell? ⟨w5.heap.size, 4, none⟩ = some (.int .i64 600) ∧ W.cell? ⟨w6.heap.size, 0, none⟩ = some (.int .i64 128) ∧ W.cell? ⟨w6.heap.size, 1, none⟩ = some (.int .i64 6) ∧ W.cell? ⟨w6.heap.size, 2, none⟩ = some (.int .i64 b) ∧ W.cell? ⟨w6.heap.size, 3, none⟩ = some (.int .i64 64) ∧ W.cell? ⟨w6.heap.size, 4, none⟩ = some (.int .i64 600)) := fun W hW => by
      obtain ⟨p0, p1, p2, p3, p4⟩ := x1 W (y1.then hW)
      obtain ⟨q0, q1, q2, q3, q4⟩ := x2 W (y2.then hW)
      obtain ⟨r0, r1, r2, r3, r4⟩ := x3 W hW
      exact ⟨p0, p1, p2, p3, p4, q0, q1, q2, q3, q4, r0, r1, r2, r3, r4⟩
    have HF2 : Hid (∀ W, Keeps nobody (w6.alloc (.cells #[.int .i64 128, .int .i64 6, .int .i64 b, .int .i64 64, .int .i64 600] 44)) W → Calls Try.prog 20 #[] W fun e w' => e = .returned (.agg #[.int .i64 128, .int .i64 6, .int .i64 100, .int .i64 64, .int .i64 600]) ∧ Keeps nobody (w6.alloc (.cells #[.int .i64 128, .int .i64 6, .int .i64 b, .int .i64 64, .int .i64 600] 44)) w') := fun W hW => (HF.out W).mono fun e w' h => ⟨h.1, hW.then h.2⟩
    have HK := hid ((((k1.then k2).then k3).alloc (.cells #[.int .i64 128, .int .i64 6, .int .i64 b, .int .i64 64, .int .i64 600] 44)).then y1)
    clear x1 x2 x3 y1 y2 y3 k1 k2 k3 k4 k5 k6
    go_wp2_with fail
    obtain ⟨p0, p1, p2, p3, p4, q0, q1, q2, q3, q4, r0, r1, r2, r3, r4⟩ := HD.out _ (Keeps.refl _ _)
    go_region_held3 (fun w' => w'.cell? ⟨w3.heap.size, 0, none⟩ = some (.int .i64 128) ∧ w'.cell? ⟨w3.heap.size, 1, none⟩ = some (.int .i64 6) ∧ w'.cell? ⟨w3.heap.size, 2, none⟩ = some (.int .i64 b) ∧ w'.cell? ⟨w3.heap.size, 3, none⟩ = some (.int .i64 64) ∧ w'.cell? ⟨w3.heap.size, 4, none⟩ = some (.int .i64 600) ∧ w'.cell? ⟨w5.heap.size, 0, none⟩ = some (.int .i64 128) ∧ w'.cell? ⟨w5.heap.size, 1, none⟩ = some (.int .i64 6) ∧ w'.cell? ⟨w5.heap.size, 2, none⟩ = some (.int .i64 100) ∧ w'.cell? ⟨w5.heap.size, 3, none⟩ = some (.int .i64 64) ∧ w'.cell? ⟨w5.heap.size, 4, none⟩ = some (.int .i64 600) ∧ w'.cell? ⟨w6.heap.size, 0, none⟩ = some (.int .i64 128) ∧ w'.cell? ⟨w6.heap.size, 1, none⟩ = some (.int .i64 6) ∧ w'.cell? ⟨w6.heap.size, 2, none⟩ = some (.int .i64 b) ∧ w'.cell? ⟨w6.heap.size, 3, none⟩ = some (.int .i64 64) ∧ w'.cell? ⟨w6.heap.size, 4, none⟩ = some (.int .i64 600)) (first | go_keep | exact HD.out _ (by assumption) | exact HD.out _ (Keeps.refl _ _).drew) ((go_at_call 20; refine Calls.mono (HF2.out _ (by first | assumption | exact (Keeps.refl _ _).drew)) ?_; rintro e wq ⟨rfl, kq⟩))
    all_goals
      go_wp2
      go_ret
      exact ⟨rfl, below_of_keeps (HK.out.then kq)⟩
  · clear h5
    go_enter Try.func5, Try.ntmps5
    go_wp2_with fail
    refine Calls.mono (HL.out _) ?_
    rintro e w1 ⟨rfl, k1⟩
    go_wp2_with fail
    refine Calls.mono (HF.out _) ?_
    rintro e w2 ⟨rfl, k2⟩
    go_wp2_with fail
    refine Calls.mono (HA.out _) ?_
    rintro e w3 ⟨rfl, k3⟩
    go_wp2_with fail
    refine Calls.mono (HF.out _) ?_
    rintro e w4 ⟨rfl, k4⟩
    go_wp2_with fail
    refine Calls.mono (HB.out _) ?_
    rintro e w5 ⟨rfl, k5⟩
    go_wp2_with fail
    refine Calls.mono (HF.out _) ?_
    rintro e w6 ⟨rfl, k6⟩
    have x1 := alloc_ps w3 ⟨128, 6, b, 64, 600⟩
    have x2 := alloc_ps w5 ⟨128, 6, 100, 64, 600⟩
    have x3 := alloc_ps w6 ⟨128, 6, b, 64, 600⟩
    have y3 := keeps_alloc w6 (.cells #[.int .i64 128, .int .i64 6, .int .i64 b, .int .i64 64, .int .i64 600] 44)
    have y1 := ((k4.then k5).alloc (.cells #[.int .i64 128, .int .i64 6, .int .i64 100, .int .i64 64, .int .i64 600] 44)).then (k6.then y3)
    have y2 := k6.then y3
    have HD : Hid (∀ W, Keeps nobody (w6.alloc (.cells #[.int .i64 128, .int .i64 6, .int .i64 b, .int .i64 64, .int .i64 600] 44)) W → W.cell? ⟨w3.heap.size, 0, none⟩ = some (.int .i64 128) ∧ W.cell? ⟨w3.heap.size, 1, none⟩ = some (.int .i64 6) ∧ W.cell? ⟨w3.heap.size, 2, none⟩ = some (.int .i64 b) ∧ W.cell? ⟨w3.heap.size, 3, none⟩ = some (.int .i64 64) ∧ W.cell? ⟨w3.heap.size, 4, none⟩ = some (.int .i64 600) ∧ W.cell? ⟨w5.heap.size, 0, none⟩ = some (.int .i64 128) ∧ W.cell? ⟨w5.heap.size, 1, none⟩ = some (.int .i64 6) ∧ W.cell? ⟨w5.heap.size, 2, none⟩ = some (.int .i64 100) ∧ W.cell? ⟨w5.heap.size, 3, none⟩ = some (.int .i64 64) ∧ W.cell? ⟨w5.heap.size, 4, none⟩ = some (.int .i64 600) ∧ W.cell? ⟨w6.heap.size, 0, none⟩ = some (.int .i64 128) ∧ W.cell? ⟨w6.heap.size, 1, none⟩ = some (.int .i64 6) ∧ W.cell? ⟨w6.heap.size, 2, none⟩ = some (.int .i64 b) ∧ W.cell? ⟨w6.heap.size, 3, none⟩ = some (.int .i64 64) ∧ W.cell? ⟨w6.heap.size, 4, none⟩ = some (.int .i64 600)) := fun W hW => by
      obtain ⟨p0, p1, p2, p3, p4⟩ := x1 W (y1.then hW)
      obtain ⟨q0, q1, q2, q3, q4⟩ := x2 W (y2.then hW)
      obtain ⟨r0, r1, r2, r3, r4⟩ := x3 W hW
      exact ⟨p0, p1, p2, p3, p4, q0, q1, q2, q3, q4, r0, r1, r2, r3, r4⟩
    have HF2 : Hid (∀ W, Keeps nobody (w6.alloc (.cells #[.int .i64 128, .int .i64 6, .int .i64 b, .int .i64 64, .int .i64 600] 44)) W → Calls Try.prog 20 #[] W fun e w' => e = .returned (.agg #[.int .i64 128, .int .i64 6, .int .i64 100, .int .i64 64, .int .i64 600]) ∧ Keeps nobody (w6.alloc (.cells #[.int .i64 128, .int .i64 6, .int .i64 b, .int .i64 64, .int .i64 600] 44)) w') := fun W hW => (HF.out W).mono fun e w' h => ⟨h.1, hW.then h.2⟩
    have HK := hid ((((k1.then k2).then k3).alloc (.cells #[.int .i64 128, .int .i64 6, .int .i64 b, .int .i64 64, .int .i64 600] 44)).then y1)
    clear x1 x2 x3 y1 y2 y3 k1 k2 k3 k4 k5 k6
    go_wp2_with fail
    obtain ⟨p0, p1, p2, p3, p4, q0, q1, q2, q3, q4, r0, r1, r2, r3, r4⟩ := HD.out _ (Keeps.refl _ _)
    go_region_held3 (fun w' => w'.cell? ⟨w3.heap.size, 0, none⟩ = some (.int .i64 128) ∧ w'.cell? ⟨w3.heap.size, 1, none⟩ = some (.int .i64 6) ∧ w'.cell? ⟨w3.heap.size, 2, none⟩ = some (.int .i64 b) ∧ w'.cell? ⟨w3.heap.size, 3, none⟩ = some (.int .i64 64) ∧ w'.cell? ⟨w3.heap.size, 4, none⟩ = some (.int .i64 600) ∧ w'.cell? ⟨w5.heap.size, 0, none⟩ = some (.int .i64 128) ∧ w'.cell? ⟨w5.heap.size, 1, none⟩ = some (.int .i64 6) ∧ w'.cell? ⟨w5.heap.size, 2, none⟩ = some (.int .i64 100) ∧ w'.cell? ⟨w5.heap.size, 3, none⟩ = some (.int .i64 64) ∧ w'.cell? ⟨w5.heap.size, 4, none⟩ = some (.int .i64 600) ∧ w'.cell? ⟨w6.heap.size, 0, none⟩ = some (.int .i64 128) ∧ w'.cell? ⟨w6.heap.size, 1, none⟩ = some (.int .i64 6) ∧ w'.cell? ⟨w6.heap.size, 2, none⟩ = some (.int .i64 b) ∧ w'.cell? ⟨w6.heap.size, 3, none⟩ = some (.int .i64 64) ∧ w'.cell? ⟨w6.heap.size, 4, none⟩ = some (.int .i64 600)) (first | go_keep | exact HD.out _ (by assumption) | exact HD.out _ (Keeps.refl _ _).drew) ((go_at_call 20; refine Calls.mono (HF2.out _ (by first | assumption | exact (Keeps.refl _ _).drew)) ?_; rintro e wq ⟨rfl, kq⟩))
    all_goals
      go_wp2
      go_ret
      exact ⟨rfl, below_of_keeps (HK.out.then kq)⟩
end Go.Proofs.Ytkjdklcmaomjnaa
