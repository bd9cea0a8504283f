/-
  The law PrefsPush, walked.
-/
import Derived.Test.YtkjdklcmaomjnabZMine
import Derived.Test.YtkjdklcmaomjnabGDoor
import Derived.Deep.RegionHeld3
namespace Go.Proofs.Ytkjdklcmaomjnab
open Go.RowKit
attribute [local irreducible] numL nums str sixes putP getP applyG

/-- The cells of settings in force, in a box. -/
theorem alloc_ps (w : World) (s : Ps) : ∀ W, Keeps nobody (w.alloc (.cells #[.int .i64 s.table, .int .i64 s.many, .int .i64 s.window, .int .i64 s.frame, .int .i64 s.list] 24)) W → W.cell? ⟨w.heap.size, 0, none⟩ = some (.int .i64 s.table) ∧ W.cell? ⟨w.heap.size, 1, none⟩ = some (.int .i64 s.many) ∧ W.cell? ⟨w.heap.size, 2, none⟩ = some (.int .i64 s.window) ∧ W.cell? ⟨w.heap.size, 3, none⟩ = some (.int .i64 s.frame) ∧ W.cell? ⟨w.heap.size, 4, none⟩ = some (.int .i64 s.list) := by
  intro W hW
  obtain ⟨a, b, c, d, e, _⟩ := ((sx_new w s).quiet hW).cells
  exact ⟨a, b, c, d, e⟩
set_option maxRecDepth 100000 in
set_option maxHeartbeats 1000000 in
theorem push_walk (v window : Int) (w : World) : Calls Try.prog 3 #[.int .i64 v, .int .i64 window] w (Fine w) := by
  have HL := hid alive_ok
  have HF := hid first_lit
  by_cases h1 : v < 0
  · go_enter Try.func3, Try.ntmps3
    go_wp2_with fail
    refine Calls.mono (HL.out _) ?_
    rintro e w1 ⟨rfl, k1⟩
    go_wp2
    go_ret
    exact ⟨rfl, below_of_keeps k1⟩
  by_cases h2 : window < 0
  · go_enter Try.func3, Try.ntmps3
    go_wp2_with fail
    refine Calls.mono (HL.out _) ?_
    rintro e w1 ⟨rfl, k1⟩
    go_wp2
    go_ret
    exact ⟨rfl, below_of_keeps k1⟩
  by_cases h3 : window > 2147483647
  · go_enter Try.func3, Try.ntmps3
    go_wp2_with fail
    refine Calls.mono (HL.out _) ?_
    rintro e w1 ⟨rfl, k1⟩
    go_wp2
    go_ret
    exact ⟨rfl, below_of_keeps k1⟩
  have HA : Hid (∀ w : World, Calls Try.prog 5 #[.agg #[.int .i64 128, .int .i64 6, .int .i64 100, .int .i64 64, .int .i64 600], .slice (some ⟨w.heap.size, 0, none⟩) 2 2] (w.alloc (.cells #[.int .i64 4, .int .i64 window, .int .i64 2, .int .i64 v] 30)) fun e w' => e = .returned (applyV (applyG firstP firstP [(4, window), (2, v)])) ∧ Keeps nobody w w') := fun w => apply_new firstP [(4, window), (2, v)] #[.int .i64 4, .int .i64 window, .int .i64 2, .int .i64 v] rfl 2 rfl (by decide) w
  by_cases h0 : v = 0
  · subst h0
    have e : applyG firstP firstP [(4, window), (2, 0)] = (⟨128, 6, window, 64, 600⟩, 0, 0) := by
      have hw : window ≤ 2147483647 := by omega
      simp [applyG_cons, applyG_nil, refE, withP, firstP, hw]
    rw [e] at HA
    clear e
    go_enter Try.func3, Try.ntmps3
    go_wp2_with fail
    refine Calls.mono (HL.out _) ?_
    rintro e w1 ⟨rfl, k1⟩
    go_wp2_with fail
    refine Calls.mono (HF.out _) ?_
    rintro e w2 ⟨rfl, k2⟩
    go_wp2_with fail
    refine Calls.mono (HA.out _) ?_
    rintro e w3 ⟨rfl, k3⟩
    go_wp2
    go_ret
    exact ⟨rfl, below_of_keeps (((k1.then k2).then k3).alloc _)⟩
  · have e : applyG firstP firstP [(4, window), (2, v)] = (firstP, 1, 11) := by
      have hw : window ≤ 2147483647 := by omega
      simp [applyG_cons, refE, firstP, h0, hw]
    rw [e] at HA
    have HA' : Hid (∀ w : World, Calls Try.prog 5 #[.agg #[.int .i64 128, .int .i64 6, .int .i64 100, .int .i64 64, .int .i64 600], .slice (some ⟨w.heap.size, 0, none⟩) 2 2] (w.alloc (.cells #[.int .i64 4, .int .i64 window, .int .i64 2, .int .i64 v] 30)) fun e w' => e = .returned (.tuple #[.agg #[.int .i64 128, .int .i64 6, .int .i64 100, .int .i64 64, .int .i64 600], .int .i64 1, .int .i64 11]) ∧ Keeps nobody w w') := HA.out
    clear e HA
    go_enter Try.func3, Try.ntmps3
    go_wp2_with fail
    refine Calls.mono (HL.out _) ?_
    rintro e w1 ⟨rfl, k1⟩
    go_wp2_with fail
    refine Calls.mono (HF.out _) ?_
    rintro e w2 ⟨rfl, k2⟩
    go_wp2_with fail
    refine Calls.mono (HA'.out _) ?_
    rintro e w3 ⟨rfl, k3⟩
    have HD := hid (alloc_ps w3 firstP)
    have hK := ((k1.then k2).then k3).alloc (.cells #[.int .i64 firstP.table, .int .i64 firstP.many, .int .i64 firstP.window, .int .i64 firstP.frame, .int .i64 firstP.list] 24)
    simp only [firstP] at HD hK
    have HF2 : Hid (∀ W, Keeps nobody (w3.alloc (.cells #[.int .i64 128, .int .i64 6, .int .i64 100, .int .i64 64, .int .i64 600] 24)) W → Calls Try.prog 6 #[] W fun e w' => e = .returned (.agg #[.int .i64 128, .int .i64 6, .int .i64 100, .int .i64 64, .int .i64 600]) ∧ Keeps nobody (w3.alloc (.cells #[.int .i64 128, .int .i64 6, .int .i64 100, .int .i64 64, .int .i64 600] 24)) w') := fun W hW => (HF.out W).mono fun e w' h => ⟨h.1, hW.then h.2⟩
    have HK := hid hK
    clear k1 k2 k3 hK
    go_wp2_with fail
    go_region_held3 (fun w' => w'.cell? ⟨w3.heap.size, 0, none⟩ = some (.int .i64 128) ∧ w'.cell? ⟨w3.heap.size, 1, none⟩ = some (.int .i64 6) ∧ w'.cell? ⟨w3.heap.size, 2, none⟩ = some (.int .i64 100) ∧ w'.cell? ⟨w3.heap.size, 3, none⟩ = some (.int .i64 64) ∧ w'.cell? ⟨w3.heap.size, 4, none⟩ = some (.int .i64 600)) (first | go_keep | exact HD.out _ (by assumption)) ((go_at_call 6; refine Calls.mono (HF2.out _ (by first | assumption | exact (Keeps.refl _ _).drew)) ?_; rintro e wq ⟨rfl, kq⟩))
    all_goals
      go_wp2
      go_ret
      exact ⟨rfl, below_of_keeps (HK.out.then kq)⟩
end Go.Proofs.Ytkjdklcmaomjnab
