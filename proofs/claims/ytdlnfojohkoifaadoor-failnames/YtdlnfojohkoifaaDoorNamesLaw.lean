/-
  The law FailNames as a walk.
-/
import Derived.Test.YtdlnfojohkoifaaDoorAlive
namespace Go.Proofs.YtdlnfojohkoifaaDoor
open Go.RowKit Go.Extern.Stop Go.Stop Go.Extern

theorem nameAt_error : ∀ i : Fin 24, ((nameAt i.1).toList == [101, 114, 114, 111, 114]) = false := by decide +kernel
theorem nameAt_empty : ∀ i : Fin 24, (nameAt i.1).toList.isEmpty = false := by decide +kernel
theorem nameAt_same : ∀ i j : Fin 24, ((nameAt i.1).toList == (nameAt j.1).toList) = (i.1 == j.1) := by decide +kernel
theorem nameOf_in {c : Int} (h0 : 0 ≤ c) (h1 : c ≤ 23) : nameOf c = nameAt c.toNat := by rw [nameOf, if_pos ⟨h0, by omega⟩]
theorem nameOf_out {c : Int} (h : c < 0 ∨ 23 < c) : nameOf c = ⟨#[101, 114, 114, 111, 114]⟩ := by rw [nameOf, if_neg (by omega)]
theorem nameOf_error {c : Int} (h0 : 0 ≤ c) (h1 : c ≤ 23) : ((nameOf c).toList == [101, 114, 114, 111, 114]) = false := by
  rw [nameOf_in h0 h1]; exact nameAt_error ⟨c.toNat, by omega⟩
theorem nameOf_empty {c : Int} (h0 : 0 ≤ c) (h1 : c ≤ 23) : (nameOf c).toList.isEmpty = false := by
  rw [nameOf_in h0 h1]; exact nameAt_empty ⟨c.toNat, by omega⟩
theorem nameOf_same {c d : Int} (h0 : 0 ≤ c) (h1 : c ≤ 23) (g0 : 0 ≤ d) (g1 : d ≤ 23) : ((nameOf c).toList == (nameOf d).toList) = (c == d) := by
  rw [nameOf_in h0 h1, nameOf_in g0 g1, nameAt_same ⟨c.toNat, by omega⟩ ⟨d.toNat, by omega⟩]
  rw [Bool.eq_iff_iff]; simp; omega

set_option maxRecDepth 100000 in
set_option maxHeartbeats 2000000 in
theorem failNames_out (a b : Int) (w : World) (hE : Env w) (ha : a < 0 ∨ 23 < a) : Calls Tryd.prog 6 #[.int .i64 a, .int .i64 b] w fun e w' => e = .returned (.bool true) ∧ Below w.heap.size w w' := by
  have HA : Hid (nameOf a = ⟨#[101, 114, 114, 111, 114]⟩) := nameOf_out ha
  rcases ha with ha | ha <;> by_cases hb0 : 0 ≤ b <;> by_cases hb1 : b ≤ 23
  any_goals (exfalso; omega)
  all_goals
    go_enter Tryd.func6, Tryd.ntmps6
    go_wp2_with fail
    refine (alive_true w hE).mono ?_
    rintro e w1 ⟨rfl, hB⟩
    have hN := name_any a w1 (hE.grown hB)
    rw [HA.out] at hN
    have HN : Hid (Calls Tryd.prog 11 #[.int .i64 a] w1 fun e w' => e = .returned (.string ⟨#[101, 114, 114, 111, 114]⟩) ∧ w' = w1) := hN
    clear hN HA
    go_wp2_with (go_at_call 11; refine Calls.mono HN.out ?_; rintro e w2 ⟨rfl, rfl⟩)
    go_ret
    exact ⟨rfl, hB⟩

set_option maxRecDepth 100000 in
set_option maxHeartbeats 2000000 in
theorem failNames_in (a b : Int) (w : World) (hE : Env w) (ha0 : 0 ≤ a) (ha1 : a ≤ 23) : Calls Tryd.prog 6 #[.int .i64 a, .int .i64 b] w fun e w' => e = .returned (.bool true) ∧ Below w.heap.size w w' := by
  have n1 := nameOf_error ha0 ha1
  have n2 := nameOf_empty ha0 ha1
  by_cases hb0 : 0 ≤ b <;> by_cases hb1 : b ≤ 23
  · have n3 := nameOf_same ha0 ha1 hb0 hb1
    cases hab : (a == b) <;> rw [hab] at n3
    all_goals
      go_enter Tryd.func6, Tryd.ntmps6
      go_wp2_with fail
      refine (alive_true w hE).mono ?_
      rintro e w1 ⟨rfl, hB⟩
      have HN : Hid (∀ c, Calls Tryd.prog 11 #[.int .i64 c] w1 fun e w' => e = .returned (.string (nameOf c)) ∧ w' = w1) := fun c => name_any c w1 (hE.grown hB)
      go_wp2_with (go_at_call 11; refine Calls.mono (HN.out _) ?_; rintro e w2 ⟨rfl, rfl⟩)
      go_ret
      exact ⟨rfl, hB⟩
  any_goals (exfalso; omega)
  all_goals
    go_enter Tryd.func6, Tryd.ntmps6
    go_wp2_with fail
    refine (alive_true w hE).mono ?_
    rintro e w1 ⟨rfl, hB⟩
    have HN : Hid (∀ c, Calls Tryd.prog 11 #[.int .i64 c] w1 fun e w' => e = .returned (.string (nameOf c)) ∧ w' = w1) := fun c => name_any c w1 (hE.grown hB)
    go_wp2_with (go_at_call 11; refine Calls.mono (HN.out _) ?_; rintro e w2 ⟨rfl, rfl⟩)
    go_ret
    exact ⟨rfl, hB⟩

theorem failNames_true (a b : Int) (w : World) (hE : Env w) : Calls Tryd.prog 6 #[.int .i64 a, .int .i64 b] w fun e w' => e = .returned (.bool true) ∧ Below w.heap.size w w' := by
  by_cases h : a < 0 ∨ 23 < a
  · exact failNames_out a b w hE h
  · exact failNames_in a b w hE (by omega) (by omega)
end Go.Proofs.YtdlnfojohkoifaaDoor
