/-
  The law WindowHalf, walked.
-/
import Derived.Test.YtbhjkgipidkfgaaWAlive
namespace Go.Proofs.Ytbhjkgipidkfgaa
open Go.RowKit
attribute [local irreducible] newW takeW growW shiftW creditW

set_option maxRecDepth 100000 in
set_option maxHeartbeats 4000000 in
theorem half_walk (size step : Int) (w : World) : Calls Try.prog 8 #[.int .i64 size, .int .i64 step] w (Fine w) := by
  have HL := hid alive_ok
  by_cases ha : 1 ≤ size
  · by_cases hb : size ≤ 10000
    · by_cases hc : 1 ≤ step
      · by_cases hd : step ≤ 1000
        · have HN : Hid (∀ w, Calls Try.prog 10 #[.int .i64 size] w fun e w' => e = .returned (.tuple #[.agg #[.int .i64 size, .int .i64 size, .int .i64 0], .bool true]) ∧ Keeps nobody w w') := new_as size (newW_yes ⟨by omega, by omega⟩)
          have HS : Hid (∀ w, Calls Try.prog 18 #[.agg #[.int .i64 size, .int .i64 size, .int .i64 0], .int .i64 size] w fun e w' => e = .returned (.tuple #[.agg #[.int .i64 0, .int .i64 size, .int .i64 0], .bool true]) ∧ Keeps nobody w w') := spend_as ⟨size, size, 0⟩ size (x := ⟨0, size, 0⟩) (b := true) ((takeW_yes ⟨by omega, by simp only; omega⟩).trans (by simp)) (by simp only; omega)
          have HC : Hid (∀ j, 0 ≤ j → j ≤ size → j + step < halfW size → ∀ w, Calls Try.prog 19 #[.agg #[.int .i64 0, .int .i64 size, .int .i64 j], .int .i64 step] w fun e w' => e = .returned (.tuple #[.agg #[.int .i64 0, .int .i64 size, .int .i64 (j + step)], .int .i64 0]) ∧ Keeps nobody w w') := fun j h0 h1 h2 => credit_as ⟨0, size, j⟩ step (x := ⟨0, size, j + step⟩) (b := 0) ((creditW_no (by have : owedW ⟨0, size, j⟩ step = j + step := (by simp only [owedW]; omega); rw [this]; exact h2)).trans (by simp only [owedW, Prod.mk.injEq, Wd.mk.injEq, and_true, true_and]; omega)) ⟨by simp only; omega, by simp only; omega, by simp only; omega, by simp only; omega, by simp only; omega, by simp only; omega⟩ (by omega)
          have HD : Hid (∀ j, 0 ≤ j → j ≤ size → ¬ j + step < halfW size → ∀ w, Calls Try.prog 19 #[.agg #[.int .i64 0, .int .i64 size, .int .i64 j], .int .i64 step] w fun e w' => e = .returned (.tuple #[.agg #[.int .i64 (j + step), .int .i64 size, .int .i64 0], .int .i64 (j + step)]) ∧ Keeps nobody w w') := fun j h0 h1 h2 => credit_as ⟨0, size, j⟩ step (x := ⟨j + step, size, 0⟩) (b := j + step) ((creditW_yes (by have : owedW ⟨0, size, j⟩ step = j + step := (by simp only [owedW]; omega); rw [this]; exact h2)).trans (by simp only [owedW, Prod.mk.injEq, Wd.mk.injEq, and_true]; omega)) ⟨by simp only; omega, by simp only; omega, by simp only; omega, by simp only; omega, by simp only; omega, by simp only; omega⟩ (by omega)
          have hq : size.tdiv 2 = size / 2 := Int.tdiv_eq_ediv_of_nonneg (by omega)
          have hm1 : ∀ ts t W, (Builtin.max_ ts t #[.int .i64 (size / 2), .int .i64 1]).run Try.prog W = .ok (.int .i64 (halfW size)) W := fun ts t W => by rw [run_max_int2]; unfold halfW; rw [show (if 1 > size / 2 then (1 : Int) else size / 2) = max (size / 2) 1 by split <;> omega]
          have hb0 : 0 ≤ size / 2 := by omega
          have hb1 : size / 2 ≤ 5000 := by omega
          have hh : 1 ≤ halfW size := by unfold halfW; omega
          generalize halfW size = h at *
          generalize size / 2 = q at *
          go_enter Try.func8, Try.ntmps8
          go_wp2_with fail
          refine Calls.mono (HL.out _) ?_
          rintro e w1 ⟨rfl, k1⟩
          have K1 := hid k1
          clear k1
          go_wp2_with fail
          refine Calls.mono (HN.out _) ?_
          rintro e w2 ⟨rfl, k2⟩
          have HZ := hid (wb_new 25 w w2 (K1.out.then k2) ⟨size, size, 0⟩)
          clear k2
          go_wp2_with fail
          refine Calls.mono (HS.out _) ?_
          rintro e w3 ⟨rfl, k3⟩
          have h3 := HZ.out.quiet k3
          obtain ⟨b0, b1, b2, bf, hlt⟩ := h3.cells
          have H3 := hid (h3.put ⟨0, size, 0⟩)
          clear h3 k3 HZ
          simp only at b0 b1 b2
          go_wp2
          go_loopg [7] size.toNat (fun k i wr => ∃ j : Int, i = .int .i64 j ∧ 0 ≤ j ∧ (k : Int) + j = size ∧ j < h ∧ Hid (Wb 25 w wr w2.heap.size ⟨0, size, j⟩))
          case atStart => exact ⟨0, rfl, by omega, by omega, by omega, H3⟩
          case round =>
            clear b0 b1 b2 bf hlt
            obtain ⟨j, rfl, hj0, hk, hjh, HI⟩ := hrel
            obtain ⟨b0, b1, b2, bf, hlt⟩ := HI.out.cells
            simp only at b0 b1 b2
            clear H3
            by_cases hs : j + step ≤ size
            · by_cases hp : j + step < h
              · have HC1 := hid (HC.out j hj0 (by omega) hp)
                clear HC HD
                go_wp2_with fail
                refine Calls.mono (HC1.out _) ?_
                rintro e w4 ⟨rfl, k4⟩
                clear b0 b1 b2 bf hlt
                have h4 := HI.out.quiet k4
                obtain ⟨b0, b1, b2, bf, hlt⟩ := h4.cells
                simp only at b0 b1 b2
                have H4 := hid h4
                clear h4 k4 HI
                go_wp2
                go_roundg (size - (j + step)).toNat
                case measure => omega
                case rel => exact ⟨j + step, rfl, by omega, by omega, hp, hid ((H4.out.put ⟨0, size, j + step⟩).quiet (keeps_alloc _ _))⟩
              · have HC1 := hid (HD.out j hj0 (by omega) (by omega))
                clear HC HD
                go_wp2_with fail
                refine Calls.mono (HC1.out _) ?_
                rintro e w4 ⟨rfl, k4⟩
                clear b0 b1 b2 bf hlt
                have h4 := HI.out.quiet k4
                obtain ⟨b0, b1, b2, bf, hlt⟩ := h4.cells
                simp only at b0 b1 b2
                have H4 := hid h4
                clear h4 k4 HI
                go_wp2
                go_ret
                refine ⟨congrArg (fun b => Ending.returned (Value.bool b)) (show _ = true from ?_), below_of_keeps (H4.out.keeps.alloc _)⟩
                first | rfl | (simp; omega)
            · go_wp2
              go_ret
              exact ⟨rfl, below_of_keeps HI.out.keeps⟩
        · go_enter Try.func8, Try.ntmps8
          go_wp2_with fail
          refine Calls.mono (HL.out _) ?_
          rintro e w1 ⟨rfl, k1⟩
          go_wp2
          go_ret
          exact ⟨rfl, below_of_keeps k1⟩
      · go_enter Try.func8, Try.ntmps8
        go_wp2_with fail
        refine Calls.mono (HL.out _) ?_
        rintro e w1 ⟨rfl, k1⟩
        go_wp2
        go_ret
        exact ⟨rfl, below_of_keeps k1⟩
    · go_enter Try.func8, Try.ntmps8
      go_wp2_with fail
      refine Calls.mono (HL.out _) ?_
      rintro e w1 ⟨rfl, k1⟩
      go_wp2
      go_ret
      exact ⟨rfl, below_of_keeps k1⟩
  · go_enter Try.func8, Try.ntmps8
    go_wp2_with fail
    refine Calls.mono (HL.out _) ?_
    rintro e w1 ⟨rfl, k1⟩
    go_wp2
    go_ret
    exact ⟨rfl, below_of_keeps k1⟩
end Go.Proofs.Ytbhjkgipidkfgaa
