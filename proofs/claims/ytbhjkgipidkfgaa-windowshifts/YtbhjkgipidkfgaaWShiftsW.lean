/-
  The law WindowShifts, walked.
-/
import Derived.Test.YtbhjkgipidkfgaaWAlive
namespace Go.Proofs.Ytbhjkgipidkfgaa
open Go.RowKit
attribute [local irreducible] newW takeW growW shiftW creditW

set_option maxRecDepth 100000 in
set_option maxHeartbeats 4000000 in
theorem shifts_walk (size other n : Int) (w : World) : Calls Try.prog 6 #[.int .i64 size, .int .i64 other, .int .i64 n] w (Fine w) := by
  have HL := hid alive_ok
  by_cases h : 0 ≤ size ∧ size ≤ 2147483647
  · have HN : Hid (∀ w, Calls Try.prog 10 #[.int .i64 size] w fun e w' => e = .returned (.tuple #[.agg #[.int .i64 size, .int .i64 size, .int .i64 0], .bool true]) ∧ Keeps nobody w w') := new_as size (newW_yes h)
    obtain ⟨h0, h1⟩ := h
    by_cases ha : 0 ≤ other
    · by_cases hb : other ≤ 2147483647
      · by_cases hc : 0 ≤ n
        · by_cases hd : n ≤ size
          · by_cases hy : 1 ≤ other - n
            · have HT : Hid (∀ w, Calls Try.prog 12 #[.agg #[.int .i64 size, .int .i64 size, .int .i64 0], .int .i64 n] w fun e w' => e = .returned (.tuple #[.agg #[.int .i64 (size - n), .int .i64 size, .int .i64 0], .bool true]) ∧ Keeps nobody w w') := take_as ⟨size, size, 0⟩ n (takeW_yes ⟨hc, hd⟩) (by simp only; omega)
              have HS : Hid (∀ w, Calls Try.prog 16 #[.agg #[.int .i64 (size - n), .int .i64 size, .int .i64 0], .int .i64 (other - size)] w fun e w' => e = .returned (.tuple #[.agg #[.int .i64 (other - n), .int .i64 other, .int .i64 0], .bool true]) ∧ Keeps nobody w w') := shift_as ⟨size - n, size, 0⟩ (other - size) (x := ⟨other - n, other, 0⟩) (b := true) ((shiftW_yes ⟨⟨by simp only; omega, by simp only; omega⟩, by simp only; omega⟩).trans (by simp only [Prod.mk.injEq, Wd.mk.injEq, and_true]; omega)) ⟨by simp only; omega, by simp only; omega, by simp only; omega, by simp only; omega, by simp, by simp⟩ (by omega)
              have HB : Hid (∀ w, Calls Try.prog 16 #[.agg #[.int .i64 (other - n), .int .i64 other, .int .i64 0], .int .i64 (size - other)] w fun e w' => e = .returned (.tuple #[.agg #[.int .i64 (size - n), .int .i64 size, .int .i64 0], .bool true]) ∧ Keeps nobody w w') := shift_as ⟨other - n, other, 0⟩ (size - other) (x := ⟨size - n, size, 0⟩) (b := true) ((shiftW_yes ⟨⟨by simp only; omega, by simp only; omega⟩, by simp only; omega⟩).trans (by simp only [Prod.mk.injEq, Wd.mk.injEq, and_true]; omega)) ⟨by simp only; omega, by simp only; omega, by simp only; omega, by simp only; omega, by simp, by simp⟩ (by omega)
              have HO : Hid (∀ w, Calls Try.prog 12 #[.agg #[.int .i64 (other - n), .int .i64 other, .int .i64 0], .int .i64 1] w fun e w' => e = .returned (.tuple #[.agg #[.int .i64 (other - n - 1), .int .i64 other, .int .i64 0], .bool true]) ∧ Keeps nobody w w') := take_as ⟨other - n, other, 0⟩ 1 (takeW_yes ⟨by omega, hy⟩) (by simp only; omega)
              go_enter Try.func6, Try.ntmps6
              go_wp2_with fail
              refine Calls.mono (HN.out _) ?_
              rintro e w1 ⟨rfl, k1⟩
              have HZ := hid (wb_new 25 w w1 k1 ⟨size, size, 0⟩)
              clear k1
              go_wp2_with fail
              refine Calls.mono (HL.out _) ?_
              rintro e w2 ⟨rfl, k2⟩
              have h2 := HZ.out.quiet k2
              obtain ⟨b0, b1, b2, bf, hlt⟩ := h2.cells
              have H2 := hid h2
              clear h2 k2 HZ
              simp only at b0 b1 b2
              go_wp2_with fail
              refine Calls.mono (HT.out _) ?_
              rintro e w3 ⟨rfl, k3⟩
              clear b0 b1 b2 bf hlt
              have h3 := H2.out.quiet k3
              obtain ⟨b0, b1, b2, bf, hlt⟩ := h3.cells
              have H3 := hid (h3.put ⟨size - n, size, 0⟩)
              clear h3 k3 H2
              simp only at b0 b1 b2
              go_wp2_with fail
              refine Calls.mono (HS.out _) ?_
              rintro e w4 ⟨rfl, k4⟩
              clear b0 b1 b2 bf hlt
              have h4 := H3.out.quiet k4
              have HY := hid (wb_new 25 w w4 h4.keeps ⟨other - n, other, 0⟩)
              have H4 := hid (h4.quiet (keeps_alloc w4 (.cells #[.int .i64 (other - n), .int .i64 other, .int .i64 0] 25)))
              clear h4 k4 H3
              go_wp2_with fail
              refine Calls.mono (HB.out _) ?_
              rintro e w5 ⟨rfl, k5⟩
              have h5 := H4.out.quiet k5
              have y5 := HY.out.quiet k5
              obtain ⟨b0, b1, b2, bf, hlt⟩ := y5.cells
              have HU := hid (wb_new 25 w w5 h5.keeps ⟨size - n, size, 0⟩)
              have H5 := hid (h5.quiet (keeps_alloc w5 (.cells #[.int .i64 (size - n), .int .i64 size, .int .i64 0] 25)))
              clear h5 y5 k5 H4 HY
              simp only at b0 b1 b2
              go_wp2_with fail
              refine Calls.mono (HO.out _) ?_
              rintro e w6 ⟨rfl, k6⟩
              clear b0 b1 b2 bf hlt
              have h6 := H5.out.quiet k6
              have u6 := HU.out.quiet k6
              obtain ⟨b0, b1, b2, bf, hlt⟩ := h6.cells
              obtain ⟨d0, d1, d2, df, hld⟩ := u6.cells
              simp only at b0 b1 b2 d0 d1 d2
              have H6 := hid h6
              clear h6 u6 k6 H5 HU
              go_wp2
              go_ret
              refine ⟨congrArg (fun b => Ending.returned (Value.bool b)) (show _ = true from ?_), below_of_keeps (H6.out.keeps.alloc _)⟩
              first | rfl | (simp; omega)
            · have HT : Hid (∀ w, Calls Try.prog 12 #[.agg #[.int .i64 size, .int .i64 size, .int .i64 0], .int .i64 n] w fun e w' => e = .returned (.tuple #[.agg #[.int .i64 (size - n), .int .i64 size, .int .i64 0], .bool true]) ∧ Keeps nobody w w') := take_as ⟨size, size, 0⟩ n (takeW_yes ⟨hc, hd⟩) (by simp only; omega)
              have HS : Hid (∀ w, Calls Try.prog 16 #[.agg #[.int .i64 (size - n), .int .i64 size, .int .i64 0], .int .i64 (other - size)] w fun e w' => e = .returned (.tuple #[.agg #[.int .i64 (other - n), .int .i64 other, .int .i64 0], .bool true]) ∧ Keeps nobody w w') := shift_as ⟨size - n, size, 0⟩ (other - size) (x := ⟨other - n, other, 0⟩) (b := true) ((shiftW_yes ⟨⟨by simp only; omega, by simp only; omega⟩, by simp only; omega⟩).trans (by simp only [Prod.mk.injEq, Wd.mk.injEq, and_true]; omega)) ⟨by simp only; omega, by simp only; omega, by simp only; omega, by simp only; omega, by simp, by simp⟩ (by omega)
              have HB : Hid (∀ w, Calls Try.prog 16 #[.agg #[.int .i64 (other - n), .int .i64 other, .int .i64 0], .int .i64 (size - other)] w fun e w' => e = .returned (.tuple #[.agg #[.int .i64 (size - n), .int .i64 size, .int .i64 0], .bool true]) ∧ Keeps nobody w w') := shift_as ⟨other - n, other, 0⟩ (size - other) (x := ⟨size - n, size, 0⟩) (b := true) ((shiftW_yes ⟨⟨by simp only; omega, by simp only; omega⟩, by simp only; omega⟩).trans (by simp only [Prod.mk.injEq, Wd.mk.injEq, and_true]; omega)) ⟨by simp only; omega, by simp only; omega, by simp only; omega, by simp only; omega, by simp, by simp⟩ (by omega)
              have HO : Hid (∀ w, Calls Try.prog 12 #[.agg #[.int .i64 (other - n), .int .i64 other, .int .i64 0], .int .i64 1] w fun e w' => e = .returned (.tuple #[.agg #[.int .i64 (other - n), .int .i64 other, .int .i64 0], .bool false]) ∧ Keeps nobody w w') := take_as ⟨other - n, other, 0⟩ 1 (takeW_no (fun e => hy e.2)) (by simp only; omega)
              go_enter Try.func6, Try.ntmps6
              go_wp2_with fail
              refine Calls.mono (HN.out _) ?_
              rintro e w1 ⟨rfl, k1⟩
              have HZ := hid (wb_new 25 w w1 k1 ⟨size, size, 0⟩)
              clear k1
              go_wp2_with fail
              refine Calls.mono (HL.out _) ?_
              rintro e w2 ⟨rfl, k2⟩
              have h2 := HZ.out.quiet k2
              obtain ⟨b0, b1, b2, bf, hlt⟩ := h2.cells
              have H2 := hid h2
              clear h2 k2 HZ
              simp only at b0 b1 b2
              go_wp2_with fail
              refine Calls.mono (HT.out _) ?_
              rintro e w3 ⟨rfl, k3⟩
              clear b0 b1 b2 bf hlt
              have h3 := H2.out.quiet k3
              obtain ⟨b0, b1, b2, bf, hlt⟩ := h3.cells
              have H3 := hid (h3.put ⟨size - n, size, 0⟩)
              clear h3 k3 H2
              simp only at b0 b1 b2
              go_wp2_with fail
              refine Calls.mono (HS.out _) ?_
              rintro e w4 ⟨rfl, k4⟩
              clear b0 b1 b2 bf hlt
              have h4 := H3.out.quiet k4
              have HY := hid (wb_new 25 w w4 h4.keeps ⟨other - n, other, 0⟩)
              have H4 := hid (h4.quiet (keeps_alloc w4 (.cells #[.int .i64 (other - n), .int .i64 other, .int .i64 0] 25)))
              clear h4 k4 H3
              go_wp2_with fail
              refine Calls.mono (HB.out _) ?_
              rintro e w5 ⟨rfl, k5⟩
              have h5 := H4.out.quiet k5
              have y5 := HY.out.quiet k5
              obtain ⟨b0, b1, b2, bf, hlt⟩ := y5.cells
              have HU := hid (wb_new 25 w w5 h5.keeps ⟨size - n, size, 0⟩)
              have H5 := hid (h5.quiet (keeps_alloc w5 (.cells #[.int .i64 (size - n), .int .i64 size, .int .i64 0] 25)))
              clear h5 y5 k5 H4 HY
              simp only at b0 b1 b2
              go_wp2_with fail
              refine Calls.mono (HO.out _) ?_
              rintro e w6 ⟨rfl, k6⟩
              clear b0 b1 b2 bf hlt
              have h6 := H5.out.quiet k6
              have u6 := HU.out.quiet k6
              obtain ⟨b0, b1, b2, bf, hlt⟩ := h6.cells
              obtain ⟨d0, d1, d2, df, hld⟩ := u6.cells
              simp only at b0 b1 b2 d0 d1 d2
              have H6 := hid h6
              clear h6 u6 k6 H5 HU
              go_wp2
              go_ret
              refine ⟨congrArg (fun b => Ending.returned (Value.bool b)) (show _ = true from ?_), below_of_keeps (H6.out.keeps.alloc _)⟩
              first | rfl | (simp; omega)
          · go_enter Try.func6, Try.ntmps6
            go_wp2_with fail
            refine Calls.mono (HN.out _) ?_
            rintro e w1 ⟨rfl, k1⟩
            have HZ := hid (wb_new 25 w w1 k1 ⟨size, size, 0⟩)
            clear k1
            go_wp2_with fail
            refine Calls.mono (HL.out _) ?_
            rintro e w2 ⟨rfl, k2⟩
            have h2 := HZ.out.quiet k2
            have H2 := hid h2
            clear h2 k2 HZ
            go_wp2
            go_ret
            exact ⟨rfl, below_of_keeps H2.out.keeps⟩
        · go_enter Try.func6, Try.ntmps6
          go_wp2_with fail
          refine Calls.mono (HN.out _) ?_
          rintro e w1 ⟨rfl, k1⟩
          have HZ := hid (wb_new 25 w w1 k1 ⟨size, size, 0⟩)
          clear k1
          go_wp2_with fail
          refine Calls.mono (HL.out _) ?_
          rintro e w2 ⟨rfl, k2⟩
          have h2 := HZ.out.quiet k2
          have H2 := hid h2
          clear h2 k2 HZ
          go_wp2
          go_ret
          exact ⟨rfl, below_of_keeps H2.out.keeps⟩
      · go_enter Try.func6, Try.ntmps6
        go_wp2_with fail
        refine Calls.mono (HN.out _) ?_
        rintro e w1 ⟨rfl, k1⟩
        have HZ := hid (wb_new 25 w w1 k1 ⟨size, size, 0⟩)
        clear k1
        go_wp2_with fail
        refine Calls.mono (HL.out _) ?_
        rintro e w2 ⟨rfl, k2⟩
        have h2 := HZ.out.quiet k2
        have H2 := hid h2
        clear h2 k2 HZ
        go_wp2
        go_ret
        exact ⟨rfl, below_of_keeps H2.out.keeps⟩
    · go_enter Try.func6, Try.ntmps6
      go_wp2_with fail
      refine Calls.mono (HN.out _) ?_
      rintro e w1 ⟨rfl, k1⟩
      have HZ := hid (wb_new 25 w w1 k1 ⟨size, size, 0⟩)
      clear k1
      go_wp2_with fail
      refine Calls.mono (HL.out _) ?_
      rintro e w2 ⟨rfl, k2⟩
      have h2 := HZ.out.quiet k2
      have H2 := hid h2
      clear h2 k2 HZ
      go_wp2
      go_ret
      exact ⟨rfl, below_of_keeps H2.out.keeps⟩
  · have HN : Hid (∀ w, Calls Try.prog 10 #[.int .i64 size] w fun e w' => e = .returned (.tuple #[.agg #[.int .i64 0, .int .i64 0, .int .i64 0], .bool false]) ∧ Keeps nobody w w') := new_as size (newW_no h)
    clear h
    go_enter Try.func6, Try.ntmps6
    go_wp2_with fail
    refine Calls.mono (HN.out _) ?_
    rintro e w1 ⟨rfl, k1⟩
    go_wp2_with fail
    refine Calls.mono (HL.out _) ?_
    rintro e w2 ⟨rfl, k2⟩
    go_wp2
    go_ret
    exact ⟨rfl, below_of_keeps ((k1.alloc _).then k2)⟩
end Go.Proofs.Ytbhjkgipidkfgaa
