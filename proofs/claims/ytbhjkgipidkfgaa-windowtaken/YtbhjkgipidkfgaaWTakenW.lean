/-
  The law WindowTaken, walked.
-/
import Derived.Test.YtbhjkgipidkfgaaWAlive
namespace Go.Proofs.Ytbhjkgipidkfgaa
open Go.RowKit
attribute [local irreducible] newW takeW growW shiftW creditW

set_option maxRecDepth 100000 in
set_option maxHeartbeats 4000000 in
theorem taken_walk (size n : Int) (w : World) : Calls Try.prog 5 #[.int .i64 size, .int .i64 n] w (Fine w) := by
  have HL := hid alive_ok
  by_cases h : 0 ≤ size ∧ size ≤ 2147483647
  · have HN : Hid (∀ w, Calls Try.prog 10 #[.int .i64 size] w fun e w' => e = .returned (.tuple #[.agg #[.int .i64 size, .int .i64 size, .int .i64 0], .bool true]) ∧ Keeps nobody w w') := new_as size (newW_yes h)
    obtain ⟨h0, h1⟩ := h
    by_cases ha : 0 ≤ n
    · by_cases hb : n ≤ size
      · by_cases hz : n = 0
        · subst hz
          have HT : Hid (∀ w, Calls Try.prog 12 #[.agg #[.int .i64 size, .int .i64 size, .int .i64 0], .int .i64 0] w fun e w' => e = .returned (.tuple #[.agg #[.int .i64 size, .int .i64 size, .int .i64 0], .bool true]) ∧ Keeps nobody w w') := take_as ⟨size, size, 0⟩ 0 (x := ⟨size, size, 0⟩) (b := true) (takeW_yes ⟨ha, hb⟩ |>.trans (by simp)) (by simp only; omega)
          go_enter Try.func5, Try.ntmps5
          go_wp2_with fail
          refine Calls.mono (HN.out _) ?_
          rintro e w1 ⟨rfl, k1⟩
          have HZ := hid (wb_new 25 w w1 k1 ⟨size, size, 0⟩)
          clear k1
          go_wp2_with fail
          refine Calls.mono (HL.out _) ?_
          rintro e w2 ⟨rfl, k2⟩
          have h2 := HZ.out.quiet k2
          obtain ⟨b0, b1, b2, bf, hlt⟩ := h2.cells
          have H2 := hid h2
          clear h2 k2 HZ
          simp only at b0 b1 b2
          go_wp2_with fail
          refine Calls.mono (HT.out _) ?_
          rintro e w3 ⟨rfl, k3⟩
          clear b0 b1 b2 bf hlt
          have h3 := H2.out.quiet k3
          obtain ⟨b0, b1, b2, bf, hlt⟩ := h3.cells
          have H3 := hid h3
          clear h3 k3 H2
          simp only at b0 b1 b2
          go_wp2
          go_ret
          exact ⟨rfl, below_of_keeps (H3.out.keeps.alloc _)⟩
        · have HT : Hid (∀ w, Calls Try.prog 12 #[.agg #[.int .i64 size, .int .i64 size, .int .i64 0], .int .i64 n] w fun e w' => e = .returned (.tuple #[.agg #[.int .i64 (size - n), .int .i64 size, .int .i64 0], .bool true]) ∧ Keeps nobody w w') := take_as ⟨size, size, 0⟩ n (takeW_yes ⟨ha, hb⟩) (by simp only; omega)
          have HG : Hid (∀ w, Calls Try.prog 14 #[.agg #[.int .i64 (size - n), .int .i64 size, .int .i64 0], .int .i64 n] w fun e w' => e = .returned (.tuple #[.agg #[.int .i64 size, .int .i64 size, .int .i64 0], .bool true]) ∧ Keeps nobody w w') := grow_as ⟨size - n, size, 0⟩ n (x := ⟨size, size, 0⟩) ((growW_yes ⟨⟨by omega, by omega⟩, by simp only; omega⟩).trans (by simp)) (by simp only; omega)
          have HO : Hid (∀ w, Calls Try.prog 12 #[.agg #[.int .i64 (size - n), .int .i64 size, .int .i64 0], .int .i64 (size - n + 1)] w fun e w' => e = .returned (.tuple #[.agg #[.int .i64 (size - n), .int .i64 size, .int .i64 0], .bool false]) ∧ Keeps nobody w w') := take_as ⟨size - n, size, 0⟩ (size - n + 1) (takeW_no (fun e => by have := e.2; simp only at this; omega)) (by simp only; omega)
          have hp : ¬ (n = 0) := hz
          go_enter Try.func5, Try.ntmps5
          go_wp2_with fail
          refine Calls.mono (HN.out _) ?_
          rintro e w1 ⟨rfl, k1⟩
          have HZ := hid (wb_new 25 w w1 k1 ⟨size, size, 0⟩)
          clear k1
          go_wp2_with fail
          refine Calls.mono (HL.out _) ?_
          rintro e w2 ⟨rfl, k2⟩
          have h2 := HZ.out.quiet k2
          obtain ⟨b0, b1, b2, bf, hlt⟩ := h2.cells
          have H2 := hid h2
          clear h2 k2 HZ
          simp only at b0 b1 b2
          go_wp2_with fail
          refine Calls.mono (HT.out _) ?_
          rintro e w3 ⟨rfl, k3⟩
          clear b0 b1 b2 bf hlt
          have h3 := H2.out.quiet k3
          obtain ⟨b0, b1, b2, bf, hlt⟩ := h3.cells
          have H3 := hid h3
          have HY := hid (wb_new 25 w w3 h3.keeps ⟨size - n, size, 0⟩)
          have H3 := hid (h3.quiet (keeps_alloc w3 (.cells #[.int .i64 (size - n), .int .i64 size, .int .i64 0] 25)))
          clear h3 k3 H2
          simp only at b0 b1 b2
          go_wp2_with fail
          refine Calls.mono (HG.out _) ?_
          rintro e w4 ⟨rfl, k4⟩
          clear b0 b1 b2 bf hlt
          have h4 := H3.out.quiet k4
          have y4 := HY.out.quiet k4
          have HU := hid (wb_new 25 w w4 h4.keeps ⟨size, size, 0⟩)
          have H4 := hid (h4.quiet (keeps_alloc w4 (.cells #[.int .i64 size, .int .i64 size, .int .i64 0] 25)))
          have HY := hid (y4.quiet (keeps_alloc w4 (.cells #[.int .i64 size, .int .i64 size, .int .i64 0] 25)))
          obtain ⟨b0, b1, b2, bf, hlt⟩ := y4.cells
          simp only at b0 b1 b2
          clear h4 y4 k4 H3
          go_wp2_with fail
          refine Calls.mono (HO.out _) ?_
          rintro e w5 ⟨rfl, k5⟩
          clear b0 b1 b2 bf hlt
          have h5 := H4.out.quiet k5
          have y5 := HY.out.quiet k5
          have u5 := HU.out.quiet k5
          obtain ⟨b0, b1, b2, bf, hlt⟩ := h5.cells
          obtain ⟨c0, c1, c2, cf, hlc⟩ := y5.cells
          obtain ⟨d0, d1, d2, df, hld⟩ := u5.cells
          simp only at b0 b1 b2 c0 c1 c2 d0 d1 d2
          have H5 := hid h5
          clear h5 y5 u5 k5 H4 HY HU
          go_wp2
          go_ret
          exact ⟨rfl, below_of_keeps (H5.out.keeps.alloc _)⟩
      · have HT : Hid (∀ w, Calls Try.prog 12 #[.agg #[.int .i64 size, .int .i64 size, .int .i64 0], .int .i64 n] w fun e w' => e = .returned (.tuple #[.agg #[.int .i64 size, .int .i64 size, .int .i64 0], .bool false]) ∧ Keeps nobody w w') := take_as ⟨size, size, 0⟩ n (takeW_no (fun e => hb e.2)) (by simp only; omega)
        go_enter Try.func5, Try.ntmps5
        go_wp2_with fail
        refine Calls.mono (HN.out _) ?_
        rintro e w1 ⟨rfl, k1⟩
        have HZ := hid (wb_new 25 w w1 k1 ⟨size, size, 0⟩)
        clear k1
        go_wp2_with fail
        refine Calls.mono (HL.out _) ?_
        rintro e w2 ⟨rfl, k2⟩
        have h2 := HZ.out.quiet k2
        obtain ⟨b0, b1, b2, bf, hlt⟩ := h2.cells
        have H2 := hid h2
        clear h2 k2 HZ
        simp only at b0 b1 b2
        go_wp2_with fail
        refine Calls.mono (HT.out _) ?_
        rintro e w3 ⟨rfl, k3⟩
        clear b0 b1 b2 bf hlt
        have h3 := H2.out.quiet k3
        obtain ⟨b0, b1, b2, bf, hlt⟩ := h3.cells
        have H3 := hid h3
        clear h3 k3 H2
        simp only at b0 b1 b2
        go_wp2
        go_ret
        exact ⟨rfl, below_of_keeps (H3.out.keeps.alloc _)⟩
    · have HT : Hid (∀ w, Calls Try.prog 12 #[.agg #[.int .i64 size, .int .i64 size, .int .i64 0], .int .i64 n] w fun e w' => e = .returned (.tuple #[.agg #[.int .i64 size, .int .i64 size, .int .i64 0], .bool false]) ∧ Keeps nobody w w') := take_as ⟨size, size, 0⟩ n (takeW_no (fun e => ha e.1)) (by simp only; omega)
      go_enter Try.func5, Try.ntmps5
      go_wp2_with fail
      refine Calls.mono (HN.out _) ?_
      rintro e w1 ⟨rfl, k1⟩
      have HZ := hid (wb_new 25 w w1 k1 ⟨size, size, 0⟩)
      clear k1
      go_wp2_with fail
      refine Calls.mono (HL.out _) ?_
      rintro e w2 ⟨rfl, k2⟩
      have h2 := HZ.out.quiet k2
      obtain ⟨b0, b1, b2, bf, hlt⟩ := h2.cells
      have H2 := hid h2
      clear h2 k2 HZ
      simp only at b0 b1 b2
      go_wp2_with fail
      refine Calls.mono (HT.out _) ?_
      rintro e w3 ⟨rfl, k3⟩
      clear b0 b1 b2 bf hlt
      have h3 := H2.out.quiet k3
      obtain ⟨b0, b1, b2, bf, hlt⟩ := h3.cells
      have H3 := hid h3
      clear h3 k3 H2
      simp only at b0 b1 b2
      go_wp2
      go_ret
      exact ⟨rfl, below_of_keeps (H3.out.keeps.alloc _)⟩
  · have HN : Hid (∀ w, Calls Try.prog 10 #[.int .i64 size] w fun e w' => e = .returned (.tuple #[.agg #[.int .i64 0, .int .i64 0, .int .i64 0], .bool false]) ∧ Keeps nobody w w') := new_as size (newW_no h)
    clear h
    go_enter Try.func5, Try.ntmps5
    go_wp2_with fail
    refine Calls.mono (HN.out _) ?_
    rintro e w1 ⟨rfl, k1⟩
    go_wp2_with fail
    refine Calls.mono (HL.out _) ?_
    rintro e w2 ⟨rfl, k2⟩
    go_wp2
    go_ret
    exact ⟨rfl, below_of_keeps ((k1.alloc _).then k2)⟩
end Go.Proofs.Ytbhjkgipidkfgaa
