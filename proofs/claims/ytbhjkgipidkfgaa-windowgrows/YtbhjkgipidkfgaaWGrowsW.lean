/-
  The law WindowGrows, walked.
-/
import Derived.Test.YtbhjkgipidkfgaaWAlive
namespace Go.Proofs.Ytbhjkgipidkfgaa
open Go.RowKit
attribute [local irreducible] newW takeW growW shiftW creditW

set_option maxRecDepth 100000 in
set_option maxHeartbeats 2000000 in
theorem grows_walk (left n : Int) (w : World) : Calls Try.prog 7 #[.int .i64 left, .int .i64 n] w (Fine w) := by
  have HL := hid alive_ok
  by_cases h : 0 ≤ left ∧ left ≤ 2147483647
  · have HN : Hid (∀ w, Calls Try.prog 10 #[.int .i64 left] w fun e w' => e = .returned (.tuple #[.agg #[.int .i64 left, .int .i64 left, .int .i64 0], .bool true]) ∧ Keeps nobody w w') := new_as left (newW_yes h)
    obtain ⟨h0, h1⟩ := h
    by_cases ha : 1 ≤ n
    · by_cases hb : n ≤ 2147483647
      · by_cases hm : left ≤ 2147483647 - n
        · have HG : Hid (∀ w, Calls Try.prog 14 #[.agg #[.int .i64 left, .int .i64 left, .int .i64 0], .int .i64 n] w fun e w' => e = .returned (.tuple #[.agg #[.int .i64 (left + n), .int .i64 left, .int .i64 0], .bool true]) ∧ Keeps nobody w w') := grow_as ⟨left, left, 0⟩ n (growW_yes ⟨⟨ha, hb⟩, hm⟩) (by simp only; omega)
          go_enter Try.func7, Try.ntmps7
          go_wp2_with fail
          refine Calls.mono (HN.out _) ?_
          rintro e w1 ⟨rfl, k1⟩
          have HZ := hid (wb_new 25 w w1 k1 ⟨left, left, 0⟩)
          clear k1
          go_wp2_with fail
          refine Calls.mono (HL.out _) ?_
          rintro e w2 ⟨rfl, k2⟩
          have h2 := HZ.out.quiet k2
          obtain ⟨b0, b1, b2, bf, hlt⟩ := h2.cells
          have H2 := hid h2
          clear h2 k2 HZ
          simp only at b0 b1 b2
          go_wp2_with fail
          refine Calls.mono (HG.out _) ?_
          rintro e w3 ⟨rfl, k3⟩
          clear b0 b1 b2 bf hlt
          have h3 := H2.out.quiet k3
          obtain ⟨b0, b1, b2, bf, hlt⟩ := h3.cells
          have H3 := hid h3
          clear h3 k3 H2
          simp only at b0 b1 b2
          go_wp2
          go_ret
          exact ⟨rfl, below_of_keeps (H3.out.keeps.alloc _)⟩
        · have HG : Hid (∀ w, Calls Try.prog 14 #[.agg #[.int .i64 left, .int .i64 left, .int .i64 0], .int .i64 n] w fun e w' => e = .returned (.tuple #[.agg #[.int .i64 left, .int .i64 left, .int .i64 0], .bool false]) ∧ Keeps nobody w w') := grow_as ⟨left, left, 0⟩ n (growW_no (fun e => hm e.2)) (by simp only; omega)
          go_enter Try.func7, Try.ntmps7
          go_wp2_with fail
          refine Calls.mono (HN.out _) ?_
          rintro e w1 ⟨rfl, k1⟩
          have HZ := hid (wb_new 25 w w1 k1 ⟨left, left, 0⟩)
          clear k1
          go_wp2_with fail
          refine Calls.mono (HL.out _) ?_
          rintro e w2 ⟨rfl, k2⟩
          have h2 := HZ.out.quiet k2
          obtain ⟨b0, b1, b2, bf, hlt⟩ := h2.cells
          have H2 := hid h2
          clear h2 k2 HZ
          simp only at b0 b1 b2
          go_wp2_with fail
          refine Calls.mono (HG.out _) ?_
          rintro e w3 ⟨rfl, k3⟩
          clear b0 b1 b2 bf hlt
          have h3 := H2.out.quiet k3
          obtain ⟨b0, b1, b2, bf, hlt⟩ := h3.cells
          have H3 := hid h3
          clear h3 k3 H2
          simp only at b0 b1 b2
          go_wp2
          go_ret
          exact ⟨rfl, below_of_keeps (H3.out.keeps.alloc _)⟩
      · have HG : Hid (∀ w, Calls Try.prog 14 #[.agg #[.int .i64 left, .int .i64 left, .int .i64 0], .int .i64 n] w fun e w' => e = .returned (.tuple #[.agg #[.int .i64 left, .int .i64 left, .int .i64 0], .bool false]) ∧ Keeps nobody w w') := grow_as ⟨left, left, 0⟩ n (growW_no (fun e => hb e.1.2)) (by simp only; omega)
        go_enter Try.func7, Try.ntmps7
        go_wp2_with fail
        refine Calls.mono (HN.out _) ?_
        rintro e w1 ⟨rfl, k1⟩
        have HZ := hid (wb_new 25 w w1 k1 ⟨left, left, 0⟩)
        clear k1
        go_wp2_with fail
        refine Calls.mono (HL.out _) ?_
        rintro e w2 ⟨rfl, k2⟩
        have h2 := HZ.out.quiet k2
        obtain ⟨b0, b1, b2, bf, hlt⟩ := h2.cells
        have H2 := hid h2
        clear h2 k2 HZ
        simp only at b0 b1 b2
        go_wp2_with fail
        refine Calls.mono (HG.out _) ?_
        rintro e w3 ⟨rfl, k3⟩
        clear b0 b1 b2 bf hlt
        have h3 := H2.out.quiet k3
        obtain ⟨b0, b1, b2, bf, hlt⟩ := h3.cells
        have H3 := hid h3
        clear h3 k3 H2
        simp only at b0 b1 b2
        go_wp2
        go_ret
        exact ⟨rfl, below_of_keeps (H3.out.keeps.alloc _)⟩
    · have HG : Hid (∀ w, Calls Try.prog 14 #[.agg #[.int .i64 left, .int .i64 left, .int .i64 0], .int .i64 n] w fun e w' => e = .returned (.tuple #[.agg #[.int .i64 left, .int .i64 left, .int .i64 0], .bool false]) ∧ Keeps nobody w w') := grow_as ⟨left, left, 0⟩ n (growW_no (fun e => ha e.1.1)) (by simp only; omega)
      go_enter Try.func7, Try.ntmps7
      go_wp2_with fail
      refine Calls.mono (HN.out _) ?_
      rintro e w1 ⟨rfl, k1⟩
      have HZ := hid (wb_new 25 w w1 k1 ⟨left, left, 0⟩)
      clear k1
      go_wp2_with fail
      refine Calls.mono (HL.out _) ?_
      rintro e w2 ⟨rfl, k2⟩
      have h2 := HZ.out.quiet k2
      obtain ⟨b0, b1, b2, bf, hlt⟩ := h2.cells
      have H2 := hid h2
      clear h2 k2 HZ
      simp only at b0 b1 b2
      go_wp2_with fail
      refine Calls.mono (HG.out _) ?_
      rintro e w3 ⟨rfl, k3⟩
      clear b0 b1 b2 bf hlt
      have h3 := H2.out.quiet k3
      obtain ⟨b0, b1, b2, bf, hlt⟩ := h3.cells
      have H3 := hid h3
      clear h3 k3 H2
      simp only at b0 b1 b2
      go_wp2
      go_ret
      exact ⟨rfl, below_of_keeps (H3.out.keeps.alloc _)⟩
  · have HN : Hid (∀ w, Calls Try.prog 10 #[.int .i64 left] w fun e w' => e = .returned (.tuple #[.agg #[.int .i64 0, .int .i64 0, .int .i64 0], .bool false]) ∧ Keeps nobody w w') := new_as left (newW_no h)
    clear h
    go_enter Try.func7, Try.ntmps7
    go_wp2_with fail
    refine Calls.mono (HN.out _) ?_
    rintro e w1 ⟨rfl, k1⟩
    go_wp2_with fail
    refine Calls.mono (HL.out _) ?_
    rintro e w2 ⟨rfl, k2⟩
    go_wp2
    go_ret
    exact ⟨rfl, below_of_keeps ((k1.alloc _).then k2)⟩
end Go.Proofs.Ytbhjkgipidkfgaa
