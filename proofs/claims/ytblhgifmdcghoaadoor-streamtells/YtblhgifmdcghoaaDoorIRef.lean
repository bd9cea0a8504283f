/-
  The reference's Sent, Got: they say the same.
-/
import Derived.Test.YtblhgifmdcghoaaDoorISent
namespace Go.Proofs.YtblhgifmdcghoaaDoor
open Go.RowKit

theorem bad_kind {k : Int} (h : moveB k = false) : (k != 0) = true ∧ (k != 1) = true ∧ (k != 2) = true ∧ (k != 3) = true ∧ (k != 8) = true := by
  simp [moveB, carryB] at h
  simp
  omega
theorem bad_state {s : Int} (h : stateB s = false) : s < 0 ∨ (0 ≤ s ∧ 4 < s) := by
  simp [stateB] at h
  omega
theorem rsent_a (s k : Int) (en : Bool) (w : World) (h : s < 0) : StC w 11 s k en (s, 1) := by
  go_enter Tryd.func11, Tryd.ntmps11
  go_wp2
  exact bodyPost_ret (v := movedV (s, 1)) (by simp [results, Tryd.results11, go_sem, movedV]) rfl ⟨rfl, rfl⟩
theorem rsent_b (s k : Int) (en : Bool) (w : World) (h0 : 0 ≤ s) (h : 4 < s) : StC w 11 s k en (s, 1) := by
  go_enter Tryd.func11, Tryd.ntmps11
  go_wp2
  exact bodyPost_ret (v := movedV (s, 1)) (by simp [results, Tryd.results11, go_sem, movedV]) rfl ⟨rfl, rfl⟩
theorem rsent_c (s k : Int) (en : Bool) (w : World) (h0 : 0 ≤ s) (h4 : s ≤ 4) (g0 : (k != 0) = true) (g1 : (k != 1) = true) (g2 : (k != 2) = true) (g3 : (k != 3) = true) (g8 : (k != 8) = true) : StC w 11 s k en (s, 1) := by
  go_enter Tryd.func11, Tryd.ntmps11
  go_wp2
  exact bodyPost_ret (v := movedV (s, 1)) (by simp [results, Tryd.results11, go_sem, movedV]) rfl ⟨rfl, rfl⟩
theorem rsent_00f (w : World) : StC w 11 0 0 false (0, 8) := by
  go_enter Tryd.func11, Tryd.ntmps11
  go_wp2
  exact bodyPost_ret (v := movedV (0, 8)) (by simp [results, Tryd.results11, go_sem, movedV]) rfl ⟨rfl, rfl⟩
theorem rsent_00t (w : World) : StC w 11 0 0 true (0, 8) := by
  go_enter Tryd.func11, Tryd.ntmps11
  go_wp2
  exact bodyPost_ret (v := movedV (0, 8)) (by simp [results, Tryd.results11, go_sem, movedV]) rfl ⟨rfl, rfl⟩
theorem rsent_01f (w : World) : StC w 11 0 1 false (1, 0) := by
  go_enter Tryd.func11, Tryd.ntmps11
  go_wp2
  exact bodyPost_ret (v := movedV (1, 0)) (by simp [results, Tryd.results11, go_sem, movedV]) rfl ⟨rfl, rfl⟩
theorem rsent_01t (w : World) : StC w 11 0 1 true (2, 0) := by
  go_enter Tryd.func11, Tryd.ntmps11
  go_wp2
  exact bodyPost_ret (v := movedV (2, 0)) (by simp [results, Tryd.results11, go_sem, movedV]) rfl ⟨rfl, rfl⟩
theorem rsent_02f (w : World) : StC w 11 0 2 false (0, 0) := by
  go_enter Tryd.func11, Tryd.ntmps11
  go_wp2
  exact bodyPost_ret (v := movedV (0, 0)) (by simp [results, Tryd.results11, go_sem, movedV]) rfl ⟨rfl, rfl⟩
theorem rsent_02t (w : World) : StC w 11 0 2 true (0, 0) := by
  go_enter Tryd.func11, Tryd.ntmps11
  go_wp2
  exact bodyPost_ret (v := movedV (0, 0)) (by simp [results, Tryd.results11, go_sem, movedV]) rfl ⟨rfl, rfl⟩
theorem rsent_03f (w : World) : StC w 11 0 3 false (0, 8) := by
  go_enter Tryd.func11, Tryd.ntmps11
  go_wp2
  exact bodyPost_ret (v := movedV (0, 8)) (by simp [results, Tryd.results11, go_sem, movedV]) rfl ⟨rfl, rfl⟩
theorem rsent_03t (w : World) : StC w 11 0 3 true (0, 8) := by
  go_enter Tryd.func11, Tryd.ntmps11
  go_wp2
  exact bodyPost_ret (v := movedV (0, 8)) (by simp [results, Tryd.results11, go_sem, movedV]) rfl ⟨rfl, rfl⟩
theorem rsent_08f (w : World) : StC w 11 0 8 false (0, 8) := by
  go_enter Tryd.func11, Tryd.ntmps11
  go_wp2
  exact bodyPost_ret (v := movedV (0, 8)) (by simp [results, Tryd.results11, go_sem, movedV]) rfl ⟨rfl, rfl⟩
theorem rsent_08t (w : World) : StC w 11 0 8 true (0, 8) := by
  go_enter Tryd.func11, Tryd.ntmps11
  go_wp2
  exact bodyPost_ret (v := movedV (0, 8)) (by simp [results, Tryd.results11, go_sem, movedV]) rfl ⟨rfl, rfl⟩
theorem rsent_10f (w : World) : StC w 11 1 0 false (1, 0) := by
  go_enter Tryd.func11, Tryd.ntmps11
  go_wp2
  exact bodyPost_ret (v := movedV (1, 0)) (by simp [results, Tryd.results11, go_sem, movedV]) rfl ⟨rfl, rfl⟩
theorem rsent_10t (w : World) : StC w 11 1 0 true (2, 0) := by
  go_enter Tryd.func11, Tryd.ntmps11
  go_wp2
  exact bodyPost_ret (v := movedV (2, 0)) (by simp [results, Tryd.results11, go_sem, movedV]) rfl ⟨rfl, rfl⟩
theorem rsent_11f (w : World) : StC w 11 1 1 false (1, 0) := by
  go_enter Tryd.func11, Tryd.ntmps11
  go_wp2
  exact bodyPost_ret (v := movedV (1, 0)) (by simp [results, Tryd.results11, go_sem, movedV]) rfl ⟨rfl, rfl⟩
theorem rsent_11t (w : World) : StC w 11 1 1 true (2, 0) := by
  go_enter Tryd.func11, Tryd.ntmps11
  go_wp2
  exact bodyPost_ret (v := movedV (2, 0)) (by simp [results, Tryd.results11, go_sem, movedV]) rfl ⟨rfl, rfl⟩
theorem rsent_12f (w : World) : StC w 11 1 2 false (1, 0) := by
  go_enter Tryd.func11, Tryd.ntmps11
  go_wp2
  exact bodyPost_ret (v := movedV (1, 0)) (by simp [results, Tryd.results11, go_sem, movedV]) rfl ⟨rfl, rfl⟩
theorem rsent_12t (w : World) : StC w 11 1 2 true (1, 0) := by
  go_enter Tryd.func11, Tryd.ntmps11
  go_wp2
  exact bodyPost_ret (v := movedV (1, 0)) (by simp [results, Tryd.results11, go_sem, movedV]) rfl ⟨rfl, rfl⟩
theorem rsent_13f (w : World) : StC w 11 1 3 false (4, 0) := by
  go_enter Tryd.func11, Tryd.ntmps11
  go_wp2
  exact bodyPost_ret (v := movedV (4, 0)) (by simp [results, Tryd.results11, go_sem, movedV]) rfl ⟨rfl, rfl⟩
theorem rsent_13t (w : World) : StC w 11 1 3 true (4, 0) := by
  go_enter Tryd.func11, Tryd.ntmps11
  go_wp2
  exact bodyPost_ret (v := movedV (4, 0)) (by simp [results, Tryd.results11, go_sem, movedV]) rfl ⟨rfl, rfl⟩
theorem rsent_18f (w : World) : StC w 11 1 8 false (1, 0) := by
  go_enter Tryd.func11, Tryd.ntmps11
  go_wp2
  exact bodyPost_ret (v := movedV (1, 0)) (by simp [results, Tryd.results11, go_sem, movedV]) rfl ⟨rfl, rfl⟩
theorem rsent_18t (w : World) : StC w 11 1 8 true (1, 0) := by
  go_enter Tryd.func11, Tryd.ntmps11
  go_wp2
  exact bodyPost_ret (v := movedV (1, 0)) (by simp [results, Tryd.results11, go_sem, movedV]) rfl ⟨rfl, rfl⟩
theorem rsent_20f (w : World) : StC w 11 2 0 false (2, 8) := by
  go_enter Tryd.func11, Tryd.ntmps11
  go_wp2
  exact bodyPost_ret (v := movedV (2, 8)) (by simp [results, Tryd.results11, go_sem, movedV]) rfl ⟨rfl, rfl⟩
theorem rsent_20t (w : World) : StC w 11 2 0 true (2, 8) := by
  go_enter Tryd.func11, Tryd.ntmps11
  go_wp2
  exact bodyPost_ret (v := movedV (2, 8)) (by simp [results, Tryd.results11, go_sem, movedV]) rfl ⟨rfl, rfl⟩
theorem rsent_21f (w : World) : StC w 11 2 1 false (2, 8) := by
  go_enter Tryd.func11, Tryd.ntmps11
  go_wp2
  exact bodyPost_ret (v := movedV (2, 8)) (by simp [results, Tryd.results11, go_sem, movedV]) rfl ⟨rfl, rfl⟩
theorem rsent_21t (w : World) : StC w 11 2 1 true (2, 8) := by
  go_enter Tryd.func11, Tryd.ntmps11
  go_wp2
  exact bodyPost_ret (v := movedV (2, 8)) (by simp [results, Tryd.results11, go_sem, movedV]) rfl ⟨rfl, rfl⟩
theorem rsent_22f (w : World) : StC w 11 2 2 false (2, 0) := by
  go_enter Tryd.func11, Tryd.ntmps11
  go_wp2
  exact bodyPost_ret (v := movedV (2, 0)) (by simp [results, Tryd.results11, go_sem, movedV]) rfl ⟨rfl, rfl⟩
theorem rsent_22t (w : World) : StC w 11 2 2 true (2, 0) := by
  go_enter Tryd.func11, Tryd.ntmps11
  go_wp2
  exact bodyPost_ret (v := movedV (2, 0)) (by simp [results, Tryd.results11, go_sem, movedV]) rfl ⟨rfl, rfl⟩
theorem rsent_23f (w : World) : StC w 11 2 3 false (4, 0) := by
  go_enter Tryd.func11, Tryd.ntmps11
  go_wp2
  exact bodyPost_ret (v := movedV (4, 0)) (by simp [results, Tryd.results11, go_sem, movedV]) rfl ⟨rfl, rfl⟩
theorem rsent_23t (w : World) : StC w 11 2 3 true (4, 0) := by
  go_enter Tryd.func11, Tryd.ntmps11
  go_wp2
  exact bodyPost_ret (v := movedV (4, 0)) (by simp [results, Tryd.results11, go_sem, movedV]) rfl ⟨rfl, rfl⟩
theorem rsent_28f (w : World) : StC w 11 2 8 false (2, 0) := by
  go_enter Tryd.func11, Tryd.ntmps11
  go_wp2
  exact bodyPost_ret (v := movedV (2, 0)) (by simp [results, Tryd.results11, go_sem, movedV]) rfl ⟨rfl, rfl⟩
theorem rsent_28t (w : World) : StC w 11 2 8 true (2, 0) := by
  go_enter Tryd.func11, Tryd.ntmps11
  go_wp2
  exact bodyPost_ret (v := movedV (2, 0)) (by simp [results, Tryd.results11, go_sem, movedV]) rfl ⟨rfl, rfl⟩
theorem rsent_30f (w : World) : StC w 11 3 0 false (3, 0) := by
  go_enter Tryd.func11, Tryd.ntmps11
  go_wp2
  exact bodyPost_ret (v := movedV (3, 0)) (by simp [results, Tryd.results11, go_sem, movedV]) rfl ⟨rfl, rfl⟩
theorem rsent_30t (w : World) : StC w 11 3 0 true (4, 0) := by
  go_enter Tryd.func11, Tryd.ntmps11
  go_wp2
  exact bodyPost_ret (v := movedV (4, 0)) (by simp [results, Tryd.results11, go_sem, movedV]) rfl ⟨rfl, rfl⟩
theorem rsent_31f (w : World) : StC w 11 3 1 false (3, 0) := by
  go_enter Tryd.func11, Tryd.ntmps11
  go_wp2
  exact bodyPost_ret (v := movedV (3, 0)) (by simp [results, Tryd.results11, go_sem, movedV]) rfl ⟨rfl, rfl⟩
theorem rsent_31t (w : World) : StC w 11 3 1 true (4, 0) := by
  go_enter Tryd.func11, Tryd.ntmps11
  go_wp2
  exact bodyPost_ret (v := movedV (4, 0)) (by simp [results, Tryd.results11, go_sem, movedV]) rfl ⟨rfl, rfl⟩
theorem rsent_32f (w : World) : StC w 11 3 2 false (3, 0) := by
  go_enter Tryd.func11, Tryd.ntmps11
  go_wp2
  exact bodyPost_ret (v := movedV (3, 0)) (by simp [results, Tryd.results11, go_sem, movedV]) rfl ⟨rfl, rfl⟩
theorem rsent_32t (w : World) : StC w 11 3 2 true (3, 0) := by
  go_enter Tryd.func11, Tryd.ntmps11
  go_wp2
  exact bodyPost_ret (v := movedV (3, 0)) (by simp [results, Tryd.results11, go_sem, movedV]) rfl ⟨rfl, rfl⟩
theorem rsent_33f (w : World) : StC w 11 3 3 false (4, 0) := by
  go_enter Tryd.func11, Tryd.ntmps11
  go_wp2
  exact bodyPost_ret (v := movedV (4, 0)) (by simp [results, Tryd.results11, go_sem, movedV]) rfl ⟨rfl, rfl⟩
theorem rsent_33t (w : World) : StC w 11 3 3 true (4, 0) := by
  go_enter Tryd.func11, Tryd.ntmps11
  go_wp2
  exact bodyPost_ret (v := movedV (4, 0)) (by simp [results, Tryd.results11, go_sem, movedV]) rfl ⟨rfl, rfl⟩
theorem rsent_38f (w : World) : StC w 11 3 8 false (3, 0) := by
  go_enter Tryd.func11, Tryd.ntmps11
  go_wp2
  exact bodyPost_ret (v := movedV (3, 0)) (by simp [results, Tryd.results11, go_sem, movedV]) rfl ⟨rfl, rfl⟩
theorem rsent_38t (w : World) : StC w 11 3 8 true (3, 0) := by
  go_enter Tryd.func11, Tryd.ntmps11
  go_wp2
  exact bodyPost_ret (v := movedV (3, 0)) (by simp [results, Tryd.results11, go_sem, movedV]) rfl ⟨rfl, rfl⟩
theorem rsent_40f (w : World) : StC w 11 4 0 false (4, 12) := by
  go_enter Tryd.func11, Tryd.ntmps11
  go_wp2
  exact bodyPost_ret (v := movedV (4, 12)) (by simp [results, Tryd.results11, go_sem, movedV]) rfl ⟨rfl, rfl⟩
theorem rsent_40t (w : World) : StC w 11 4 0 true (4, 12) := by
  go_enter Tryd.func11, Tryd.ntmps11
  go_wp2
  exact bodyPost_ret (v := movedV (4, 12)) (by simp [results, Tryd.results11, go_sem, movedV]) rfl ⟨rfl, rfl⟩
theorem rsent_41f (w : World) : StC w 11 4 1 false (4, 12) := by
  go_enter Tryd.func11, Tryd.ntmps11
  go_wp2
  exact bodyPost_ret (v := movedV (4, 12)) (by simp [results, Tryd.results11, go_sem, movedV]) rfl ⟨rfl, rfl⟩
theorem rsent_41t (w : World) : StC w 11 4 1 true (4, 12) := by
  go_enter Tryd.func11, Tryd.ntmps11
  go_wp2
  exact bodyPost_ret (v := movedV (4, 12)) (by simp [results, Tryd.results11, go_sem, movedV]) rfl ⟨rfl, rfl⟩
theorem rsent_42f (w : World) : StC w 11 4 2 false (4, 0) := by
  go_enter Tryd.func11, Tryd.ntmps11
  go_wp2
  exact bodyPost_ret (v := movedV (4, 0)) (by simp [results, Tryd.results11, go_sem, movedV]) rfl ⟨rfl, rfl⟩
theorem rsent_42t (w : World) : StC w 11 4 2 true (4, 0) := by
  go_enter Tryd.func11, Tryd.ntmps11
  go_wp2
  exact bodyPost_ret (v := movedV (4, 0)) (by simp [results, Tryd.results11, go_sem, movedV]) rfl ⟨rfl, rfl⟩
theorem rsent_43f (w : World) : StC w 11 4 3 false (4, 12) := by
  go_enter Tryd.func11, Tryd.ntmps11
  go_wp2
  exact bodyPost_ret (v := movedV (4, 12)) (by simp [results, Tryd.results11, go_sem, movedV]) rfl ⟨rfl, rfl⟩
theorem rsent_43t (w : World) : StC w 11 4 3 true (4, 12) := by
  go_enter Tryd.func11, Tryd.ntmps11
  go_wp2
  exact bodyPost_ret (v := movedV (4, 12)) (by simp [results, Tryd.results11, go_sem, movedV]) rfl ⟨rfl, rfl⟩
theorem rsent_48f (w : World) : StC w 11 4 8 false (4, 12) := by
  go_enter Tryd.func11, Tryd.ntmps11
  go_wp2
  exact bodyPost_ret (v := movedV (4, 12)) (by simp [results, Tryd.results11, go_sem, movedV]) rfl ⟨rfl, rfl⟩
theorem rsent_48t (w : World) : StC w 11 4 8 true (4, 12) := by
  go_enter Tryd.func11, Tryd.ntmps11
  go_wp2
  exact bodyPost_ret (v := movedV (4, 12)) (by simp [results, Tryd.results11, go_sem, movedV]) rfl ⟨rfl, rfl⟩
theorem rsent_ok (s k : Int) (en : Bool) (w : World) : StC w 11 s k en (sentA s k en) := by
  cases hs : stateB s with
  | false =>
    have e : sentA s k en = (s, 1) := by simp [sentA, hs]
    rw [e]
    rcases bad_state hs with h | ⟨h0, h4⟩
    · exact rsent_a s k en w h
    · exact rsent_b s k en w h0 h4
  | true =>
    cases hm : moveB k with
    | false =>
      have e : sentA s k en = (s, 1) := by simp [sentA, hm]
      rw [e]
      obtain ⟨g0, g1, g2, g3, g8⟩ := bad_kind hm
      have h : 0 ≤ s ∧ s ≤ 4 := by simpa [stateB] using hs
      exact rsent_c s k en w h.1 h.2 g0 g1 g2 g3 g8
    | true =>
      rcases states_five hs with rfl | rfl | rfl | rfl | rfl
      · rcases moves_five hm with rfl | rfl | rfl | rfl | rfl
        · cases en with
          | false => exact rsent_00f w
          | true => exact rsent_00t w
        · cases en with
          | false => exact rsent_01f w
          | true => exact rsent_01t w
        · cases en with
          | false => exact rsent_02f w
          | true => exact rsent_02t w
        · cases en with
          | false => exact rsent_03f w
          | true => exact rsent_03t w
        · cases en with
          | false => exact rsent_08f w
          | true => exact rsent_08t w
      · rcases moves_five hm with rfl | rfl | rfl | rfl | rfl
        · cases en with
          | false => exact rsent_10f w
          | true => exact rsent_10t w
        · cases en with
          | false => exact rsent_11f w
          | true => exact rsent_11t w
        · cases en with
          | false => exact rsent_12f w
          | true => exact rsent_12t w
        · cases en with
          | false => exact rsent_13f w
          | true => exact rsent_13t w
        · cases en with
          | false => exact rsent_18f w
          | true => exact rsent_18t w
      · rcases moves_five hm with rfl | rfl | rfl | rfl | rfl
        · cases en with
          | false => exact rsent_20f w
          | true => exact rsent_20t w
        · cases en with
          | false => exact rsent_21f w
          | true => exact rsent_21t w
        · cases en with
          | false => exact rsent_22f w
          | true => exact rsent_22t w
        · cases en with
          | false => exact rsent_23f w
          | true => exact rsent_23t w
        · cases en with
          | false => exact rsent_28f w
          | true => exact rsent_28t w
      · rcases moves_five hm with rfl | rfl | rfl | rfl | rfl
        · cases en with
          | false => exact rsent_30f w
          | true => exact rsent_30t w
        · cases en with
          | false => exact rsent_31f w
          | true => exact rsent_31t w
        · cases en with
          | false => exact rsent_32f w
          | true => exact rsent_32t w
        · cases en with
          | false => exact rsent_33f w
          | true => exact rsent_33t w
        · cases en with
          | false => exact rsent_38f w
          | true => exact rsent_38t w
      · rcases moves_five hm with rfl | rfl | rfl | rfl | rfl
        · cases en with
          | false => exact rsent_40f w
          | true => exact rsent_40t w
        · cases en with
          | false => exact rsent_41f w
          | true => exact rsent_41t w
        · cases en with
          | false => exact rsent_42f w
          | true => exact rsent_42t w
        · cases en with
          | false => exact rsent_43f w
          | true => exact rsent_43t w
        · cases en with
          | false => exact rsent_48f w
          | true => exact rsent_48t w
theorem rgot_a (s k : Int) (en : Bool) (w : World) (h : s < 0) : StC w 13 s k en (s, 1) := by
  go_enter Tryd.func13, Tryd.ntmps13
  go_wp2
  exact bodyPost_ret (v := movedV (s, 1)) (by simp [results, Tryd.results13, go_sem, movedV]) rfl ⟨rfl, rfl⟩
theorem rgot_b (s k : Int) (en : Bool) (w : World) (h0 : 0 ≤ s) (h : 4 < s) : StC w 13 s k en (s, 1) := by
  go_enter Tryd.func13, Tryd.ntmps13
  go_wp2
  exact bodyPost_ret (v := movedV (s, 1)) (by simp [results, Tryd.results13, go_sem, movedV]) rfl ⟨rfl, rfl⟩
theorem rgot_c (s k : Int) (en : Bool) (w : World) (h0 : 0 ≤ s) (h4 : s ≤ 4) (g0 : (k != 0) = true) (g1 : (k != 1) = true) (g2 : (k != 2) = true) (g3 : (k != 3) = true) (g8 : (k != 8) = true) : StC w 13 s k en (s, 1) := by
  go_enter Tryd.func13, Tryd.ntmps13
  go_wp2
  exact bodyPost_ret (v := movedV (s, 1)) (by simp [results, Tryd.results13, go_sem, movedV]) rfl ⟨rfl, rfl⟩
theorem rgot_00f (w : World) : StC w 13 0 0 false (0, 11) := by
  go_enter Tryd.func13, Tryd.ntmps13
  go_wp2
  exact bodyPost_ret (v := movedV (0, 11)) (by simp [results, Tryd.results13, go_sem, movedV]) rfl ⟨rfl, rfl⟩
theorem rgot_00t (w : World) : StC w 13 0 0 true (0, 11) := by
  go_enter Tryd.func13, Tryd.ntmps13
  go_wp2
  exact bodyPost_ret (v := movedV (0, 11)) (by simp [results, Tryd.results13, go_sem, movedV]) rfl ⟨rfl, rfl⟩
theorem rgot_01f (w : World) : StC w 13 0 1 false (0, 11) := by
  go_enter Tryd.func13, Tryd.ntmps13
  go_wp2
  exact bodyPost_ret (v := movedV (0, 11)) (by simp [results, Tryd.results13, go_sem, movedV]) rfl ⟨rfl, rfl⟩
theorem rgot_01t (w : World) : StC w 13 0 1 true (0, 11) := by
  go_enter Tryd.func13, Tryd.ntmps13
  go_wp2
  exact bodyPost_ret (v := movedV (0, 11)) (by simp [results, Tryd.results13, go_sem, movedV]) rfl ⟨rfl, rfl⟩
theorem rgot_02f (w : World) : StC w 13 0 2 false (0, 0) := by
  go_enter Tryd.func13, Tryd.ntmps13
  go_wp2
  exact bodyPost_ret (v := movedV (0, 0)) (by simp [results, Tryd.results13, go_sem, movedV]) rfl ⟨rfl, rfl⟩
theorem rgot_02t (w : World) : StC w 13 0 2 true (0, 0) := by
  go_enter Tryd.func13, Tryd.ntmps13
  go_wp2
  exact bodyPost_ret (v := movedV (0, 0)) (by simp [results, Tryd.results13, go_sem, movedV]) rfl ⟨rfl, rfl⟩
theorem rgot_03f (w : World) : StC w 13 0 3 false (0, 11) := by
  go_enter Tryd.func13, Tryd.ntmps13
  go_wp2
  exact bodyPost_ret (v := movedV (0, 11)) (by simp [results, Tryd.results13, go_sem, movedV]) rfl ⟨rfl, rfl⟩
theorem rgot_03t (w : World) : StC w 13 0 3 true (0, 11) := by
  go_enter Tryd.func13, Tryd.ntmps13
  go_wp2
  exact bodyPost_ret (v := movedV (0, 11)) (by simp [results, Tryd.results13, go_sem, movedV]) rfl ⟨rfl, rfl⟩
theorem rgot_08f (w : World) : StC w 13 0 8 false (0, 11) := by
  go_enter Tryd.func13, Tryd.ntmps13
  go_wp2
  exact bodyPost_ret (v := movedV (0, 11)) (by simp [results, Tryd.results13, go_sem, movedV]) rfl ⟨rfl, rfl⟩
theorem rgot_08t (w : World) : StC w 13 0 8 true (0, 11) := by
  go_enter Tryd.func13, Tryd.ntmps13
  go_wp2
  exact bodyPost_ret (v := movedV (0, 11)) (by simp [results, Tryd.results13, go_sem, movedV]) rfl ⟨rfl, rfl⟩
theorem rgot_10f (w : World) : StC w 13 1 0 false (1, 0) := by
  go_enter Tryd.func13, Tryd.ntmps13
  go_wp2
  exact bodyPost_ret (v := movedV (1, 0)) (by simp [results, Tryd.results13, go_sem, movedV]) rfl ⟨rfl, rfl⟩
theorem rgot_10t (w : World) : StC w 13 1 0 true (3, 0) := by
  go_enter Tryd.func13, Tryd.ntmps13
  go_wp2
  exact bodyPost_ret (v := movedV (3, 0)) (by simp [results, Tryd.results13, go_sem, movedV]) rfl ⟨rfl, rfl⟩
theorem rgot_11f (w : World) : StC w 13 1 1 false (1, 0) := by
  go_enter Tryd.func13, Tryd.ntmps13
  go_wp2
  exact bodyPost_ret (v := movedV (1, 0)) (by simp [results, Tryd.results13, go_sem, movedV]) rfl ⟨rfl, rfl⟩
theorem rgot_11t (w : World) : StC w 13 1 1 true (3, 0) := by
  go_enter Tryd.func13, Tryd.ntmps13
  go_wp2
  exact bodyPost_ret (v := movedV (3, 0)) (by simp [results, Tryd.results13, go_sem, movedV]) rfl ⟨rfl, rfl⟩
theorem rgot_12f (w : World) : StC w 13 1 2 false (1, 0) := by
  go_enter Tryd.func13, Tryd.ntmps13
  go_wp2
  exact bodyPost_ret (v := movedV (1, 0)) (by simp [results, Tryd.results13, go_sem, movedV]) rfl ⟨rfl, rfl⟩
theorem rgot_12t (w : World) : StC w 13 1 2 true (1, 0) := by
  go_enter Tryd.func13, Tryd.ntmps13
  go_wp2
  exact bodyPost_ret (v := movedV (1, 0)) (by simp [results, Tryd.results13, go_sem, movedV]) rfl ⟨rfl, rfl⟩
theorem rgot_13f (w : World) : StC w 13 1 3 false (4, 0) := by
  go_enter Tryd.func13, Tryd.ntmps13
  go_wp2
  exact bodyPost_ret (v := movedV (4, 0)) (by simp [results, Tryd.results13, go_sem, movedV]) rfl ⟨rfl, rfl⟩
theorem rgot_13t (w : World) : StC w 13 1 3 true (4, 0) := by
  go_enter Tryd.func13, Tryd.ntmps13
  go_wp2
  exact bodyPost_ret (v := movedV (4, 0)) (by simp [results, Tryd.results13, go_sem, movedV]) rfl ⟨rfl, rfl⟩
theorem rgot_18f (w : World) : StC w 13 1 8 false (1, 0) := by
  go_enter Tryd.func13, Tryd.ntmps13
  go_wp2
  exact bodyPost_ret (v := movedV (1, 0)) (by simp [results, Tryd.results13, go_sem, movedV]) rfl ⟨rfl, rfl⟩
theorem rgot_18t (w : World) : StC w 13 1 8 true (1, 0) := by
  go_enter Tryd.func13, Tryd.ntmps13
  go_wp2
  exact bodyPost_ret (v := movedV (1, 0)) (by simp [results, Tryd.results13, go_sem, movedV]) rfl ⟨rfl, rfl⟩
theorem rgot_20f (w : World) : StC w 13 2 0 false (2, 0) := by
  go_enter Tryd.func13, Tryd.ntmps13
  go_wp2
  exact bodyPost_ret (v := movedV (2, 0)) (by simp [results, Tryd.results13, go_sem, movedV]) rfl ⟨rfl, rfl⟩
theorem rgot_20t (w : World) : StC w 13 2 0 true (4, 0) := by
  go_enter Tryd.func13, Tryd.ntmps13
  go_wp2
  exact bodyPost_ret (v := movedV (4, 0)) (by simp [results, Tryd.results13, go_sem, movedV]) rfl ⟨rfl, rfl⟩
theorem rgot_21f (w : World) : StC w 13 2 1 false (2, 0) := by
  go_enter Tryd.func13, Tryd.ntmps13
  go_wp2
  exact bodyPost_ret (v := movedV (2, 0)) (by simp [results, Tryd.results13, go_sem, movedV]) rfl ⟨rfl, rfl⟩
theorem rgot_21t (w : World) : StC w 13 2 1 true (4, 0) := by
  go_enter Tryd.func13, Tryd.ntmps13
  go_wp2
  exact bodyPost_ret (v := movedV (4, 0)) (by simp [results, Tryd.results13, go_sem, movedV]) rfl ⟨rfl, rfl⟩
theorem rgot_22f (w : World) : StC w 13 2 2 false (2, 0) := by
  go_enter Tryd.func13, Tryd.ntmps13
  go_wp2
  exact bodyPost_ret (v := movedV (2, 0)) (by simp [results, Tryd.results13, go_sem, movedV]) rfl ⟨rfl, rfl⟩
theorem rgot_22t (w : World) : StC w 13 2 2 true (2, 0) := by
  go_enter Tryd.func13, Tryd.ntmps13
  go_wp2
  exact bodyPost_ret (v := movedV (2, 0)) (by simp [results, Tryd.results13, go_sem, movedV]) rfl ⟨rfl, rfl⟩
theorem rgot_23f (w : World) : StC w 13 2 3 false (4, 0) := by
  go_enter Tryd.func13, Tryd.ntmps13
  go_wp2
  exact bodyPost_ret (v := movedV (4, 0)) (by simp [results, Tryd.results13, go_sem, movedV]) rfl ⟨rfl, rfl⟩
theorem rgot_23t (w : World) : StC w 13 2 3 true (4, 0) := by
  go_enter Tryd.func13, Tryd.ntmps13
  go_wp2
  exact bodyPost_ret (v := movedV (4, 0)) (by simp [results, Tryd.results13, go_sem, movedV]) rfl ⟨rfl, rfl⟩
theorem rgot_28f (w : World) : StC w 13 2 8 false (2, 0) := by
  go_enter Tryd.func13, Tryd.ntmps13
  go_wp2
  exact bodyPost_ret (v := movedV (2, 0)) (by simp [results, Tryd.results13, go_sem, movedV]) rfl ⟨rfl, rfl⟩
theorem rgot_28t (w : World) : StC w 13 2 8 true (2, 0) := by
  go_enter Tryd.func13, Tryd.ntmps13
  go_wp2
  exact bodyPost_ret (v := movedV (2, 0)) (by simp [results, Tryd.results13, go_sem, movedV]) rfl ⟨rfl, rfl⟩
theorem rgot_30f (w : World) : StC w 13 3 0 false (3, 12) := by
  go_enter Tryd.func13, Tryd.ntmps13
  go_wp2
  exact bodyPost_ret (v := movedV (3, 12)) (by simp [results, Tryd.results13, go_sem, movedV]) rfl ⟨rfl, rfl⟩
theorem rgot_30t (w : World) : StC w 13 3 0 true (3, 12) := by
  go_enter Tryd.func13, Tryd.ntmps13
  go_wp2
  exact bodyPost_ret (v := movedV (3, 12)) (by simp [results, Tryd.results13, go_sem, movedV]) rfl ⟨rfl, rfl⟩
theorem rgot_31f (w : World) : StC w 13 3 1 false (3, 12) := by
  go_enter Tryd.func13, Tryd.ntmps13
  go_wp2
  exact bodyPost_ret (v := movedV (3, 12)) (by simp [results, Tryd.results13, go_sem, movedV]) rfl ⟨rfl, rfl⟩
theorem rgot_31t (w : World) : StC w 13 3 1 true (3, 12) := by
  go_enter Tryd.func13, Tryd.ntmps13
  go_wp2
  exact bodyPost_ret (v := movedV (3, 12)) (by simp [results, Tryd.results13, go_sem, movedV]) rfl ⟨rfl, rfl⟩
theorem rgot_32f (w : World) : StC w 13 3 2 false (3, 0) := by
  go_enter Tryd.func13, Tryd.ntmps13
  go_wp2
  exact bodyPost_ret (v := movedV (3, 0)) (by simp [results, Tryd.results13, go_sem, movedV]) rfl ⟨rfl, rfl⟩
theorem rgot_32t (w : World) : StC w 13 3 2 true (3, 0) := by
  go_enter Tryd.func13, Tryd.ntmps13
  go_wp2
  exact bodyPost_ret (v := movedV (3, 0)) (by simp [results, Tryd.results13, go_sem, movedV]) rfl ⟨rfl, rfl⟩
theorem rgot_33f (w : World) : StC w 13 3 3 false (4, 0) := by
  go_enter Tryd.func13, Tryd.ntmps13
  go_wp2
  exact bodyPost_ret (v := movedV (4, 0)) (by simp [results, Tryd.results13, go_sem, movedV]) rfl ⟨rfl, rfl⟩
theorem rgot_33t (w : World) : StC w 13 3 3 true (4, 0) := by
  go_enter Tryd.func13, Tryd.ntmps13
  go_wp2
  exact bodyPost_ret (v := movedV (4, 0)) (by simp [results, Tryd.results13, go_sem, movedV]) rfl ⟨rfl, rfl⟩
theorem rgot_38f (w : World) : StC w 13 3 8 false (3, 0) := by
  go_enter Tryd.func13, Tryd.ntmps13
  go_wp2
  exact bodyPost_ret (v := movedV (3, 0)) (by simp [results, Tryd.results13, go_sem, movedV]) rfl ⟨rfl, rfl⟩
theorem rgot_38t (w : World) : StC w 13 3 8 true (3, 0) := by
  go_enter Tryd.func13, Tryd.ntmps13
  go_wp2
  exact bodyPost_ret (v := movedV (3, 0)) (by simp [results, Tryd.results13, go_sem, movedV]) rfl ⟨rfl, rfl⟩
theorem rgot_40f (w : World) : StC w 13 4 0 false (4, 12) := by
  go_enter Tryd.func13, Tryd.ntmps13
  go_wp2
  exact bodyPost_ret (v := movedV (4, 12)) (by simp [results, Tryd.results13, go_sem, movedV]) rfl ⟨rfl, rfl⟩
theorem rgot_40t (w : World) : StC w 13 4 0 true (4, 12) := by
  go_enter Tryd.func13, Tryd.ntmps13
  go_wp2
  exact bodyPost_ret (v := movedV (4, 12)) (by simp [results, Tryd.results13, go_sem, movedV]) rfl ⟨rfl, rfl⟩
theorem rgot_41f (w : World) : StC w 13 4 1 false (4, 12) := by
  go_enter Tryd.func13, Tryd.ntmps13
  go_wp2
  exact bodyPost_ret (v := movedV (4, 12)) (by simp [results, Tryd.results13, go_sem, movedV]) rfl ⟨rfl, rfl⟩
theorem rgot_41t (w : World) : StC w 13 4 1 true (4, 12) := by
  go_enter Tryd.func13, Tryd.ntmps13
  go_wp2
  exact bodyPost_ret (v := movedV (4, 12)) (by simp [results, Tryd.results13, go_sem, movedV]) rfl ⟨rfl, rfl⟩
theorem rgot_42f (w : World) : StC w 13 4 2 false (4, 0) := by
  go_enter Tryd.func13, Tryd.ntmps13
  go_wp2
  exact bodyPost_ret (v := movedV (4, 0)) (by simp [results, Tryd.results13, go_sem, movedV]) rfl ⟨rfl, rfl⟩
theorem rgot_42t (w : World) : StC w 13 4 2 true (4, 0) := by
  go_enter Tryd.func13, Tryd.ntmps13
  go_wp2
  exact bodyPost_ret (v := movedV (4, 0)) (by simp [results, Tryd.results13, go_sem, movedV]) rfl ⟨rfl, rfl⟩
theorem rgot_43f (w : World) : StC w 13 4 3 false (4, 0) := by
  go_enter Tryd.func13, Tryd.ntmps13
  go_wp2
  exact bodyPost_ret (v := movedV (4, 0)) (by simp [results, Tryd.results13, go_sem, movedV]) rfl ⟨rfl, rfl⟩
theorem rgot_43t (w : World) : StC w 13 4 3 true (4, 0) := by
  go_enter Tryd.func13, Tryd.ntmps13
  go_wp2
  exact bodyPost_ret (v := movedV (4, 0)) (by simp [results, Tryd.results13, go_sem, movedV]) rfl ⟨rfl, rfl⟩
theorem rgot_48f (w : World) : StC w 13 4 8 false (4, 0) := by
  go_enter Tryd.func13, Tryd.ntmps13
  go_wp2
  exact bodyPost_ret (v := movedV (4, 0)) (by simp [results, Tryd.results13, go_sem, movedV]) rfl ⟨rfl, rfl⟩
theorem rgot_48t (w : World) : StC w 13 4 8 true (4, 0) := by
  go_enter Tryd.func13, Tryd.ntmps13
  go_wp2
  exact bodyPost_ret (v := movedV (4, 0)) (by simp [results, Tryd.results13, go_sem, movedV]) rfl ⟨rfl, rfl⟩
theorem rgot_ok (s k : Int) (en : Bool) (w : World) : StC w 13 s k en (gotA s k en) := by
  cases hs : stateB s with
  | false =>
    have e : gotA s k en = (s, 1) := by simp [gotA, hs]
    rw [e]
    rcases bad_state hs with h | ⟨h0, h4⟩
    · exact rgot_a s k en w h
    · exact rgot_b s k en w h0 h4
  | true =>
    cases hm : moveB k with
    | false =>
      have e : gotA s k en = (s, 1) := by simp [gotA, hm]
      rw [e]
      obtain ⟨g0, g1, g2, g3, g8⟩ := bad_kind hm
      have h : 0 ≤ s ∧ s ≤ 4 := by simpa [stateB] using hs
      exact rgot_c s k en w h.1 h.2 g0 g1 g2 g3 g8
    | true =>
      rcases states_five hs with rfl | rfl | rfl | rfl | rfl
      · rcases moves_five hm with rfl | rfl | rfl | rfl | rfl
        · cases en with
          | false => exact rgot_00f w
          | true => exact rgot_00t w
        · cases en with
          | false => exact rgot_01f w
          | true => exact rgot_01t w
        · cases en with
          | false => exact rgot_02f w
          | true => exact rgot_02t w
        · cases en with
          | false => exact rgot_03f w
          | true => exact rgot_03t w
        · cases en with
          | false => exact rgot_08f w
          | true => exact rgot_08t w
      · rcases moves_five hm with rfl | rfl | rfl | rfl | rfl
        · cases en with
          | false => exact rgot_10f w
          | true => exact rgot_10t w
        · cases en with
          | false => exact rgot_11f w
          | true => exact rgot_11t w
        · cases en with
          | false => exact rgot_12f w
          | true => exact rgot_12t w
        · cases en with
          | false => exact rgot_13f w
          | true => exact rgot_13t w
        · cases en with
          | false => exact rgot_18f w
          | true => exact rgot_18t w
      · rcases moves_five hm with rfl | rfl | rfl | rfl | rfl
        · cases en with
          | false => exact rgot_20f w
          | true => exact rgot_20t w
        · cases en with
          | false => exact rgot_21f w
          | true => exact rgot_21t w
        · cases en with
          | false => exact rgot_22f w
          | true => exact rgot_22t w
        · cases en with
          | false => exact rgot_23f w
          | true => exact rgot_23t w
        · cases en with
          | false => exact rgot_28f w
          | true => exact rgot_28t w
      · rcases moves_five hm with rfl | rfl | rfl | rfl | rfl
        · cases en with
          | false => exact rgot_30f w
          | true => exact rgot_30t w
        · cases en with
          | false => exact rgot_31f w
          | true => exact rgot_31t w
        · cases en with
          | false => exact rgot_32f w
          | true => exact rgot_32t w
        · cases en with
          | false => exact rgot_33f w
          | true => exact rgot_33t w
        · cases en with
          | false => exact rgot_38f w
          | true => exact rgot_38t w
      · rcases moves_five hm with rfl | rfl | rfl | rfl | rfl
        · cases en with
          | false => exact rgot_40f w
          | true => exact rgot_40t w
        · cases en with
          | false => exact rgot_41f w
          | true => exact rgot_41t w
        · cases en with
          | false => exact rgot_42f w
          | true => exact rgot_42t w
        · cases en with
          | false => exact rgot_43f w
          | true => exact rgot_43t w
        · cases en with
          | false => exact rgot_48f w
          | true => exact rgot_48t w
end Go.Proofs.YtblhgifmdcghoaaDoor
