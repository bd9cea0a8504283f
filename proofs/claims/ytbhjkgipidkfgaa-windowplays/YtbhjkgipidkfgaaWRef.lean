/-
  The reference's Take, Grow, Shift, Credit; the law's Ref.
-/
import Derived.Test.YtbhjkgipidkfgaaWCode
namespace Go.Proofs.Ytbhjkgipidkfgaa
open Go.RowKit

set_option maxRecDepth 100000 in
set_option maxHeartbeats 1000000 in
theorem rtake_ok (s : Wd) (n : Int) (w : World) (h1 : s.left ≤ 9223372036854775807) : Calls Try.prog 13 #[wval s, .int .i64 n] w fun e w' => e = .returned (pairW (takeW s n)) ∧ Keeps nobody w w' := by
  obtain ⟨a, b, c⟩ := s
  simp only at h1
  by_cases ha : 0 ≤ n
  · by_cases hb : n ≤ a
    · have e : takeW ⟨a, b, c⟩ n = (⟨a - n, b, c⟩, true) := by simp [takeW, ha, hb]
      rw [e]
      clear e
      go_enter Try.func13, Try.ntmps13
      go_wp2
      exact bodyPost_ret (v := pairW (⟨a - n, b, c⟩, true)) (by simp [results, Try.results13, go_sem]) rfl ⟨rfl, ((Keeps.refl _ _).alloc _).alloc _⟩
    · have e : takeW ⟨a, b, c⟩ n = (⟨a, b, c⟩, false) := by simp [takeW, hb]
      rw [e]
      clear e
      go_enter Try.func13, Try.ntmps13
      go_wp2
      exact bodyPost_ret (v := pairW (⟨a, b, c⟩, false)) (by simp [results, Try.results13, go_sem]) rfl ⟨rfl, ((Keeps.refl _ _).alloc _).alloc _⟩
  · have e : takeW ⟨a, b, c⟩ n = (⟨a, b, c⟩, false) := by simp [takeW, ha]
    rw [e]
    clear e
    go_enter Try.func13, Try.ntmps13
    go_wp2
    exact bodyPost_ret (v := pairW (⟨a, b, c⟩, false)) (by simp [results, Try.results13, go_sem]) rfl ⟨rfl, ((Keeps.refl _ _).alloc _).alloc _⟩
set_option maxRecDepth 100000 in
set_option maxHeartbeats 1000000 in
theorem rgrow_ok (s : Wd) (n : Int) (w : World) (h1 : -(9223372036854775808 : Int) ≤ s.left) : Calls Try.prog 15 #[wval s, .int .i64 n] w fun e w' => e = .returned (pairW (growW s n)) ∧ Keeps nobody w w' := by
  obtain ⟨a, b, c⟩ := s
  simp only at h1
  by_cases ha : 1 ≤ n
  · by_cases hb : n ≤ 2147483647
    · by_cases hm : a ≤ 2147483647 - n
      · have e : growW ⟨a, b, c⟩ n = (⟨a + n, b, c⟩, true) := by simp [growW, ha, hb, hm]
        rw [e]
        clear e
        go_enter Try.func15, Try.ntmps15
        go_wp2
        exact bodyPost_ret (v := pairW (⟨a + n, b, c⟩, true)) (by simp [results, Try.results15, go_sem]) rfl ⟨rfl, ((Keeps.refl _ _).alloc _).alloc _⟩
      · have e : growW ⟨a, b, c⟩ n = (⟨a, b, c⟩, false) := by simp [growW, hm]
        rw [e]
        clear e
        go_enter Try.func15, Try.ntmps15
        go_wp2
        exact bodyPost_ret (v := pairW (⟨a, b, c⟩, false)) (by simp [results, Try.results15, go_sem]) rfl ⟨rfl, ((Keeps.refl _ _).alloc _).alloc _⟩
    · have e : growW ⟨a, b, c⟩ n = (⟨a, b, c⟩, false) := by simp [growW, hb]
      rw [e]
      clear e
      go_enter Try.func15, Try.ntmps15
      go_wp2
      exact bodyPost_ret (v := pairW (⟨a, b, c⟩, false)) (by simp [results, Try.results15, go_sem]) rfl ⟨rfl, ((Keeps.refl _ _).alloc _).alloc _⟩
  · have e : growW ⟨a, b, c⟩ n = (⟨a, b, c⟩, false) := by simp [growW, ha]
    rw [e]
    clear e
    go_enter Try.func15, Try.ntmps15
    go_wp2
    exact bodyPost_ret (v := pairW (⟨a, b, c⟩, false)) (by simp [results, Try.results15, go_sem]) rfl ⟨rfl, ((Keeps.refl _ _).alloc _).alloc _⟩
set_option maxRecDepth 100000 in
set_option maxHeartbeats 1000000 in
theorem rshift_ok (s : Wd) (n : Int) (w : World) (hs : Small s) (hn : -(1152921504606846976 : Int) ≤ n ∧ n ≤ 1152921504606846976) : Calls Try.prog 17 #[wval s, .int .i64 n] w fun e w' => e = .returned (pairW (shiftW s n)) ∧ Keeps nobody w w' := by
  obtain ⟨a, b, c⟩ := s
  obtain ⟨l0, l1, s0, s1, o0, o1⟩ := hs
  obtain ⟨n0, n1⟩ := hn
  simp only at l0 l1 s0 s1 o0 o1
  clear o0 o1
  by_cases ha : 0 ≤ b + n
  · by_cases hb : b + n ≤ 2147483647
    · by_cases hm : a + n ≤ 2147483647
      · have e : shiftW ⟨a, b, c⟩ n = (⟨a + n, b + n, c⟩, true) := by simp [shiftW, ha, hb, hm]
        rw [e]
        clear e
        go_enter Try.func17, Try.ntmps17
        go_wp2
        exact bodyPost_ret (v := pairW (⟨a + n, b + n, c⟩, true)) (by simp [results, Try.results17, go_sem]) rfl ⟨rfl, ((Keeps.refl _ _).alloc _).alloc _⟩
      · have e : shiftW ⟨a, b, c⟩ n = (⟨a, b, c⟩, false) := by simp [shiftW, hm]
        rw [e]
        clear e
        go_enter Try.func17, Try.ntmps17
        go_wp2
        exact bodyPost_ret (v := pairW (⟨a, b, c⟩, false)) (by simp [results, Try.results17, go_sem]) rfl ⟨rfl, ((Keeps.refl _ _).alloc _).alloc _⟩
    · have e : shiftW ⟨a, b, c⟩ n = (⟨a, b, c⟩, false) := by simp [shiftW, hb]
      rw [e]
      clear e
      go_enter Try.func17, Try.ntmps17
      go_wp2
      exact bodyPost_ret (v := pairW (⟨a, b, c⟩, false)) (by simp [results, Try.results17, go_sem]) rfl ⟨rfl, ((Keeps.refl _ _).alloc _).alloc _⟩
  · have e : shiftW ⟨a, b, c⟩ n = (⟨a, b, c⟩, false) := by simp [shiftW, ha]
    rw [e]
    clear e
    go_enter Try.func17, Try.ntmps17
    go_wp2
    exact bodyPost_ret (v := pairW (⟨a, b, c⟩, false)) (by simp [results, Try.results17, go_sem]) rfl ⟨rfl, ((Keeps.refl _ _).alloc _).alloc _⟩
set_option maxRecDepth 100000 in
set_option maxHeartbeats 1000000 in
theorem rcredit_ok (s : Wd) (n : Int) (w : World) (hs : Small s) (hn : n ≤ 1152921504606846976) : Calls Try.prog 20 #[wval s, .int .i64 n] w fun e w' => e = .returned (toldW (creditW s n)) ∧ Keeps nobody w w' := by
  obtain ⟨a, b, c⟩ := s
  obtain ⟨l0, l1, s0, s1, o0, o1⟩ := hs
  simp only at l0 l1 s0 s1 o0 o1
  have hm0 : ∀ ts t W, (Builtin.max_ ts t #[.int .i64 n, .int .i64 0]).run Try.prog W = .ok (.int .i64 (max n 0)) W := fun ts t W => by rw [run_max_int2]; rw [show (if 0 > n then (0 : Int) else n) = max n 0 by split <;> omega]
  have hq : b.tdiv 2 = b / 2 := Int.tdiv_eq_ediv_of_nonneg s0
  have hm1 : ∀ ts t W, (Builtin.max_ ts t #[.int .i64 (b / 2), .int .i64 1]).run Try.prog W = .ok (.int .i64 (halfW b)) W := fun ts t W => by rw [run_max_int2]; unfold halfW; rw [show (if 1 > b / 2 then (1 : Int) else b / 2) = max (b / 2) 1 by split <;> omega]
  have hb0 : 0 ≤ b / 2 := by omega
  have hb1 : b / 2 ≤ 1073741823 := by omega
  have e : creditW ⟨a, b, c⟩ n = if c + max n 0 < halfW b then (⟨a, b, c + max n 0⟩, 0) else (⟨a + (c + max n 0), b, 0⟩, c + max n 0) := rfl
  have hx0 : 0 ≤ max n 0 := by omega
  have hx1 : max n 0 ≤ 1152921504606846976 := by omega
  rw [e]
  clear e
  generalize max n 0 = x at *
  generalize halfW b = h at *
  generalize b / 2 = q at *
  by_cases hh : c + x < h
  · rw [if_pos hh]
    go_enter Try.func20, Try.ntmps20
    go_wp2
    exact bodyPost_ret (v := toldW (⟨a, b, c + x⟩, 0)) (by simp [results, Try.results20, go_sem]) rfl ⟨rfl, ((Keeps.refl _ _).alloc _).alloc _⟩
  · rw [if_neg hh]
    go_enter Try.func20, Try.ntmps20
    go_wp2
    exact bodyPost_ret (v := toldW (⟨a + (c + x), b, 0⟩, c + x)) (by simp [results, Try.results20, go_sem]) rfl ⟨rfl, ((Keeps.refl _ _).alloc _).alloc _⟩
theorem ref_ok (s : Wd) (w : World) : Calls Try.prog 11 #[wval s] w fun e w' => e = .returned (wval s) ∧ Keeps nobody w w' := by
  obtain ⟨a, b, c⟩ := s
  go_enter Try.func11, Try.ntmps11
  go_wp2
  exact bodyPost_ret (v := wval ⟨a, b, c⟩) (by simp [results, Try.results11, go_sem]) rfl ⟨rfl, ((Keeps.refl _ _).alloc _).alloc _⟩
end Go.Proofs.Ytbhjkgipidkfgaa
