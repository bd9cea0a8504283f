/-
  The law VarintShort as a walk.
-/
import Derived.Test.YtgmhbkmmcboadaaAliveV
namespace Go.Proofs.Ytgmhbkmmcboadaa
open Go.RowKit

theorem short_no (x n m : Int) (w : World) (h : ¬ putIs 0 x n ∨ putIs 0 x n ∧ ¬ putIs 0 x m) : Calls Try.prog 5 #[.int .i64 x, .int .i64 n, .int .i64 m] w (Fine w) := by
  have hA : Hid (∀ w, Calls Try.prog 9 #[] w fun e w' => e = .returned (.bool true) ∧ Below w.heap.size w w') := alive_true
  rcases h with h | ⟨h, h'⟩
  · go_enter Try.func5, Try.ntmps5
    go_wp2_with fail
    refine (put_no 0 x n w (by decide) (by decide) h).mono ?_
    rintro e w1 ⟨rfl, hB⟩
    go_wp2_with fail
    refine (put_ok 0 x m w1 (by decide) (by decide)).mono ?_
    rintro e w2 ⟨rfl, hB2⟩
    go_wp2_with fail
    refine (hA.out _).mono ?_
    rintro e w3 ⟨rfl, hB3⟩
    go_wp2_with fail
    go_ret
    exact ⟨rfl, (hB.trans (hB2.mono hB.size)).trans (hB3.mono (Nat.le_trans hB.size hB2.size))⟩
  · go_enter Try.func5, Try.ntmps5
    go_wp2_with fail
    refine (put_yes 0 x n w (by decide) (by decide) h).mono ?_
    rintro e w1 ⟨rfl, hB⟩
    go_wp2_with fail
    refine (put_no 0 x m w1 (by decide) (by decide) h').mono ?_
    rintro e w2 ⟨rfl, hB2⟩
    go_wp2_with fail
    refine (hA.out _).mono ?_
    rintro e w3 ⟨rfl, hB3⟩
    go_wp2_with fail
    go_ret
    exact ⟨rfl, (hB.trans (hB2.mono hB.size)).trans (hB3.mono (Nat.le_trans hB.size hB2.size))⟩

theorem short_yes (x n m : Int) (w : World) (hn : putIs 0 x n) (hm : putIs 0 x m) : Calls Try.prog 5 #[.int .i64 x, .int .i64 n, .int .i64 m] w (Fine w) := by
  obtain ⟨h1, h2, hn0, hn1, _⟩ := id hn
  obtain ⟨_, _, hm0, hm1, _⟩ := id hm
  obtain ⟨N, rfl⟩ := Int.eq_ofNat_of_zero_le hn0
  obtain ⟨M, rfl⟩ := Int.eq_ofNat_of_zero_le hm0
  have hA : Hid (∀ w, Calls Try.prog 9 #[] w fun e w' => e = .returned (.bool true) ∧ Below w.heap.size w w') := alive_true
  have hP1 : Hid (∀ w, Calls Try.prog 10 #[.int .u8 0, .int .i64 x, .int .i64 (N : Int)] w fun e w' => e = .returned (.tuple #[.string (str (putN 0 (full x) N)), .bool true]) ∧ Below w.heap.size w w') := fun w => put_yes 0 x N w (by decide) (by decide) hn
  have hP2 : Hid (∀ w, Calls Try.prog 10 #[.int .u8 0, .int .i64 x, .int .i64 (M : Int)] w fun e w' => e = .returned (.tuple #[.string (str (putN 0 (full x) M)), .bool true]) ∧ Below w.heap.size w w') := fun w => put_yes 0 x M w (by decide) (by decide) hm
  obtain ⟨hM1, hM2⟩ := full_bounds x h1 h2
  have hpow := full_pow x h1 h2
  have hl1 := length_putN 0 (full x) N (by omega)
  have hs1 := str_size (putN 0 (full x) N)
  have hs2 := str_size (putN 0 (full x) M)
  have hone : (putN 0 (full x) N).length = 1 ↔ N < full x := by
    by_cases h : N < full x
    · rw [putN, if_pos h]; simp [h]
    · have := length_tail7_pos (N - full x)
      rw [putN, if_neg h, List.length_cons]; omega
  have hmono : N ≤ M → (putN 0 (full x) N).length ≤ (putN 0 (full x) M).length := by
    intro hle
    by_cases h : N < full x
    · rw [hone.2 h]; exact (length_putN 0 (full x) M (by omega)).1
    · have e1 : putN 0 (full x) N = (0 + full x) :: tail7 (N - full x) := by rw [putN, if_neg h]
      have e2 : putN 0 (full x) M = (0 + full x) :: tail7 (M - full x) := by rw [putN, if_neg (by omega)]
      rw [e1, e2]
      simpa using length_tail7_mono (N - full x) (M - full x) (by omega)
  rw [← hs1, ← hs2] at hmono
  rw [← hs1] at hl1 hone
  clear hs1 hs2 hn hm
  generalize str (putN 0 (full x) N) = A at *
  generalize str (putN 0 (full x) M) = B at *
  generalize full x = F at *
  have hAB : M < N ∨ N ≤ M ∧ A.size ≤ B.size := by
    by_cases h : N ≤ M
    · exact .inr ⟨h, hmono h⟩
    · exact .inl (by omega)
  clear hmono
  by_cases hlt : N < F
  all_goals
    have hsz := hone
    simp only [hlt, iff_true, iff_false] at hsz
    clear hone
    cases hb1 : ((A.size : Int) == 1)
    all_goals
      first
        | (exfalso; simp at hb1; omega)
        | rcases hAB with hNM | ⟨hNM, hAB⟩
    all_goals
      go_enter Try.func5, Try.ntmps5
      go_wp2_with fail
      refine Calls.mono (hP1.out _) ?_
      rintro e w1 ⟨rfl, hB⟩
      go_wp2_with fail
      refine Calls.mono (hP2.out _) ?_
      rintro e w2 ⟨rfl, hB2⟩
      go_wp2_with fail
      refine (hA.out _).mono ?_
      rintro e w3 ⟨rfl, hB3⟩
      go_wp2_with fail
      go_ret
      refine ⟨congrArg (fun b => Ending.returned (Value.bool b)) (show _ = true from ?_), (hB.trans (hB2.mono hB.size)).trans (hB3.mono (Nat.le_trans hB.size hB2.size))⟩
      first
        | rfl
        | (simp; omega)

theorem varintShort_true (x n m : Int) (w : World) : Calls Try.prog 5 #[.int .i64 x, .int .i64 n, .int .i64 m] w (Fine w) := by
  by_cases hn : putIs 0 x n
  · by_cases hm : putIs 0 x m
    · exact short_yes x n m w hn hm
    · exact short_no x n m w (.inr ⟨hn, hm⟩)
  · exact short_no x n m w (.inl hn)
end Go.Proofs.Ytgmhbkmmcboadaa
