/-
  The law IdsRise, walked.
-/
import Derived.Test.YtpjmiiihninhnaaALive
import Derived.Deep.DeepCutAuto
namespace Go.Proofs.Ytpjmiiihninhnaa
open Go.RowKit

/-- What is known behind k calls of Next, where left numbers are left behind the first one. -/
def riseI (left k : Nat) : Idd := ⟨2147483647 - 2 * (left : Int), 2147483645 - 2 * (left : Int) + 2 * ((min k (left + 1) : Nat) : Int)⟩
theorem rise_start (left : Nat) : newI (2147483647 - 2 * (left : Int)) = riseI left 0 := by
  simp only [newI, riseI, Idd.mk.injEq, true_and]
  omega
theorem rise_right (left : Nat) (h : left ≤ 50) : rightB (2147483647 - 2 * (left : Int)) = true := by
  rw [right_iff]
  omega
theorem rise_next (left k : Nat) (h : k ≤ left) : nextI (riseI left k) = (riseI left (k + 1), 2147483647 - 2 * (left : Int) + 2 * (k : Int), true) := by
  unfold nextI riseI
  simp only
  rw [if_pos (by omega)]
  simp only [Prod.mk.injEq, Idd.mk.injEq, true_and, and_true]
  omega
theorem rise_done (left k : Nat) (h : left < k) : nextI (riseI left k) = (riseI left (k + 1), 0, false) := by
  unfold nextI riseI
  simp only
  rw [if_neg (by omega)]
  simp only [Prod.mk.injEq, Idd.mk.injEq, true_and, and_true]
  omega
theorem rise_more (left k : Nat) (h : k < left) : leftI (riseI left (k + 1)) = true := by
  unfold leftI riseI
  exact decide_eq_true (by simp only; omega)
theorem rise_last (left k : Nat) (h : left ≤ k) : leftI (riseI left (k + 1)) = false := by
  unfold leftI riseI
  exact decide_eq_false (by simp only; omega)
theorem rise_fit (left k : Nat) (h : left ≤ 50) : Fit (riseI left k) := by
  unfold riseI
  exact ⟨by simp only; omega, by simp only; omega, by simp only; omega, by simp only; omega, by simp only; omega⟩
theorem rise_given (left n k : Nat) (h : left ≤ 50) (hk : k ≤ left) (hn : k < n) : kindI (riseI left n) (2147483647 - 2 * (left : Int) + 2 * (k : Int)) = 1 := by
  unfold kindI
  rw [if_pos ((right_iff _).2 (by omega))]
  unfold riseI
  rw [if_pos (by simp only; omega)]
theorem rise_not (left n k : Nat) (h : left ≤ 50) (hk : k ≤ left) (hn : n ≤ k) : kindI (riseI left n) (2147483647 - 2 * (left : Int) + 2 * (k : Int)) = 2 := by
  unfold kindI
  rw [if_pos ((right_iff _).2 (by omega))]
  unfold riseI
  rw [if_neg (by simp only; omega)]
theorem rise_even (left n : Nat) : kindI (riseI left n) (2147483647 - 2 * (left : Int) - 1) = 0 := by
  unfold kindI
  rw [if_neg (by rw [right_iff]; omega)]
theorem rise_zero (x : Idd) : kindI x 0 = 0 := by
  unfold kindI
  rw [if_neg (by decide)]
theorem rise_beyond (x : Idd) : kindI x 2147483649 = 0 := by
  unfold kindI
  rw [if_neg (by decide)]
theorem rise_first (left k : Nat) (h : left ≤ 50) : 1 ≤ (riseI left k).first := (rise_fit left k h).first1
attribute [local irreducible] riseI nextI leftI kindI newI
set_option maxRecDepth 100000 in
theorem rise_bad (a n : Int) (w : World) (h : a < 0 ∨ 50 < a ∨ n < 0 ∨ 80 < n) : Calls Try.prog 4 #[.int .i64 a, .int .i64 n] w (Fine w) := by
  have HA : Hid (∀ W, Calls Try.prog 6 #[] W fun e w' => e = .returned (.bool true) ∧ Keeps nobody W w') := alive_ok
  by_cases q0 : a < 0
  · clear h
    go_enter Try.func4, Try.ntmps4
    go_wp2_with fail
    refine Calls.mono (HA.out _) ?_
    rintro e w1 ⟨rfl, k1⟩
    go_wp2
    go_ret
    exact ⟨rfl, below_of_keeps k1⟩
  · have p0 : 0 ≤ a := by omega
    by_cases q1 : 50 < a
    · clear h
      go_enter Try.func4, Try.ntmps4
      go_wp2_with fail
      refine Calls.mono (HA.out _) ?_
      rintro e w1 ⟨rfl, k1⟩
      go_wp2
      go_ret
      exact ⟨rfl, below_of_keeps k1⟩
    · have p1 : a ≤ 50 := by omega
      by_cases q2 : n < 0
      · clear h
        go_enter Try.func4, Try.ntmps4
        go_wp2_with fail
        refine Calls.mono (HA.out _) ?_
        rintro e w1 ⟨rfl, k1⟩
        go_wp2
        go_ret
        exact ⟨rfl, below_of_keeps k1⟩
      · have p2 : 0 ≤ n := by omega
        have q3 : 80 < n := by omega
        clear h q0 q1 q2
        go_enter Try.func4, Try.ntmps4
        go_wp2_with fail
        refine Calls.mono (HA.out _) ?_
        rintro e w1 ⟨rfl, k1⟩
        go_wp2
        go_ret
        exact ⟨rfl, below_of_keeps k1⟩
set_option maxRecDepth 100000 in
set_option maxHeartbeats 4000000 in
theorem rise_main (left n : Nat) (w : World) (h1 : left ≤ 50) (h2 : n ≤ 80) : Calls Try.prog 4 #[.int .i64 (left : Int), .int .i64 (n : Int)] w (Fine w) := by
  have HA : Hid (∀ W, Calls Try.prog 6 #[] W fun e w' => e = .returned (.bool true) ∧ Keeps nobody W w') := alive_ok
  have HN : Hid (∀ W, Hold w W [] → Calls Try.prog 7 #[.int .i64 (2147483647 - 2 * (left : Int))] W fun e w' => ∃ g, e = .returned (.pointer (some ⟨g, 0, none⟩)) ∧ Hid (Hold w w' [idT g (riseI left 0)])) := fun W H => by
    rw [← rise_start]; exact t_new H _ (rise_right left h1)
  have HT : Hid (∀ W g x r m o, Hold w W [idT g x] → Fit x → nextI x = (r, m, o) → Calls Try.prog 8 #[.pointer (some ⟨g, 0, none⟩)] W fun e w' => e = .returned (.tuple #[.int .i64 m, .bool o]) ∧ Hid (Hold w w' [idT g r])) := fun W g x r m o H F hr => t_next H F hr
  have HL : Hid (∀ W g x o, Hold w W [idT g x] → 1 ≤ x.first → leftI x = o → Calls Try.prog 9 #[.pointer (some ⟨g, 0, none⟩)] W fun e w' => e = .returned (.bool o) ∧ W = w') := fun W g x o H h ho => t_left H h ho
  have HK0 : Hid (∀ W g x id k, Hold w W [idT g x] → 1 ≤ x.first → kindI x id = k → Calls Try.prog 10 #[.pointer (some ⟨g, 0, none⟩), .int .i64 id] W fun e w' => e = .returned (.int .i64 k) ∧ W = w') := fun W g x id k H h hk => t_kind H h id hk
  go_enter Try.func4, Try.ntmps4
  go_wp2_with fail
  refine Calls.mono (HA.out _) ?_
  rintro e w0 ⟨rfl, k0⟩
  have H0 := hid ((hold_start w).quiet k0)
  clear HA k0
  go_wp2_with fail
  refine Calls.mono (HN.out _ H0.out) ?_
  rintro e w1 ⟨g, rfl, H1⟩
  clear H0 HN
  go_wp2_with fail
  go_loopg [7] n (fun q iv wr => ∃ k : Nat, iv = .int .i64 (k : Int) ∧ q + k = n ∧ Hid (Hold w wr [idT g (riseI left k)]))
  case atStart => exact ⟨0, rfl, rfl, H1⟩
  case round =>
    clear H1
    obtain ⟨k, rfl, hk, HJ⟩ := hrel
    by_cases hj : k < n
    · have HK := hid hk
      have hk80 : k ≤ 80 := by omega
      clear hk HK0
      by_cases hl : k ≤ left
      · by_cases hm : k < left
        · have HT2 := hid (HT.out wr g _ _ _ _ HJ.out (rise_fit left k h1) (rise_next left k hl))
          have HL2 := hid (fun W H => HL.out W g _ true H (rise_first left (k + 1) h1) (rise_more left k hm))
          clear HT HL HJ
          go_wp2_with fail
          refine Calls.mono HT2.out ?_
          rintro e w3 ⟨rfl, H3⟩
          go_wp2_with fail
          refine Calls.mono (HL2.out _ H3.out) ?_
          rintro e w4 ⟨rfl, rfl⟩
          go_wp2
          have hk := HK.out
          go_roundg (gk - 1)
          case measure => omega
          case rel => exact ⟨k + 1, by simp, by omega, H3⟩
        · have HT2 := hid (HT.out wr g _ _ _ _ HJ.out (rise_fit left k h1) (rise_next left k hl))
          have HL2 := hid (fun W H => HL.out W g _ false H (rise_first left (k + 1) h1) (rise_last left k (by omega)))
          clear HT HL HJ
          go_wp2_with fail
          refine Calls.mono HT2.out ?_
          rintro e w3 ⟨rfl, H3⟩
          go_wp2_with fail
          refine Calls.mono (HL2.out _ H3.out) ?_
          rintro e w4 ⟨rfl, rfl⟩
          go_wp2
          have hk := HK.out
          go_roundg (gk - 1)
          case measure => omega
          case rel => exact ⟨k + 1, by simp, by omega, H3⟩
      · have hm : ¬ k < left := by omega
        have HT2 := hid (HT.out wr g _ _ _ _ HJ.out (rise_fit left k h1) (rise_done left k (by omega)))
        have HL2 := hid (fun W H => HL.out W g _ false H (rise_first left (k + 1) h1) (rise_last left k (by omega)))
        clear HT HL HJ
        go_wp2_with fail
        refine Calls.mono HT2.out ?_
        rintro e w3 ⟨rfl, H3⟩
        go_wp2_with fail
        refine Calls.mono (HL2.out _ H3.out) ?_
        rintro e w4 ⟨rfl, rfl⟩
        go_wp2
        have hk := HK.out
        go_roundg (gk - 1)
        case measure => omega
        case rel => exact ⟨k + 1, by simp, by omega, H3⟩
    · have hkn : k = n := by omega
      subst hkn
      clear hk hj HT HL
      go_wp2_with fail
      go_loopg [10] (left + 1) (fun q iv wr => ∃ j : Nat, iv = .int .i64 (j : Int) ∧ q + j = left + 1 ∧ Hid (Hold w wr [idT g (riseI left k)]))
      case atStart => exact ⟨0, rfl, rfl, HJ⟩
      case round =>
        clear HJ
        obtain ⟨j, rfl, hq, HJ⟩ := hrel
        by_cases hjl : j ≤ left
        · have HQ := hid hq
          clear hq
          by_cases hn : j < k
          · have HK2 := hid (HK0.out wr g _ _ 1 HJ.out (rise_first left k h1) (rise_given left k j h1 hjl hn))
            clear HK0
            go_wp2_with fail
            refine Calls.mono HK2.out ?_
            rintro e w4 ⟨rfl, rfl⟩
            go_wp2
            have hq := HQ.out
            go_roundg (gk - 1)
            case measure => omega
            case rel => exact ⟨j + 1, by simp, by omega, HJ⟩
          · have HK2 := hid (HK0.out wr g _ _ 2 HJ.out (rise_first left k h1) (rise_not left k j h1 hjl (by omega)))
            clear HK0
            go_wp2_with fail
            refine Calls.mono HK2.out ?_
            rintro e w4 ⟨rfl, rfl⟩
            go_wp2
            have hq := HQ.out
            go_roundg (gk - 1)
            case measure => omega
            case rel => exact ⟨j + 1, by simp, by omega, HJ⟩
        · have KA := hid (HK0.out wr g _ _ 0 HJ.out (rise_first left k h1) (rise_even left k))
          have KB := hid (HK0.out wr g _ _ 0 HJ.out (rise_first left k h1) (rise_zero _))
          have KC := hid (HK0.out wr g _ _ 0 HJ.out (rise_first left k h1) (rise_beyond _))
          clear HK0 hq
          go_wp2_with fail
          refine Calls.mono KA.out ?_
          rintro e w4 ⟨rfl, rfl⟩
          go_wp2_with fail
          refine Calls.mono KB.out ?_
          rintro e w4 ⟨rfl, rfl⟩
          go_wp2_with fail
          refine Calls.mono KC.out ?_
          rintro e w4 ⟨rfl, rfl⟩
          go_wp2
          go_ret
          exact ⟨rfl, HJ.out.below⟩
theorem rise_walk (a n : Int) (w : World) : Calls Try.prog 4 #[.int .i64 a, .int .i64 n] w (Fine w) := by
  by_cases h : a < 0 ∨ 50 < a ∨ n < 0 ∨ 80 < n
  · exact rise_bad a n w h
  · obtain ⟨a, rfl⟩ := Int.eq_ofNat_of_zero_le (show 0 ≤ a by omega)
    obtain ⟨n, rfl⟩ := Int.eq_ofNat_of_zero_le (show 0 ≤ n by omega)
    exact rise_main a n w (by omega) (by omega)
end Go.Proofs.Ytpjmiiihninhnaa
