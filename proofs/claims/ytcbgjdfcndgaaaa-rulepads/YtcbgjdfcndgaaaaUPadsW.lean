/-
  The law RulePads as a walk.
-/
import Derived.Test.YtcbgjdfcndgaaaaUCodesW
import Derived.Test.YtcbgjdfcndgaaaaRShortW
namespace Go.Proofs.Ytcbgjdfcndgaaaa
open Go.RowKit

theorem check_pad (y : Nat) (b : ByteArray) (hy : y < 256) (hb : b.size ≤ 100) : checkA ⟨0, 8, 1, str [y] ++ b⟩ = if b.size < y then (1, 11) else (0, 0) := by
  have hr : right ⟨0, 8, 1, str [y] ++ b⟩ := by simp only [right]; refine ⟨by omega, by omega, by omega, ?_⟩; simp [str_size]; omega
  have hp : placed 0 1 = true := rfl
  have hz : ∀ a n, sized 0 a n = true := fun _ _ => rfl
  rw [checkA, if_neg (fun g => g hr)]
  simp only [hp, hz, stripE, pad8, weigh8, strip_pad y b hy]
  by_cases h : b.size < y
  · simp [h, codeOf]
  · simp [h, codeOf]
theorem check_weigh (b : ByteArray) (hb : b.size ≤ 100) : checkA ⟨1, 32, 1, b⟩ = if b.size < 5 then (6, 5) else (0, 0) := by
  have hr : right ⟨1, 32, 1, b⟩ := by simp only [right]; exact ⟨by omega, by omega, by omega, by omega⟩
  have hp : placed 1 1 = true := rfl
  have hz : ∀ a n, sized 1 a n = true := fun _ _ => rfl
  rw [checkA, if_neg (fun g => g hr)]
  simp only [hp, hz, stripE, pad32, weigh32, strip_weigh b]
  by_cases h : b.size < 5
  · simp [h, codeOf]
  · simp [h, codeOf]
attribute [local irreducible] checkA right stripA numL byteAt endOf idOf nums str unpadA behind

theorem rpads_off0 (b : ByteArray) (pad : Int) (W : World) (HA : Hid (∀ w, Calls Try.prog 9 #[] w fun e w' => e = .returned (.bool true) ∧ Keeps nobody w w')) (h : 100 < b.size) : Calls Try.prog 8 #[.string b, .int .i64 pad] W (Fine W) := by
  go_enter Try.func8, Try.ntmps8
  go_wp2_with fail
  refine Calls.mono (HA.out _) ?_
  rintro e w1 ⟨rfl, k1⟩
  go_wp2
  go_ret
  exact ⟨rfl, below_of_keeps k1⟩

theorem rpads_off1 (b : ByteArray) (pad : Int) (W : World) (HA : Hid (∀ w, Calls Try.prog 9 #[] w fun e w' => e = .returned (.bool true) ∧ Keeps nobody w w')) (h0 : b.size ≤ 100) (h : pad < 0) : Calls Try.prog 8 #[.string b, .int .i64 pad] W (Fine W) := by
  go_enter Try.func8, Try.ntmps8
  go_wp2_with fail
  refine Calls.mono (HA.out _) ?_
  rintro e w1 ⟨rfl, k1⟩
  go_wp2
  go_ret
  exact ⟨rfl, below_of_keeps k1⟩

theorem rpads_off2 (b : ByteArray) (pad : Int) (W : World) (HA : Hid (∀ w, Calls Try.prog 9 #[] w fun e w' => e = .returned (.bool true) ∧ Keeps nobody w w')) (h0 : b.size ≤ 100) (h1 : 0 ≤ pad) (h : 255 < pad) : Calls Try.prog 8 #[.string b, .int .i64 pad] W (Fine W) := by
  go_enter Try.func8, Try.ntmps8
  go_wp2_with fail
  refine Calls.mono (HA.out _) ?_
  rintro e w1 ⟨rfl, k1⟩
  go_wp2
  go_ret
  exact ⟨rfl, below_of_keeps k1⟩

set_option maxRecDepth 100000 in
set_option maxHeartbeats 1000000 in
theorem rpads_00 (b : ByteArray) (y : Nat) (W : World) (HA : Hid (∀ w, Calls Try.prog 9 #[] w fun e w' => e = .returned (.bool true) ∧ Keeps nobody w w')) (hs : b.size ≤ 100) (hy : y ≤ 255) (S X : ByteArray) (hS : S.size = 1) (hconv : ∀ w : World, (convert 33 9 (.slice (some ⟨w.heap.size, 0, none⟩) 1 1)).run Try.prog (w.alloc (.cells #[.int .u8 (y : Int)] 5)) = .ok (.string S) (w.alloc (.cells #[.int .u8 (y : Int)] 5))) (hX : S ++ b = X)
    (h1 : y ≤ b.size) (h2 : 5 ≤ b.size)
    (H1 : Hid (∀ w, Calls Try.prog 10 #[.agg #[.int .i64 0, .int .i64 8, .int .i64 1, .string X]] w fun e w' => e = .returned (.tuple #[.int .i64 0, .int .i64 0]) ∧ Keeps nobody w w'))
    (H2 : Hid (∀ w, Calls Try.prog 10 #[.agg #[.int .i64 1, .int .i64 32, .int .i64 1, .string b]] w fun e w' => e = .returned (.tuple #[.int .i64 0, .int .i64 0]) ∧ Keeps nobody w w')) : Calls Try.prog 8 #[.string b, .int .i64 (y : Int)] W (Fine W) := by
  go_enter Try.func8, Try.ntmps8
  go_wp2_with fail
  refine Calls.mono (HA.out _) ?_
  rintro e w1 ⟨rfl, k1⟩
  go_wp2_with fail
  refine Calls.mono (H1.out _) ?_
  rintro e w2 ⟨rfl, k2⟩
  go_wp2_with fail
  refine Calls.mono (H2.out _) ?_
  rintro e w3 ⟨rfl, k3⟩
  have kk := ((k1.alloc _).then k2).then k3
  clear k1 k2 k3 H1 H2 HA hconv
  go_wp2
  go_ret
  exact ⟨by first | rfl | (simp; omega), below_of_keeps kk⟩

set_option maxRecDepth 100000 in
set_option maxHeartbeats 1000000 in
theorem rpads_01 (b : ByteArray) (y : Nat) (W : World) (HA : Hid (∀ w, Calls Try.prog 9 #[] w fun e w' => e = .returned (.bool true) ∧ Keeps nobody w w')) (hs : b.size ≤ 100) (hy : y ≤ 255) (S X : ByteArray) (hS : S.size = 1) (hconv : ∀ w : World, (convert 33 9 (.slice (some ⟨w.heap.size, 0, none⟩) 1 1)).run Try.prog (w.alloc (.cells #[.int .u8 (y : Int)] 5)) = .ok (.string S) (w.alloc (.cells #[.int .u8 (y : Int)] 5))) (hX : S ++ b = X)
    (h1 : y ≤ b.size) (h2 : b.size < 5)
    (H1 : Hid (∀ w, Calls Try.prog 10 #[.agg #[.int .i64 0, .int .i64 8, .int .i64 1, .string X]] w fun e w' => e = .returned (.tuple #[.int .i64 0, .int .i64 0]) ∧ Keeps nobody w w'))
    (H2 : Hid (∀ w, Calls Try.prog 10 #[.agg #[.int .i64 1, .int .i64 32, .int .i64 1, .string b]] w fun e w' => e = .returned (.tuple #[.int .i64 6, .int .i64 5]) ∧ Keeps nobody w w')) : Calls Try.prog 8 #[.string b, .int .i64 (y : Int)] W (Fine W) := by
  go_enter Try.func8, Try.ntmps8
  go_wp2_with fail
  refine Calls.mono (HA.out _) ?_
  rintro e w1 ⟨rfl, k1⟩
  go_wp2_with fail
  refine Calls.mono (H1.out _) ?_
  rintro e w2 ⟨rfl, k2⟩
  go_wp2_with fail
  refine Calls.mono (H2.out _) ?_
  rintro e w3 ⟨rfl, k3⟩
  have kk := ((k1.alloc _).then k2).then k3
  clear k1 k2 k3 H1 H2 HA hconv
  go_wp2
  go_ret
  exact ⟨by first | rfl | (simp; omega), below_of_keeps kk⟩

set_option maxRecDepth 100000 in
set_option maxHeartbeats 1000000 in
theorem rpads_10 (b : ByteArray) (y : Nat) (W : World) (HA : Hid (∀ w, Calls Try.prog 9 #[] w fun e w' => e = .returned (.bool true) ∧ Keeps nobody w w')) (hs : b.size ≤ 100) (hy : y ≤ 255) (S X : ByteArray) (hS : S.size = 1) (hconv : ∀ w : World, (convert 33 9 (.slice (some ⟨w.heap.size, 0, none⟩) 1 1)).run Try.prog (w.alloc (.cells #[.int .u8 (y : Int)] 5)) = .ok (.string S) (w.alloc (.cells #[.int .u8 (y : Int)] 5))) (hX : S ++ b = X)
    (h1 : b.size < y) (h2 : 5 ≤ b.size)
    (H1 : Hid (∀ w, Calls Try.prog 10 #[.agg #[.int .i64 0, .int .i64 8, .int .i64 1, .string X]] w fun e w' => e = .returned (.tuple #[.int .i64 1, .int .i64 11]) ∧ Keeps nobody w w'))
    (H2 : Hid (∀ w, Calls Try.prog 10 #[.agg #[.int .i64 1, .int .i64 32, .int .i64 1, .string b]] w fun e w' => e = .returned (.tuple #[.int .i64 0, .int .i64 0]) ∧ Keeps nobody w w')) : Calls Try.prog 8 #[.string b, .int .i64 (y : Int)] W (Fine W) := by
  go_enter Try.func8, Try.ntmps8
  go_wp2_with fail
  refine Calls.mono (HA.out _) ?_
  rintro e w1 ⟨rfl, k1⟩
  go_wp2_with fail
  refine Calls.mono (H1.out _) ?_
  rintro e w2 ⟨rfl, k2⟩
  go_wp2_with fail
  refine Calls.mono (H2.out _) ?_
  rintro e w3 ⟨rfl, k3⟩
  have kk := ((k1.alloc _).then k2).then k3
  clear k1 k2 k3 H1 H2 HA hconv
  go_wp2
  go_ret
  exact ⟨by first | rfl | (simp; omega), below_of_keeps kk⟩

set_option maxRecDepth 100000 in
set_option maxHeartbeats 1000000 in
theorem rpads_11 (b : ByteArray) (y : Nat) (W : World) (HA : Hid (∀ w, Calls Try.prog 9 #[] w fun e w' => e = .returned (.bool true) ∧ Keeps nobody w w')) (hs : b.size ≤ 100) (hy : y ≤ 255) (S X : ByteArray) (hS : S.size = 1) (hconv : ∀ w : World, (convert 33 9 (.slice (some ⟨w.heap.size, 0, none⟩) 1 1)).run Try.prog (w.alloc (.cells #[.int .u8 (y : Int)] 5)) = .ok (.string S) (w.alloc (.cells #[.int .u8 (y : Int)] 5))) (hX : S ++ b = X)
    (h1 : b.size < y) (h2 : b.size < 5)
    (H1 : Hid (∀ w, Calls Try.prog 10 #[.agg #[.int .i64 0, .int .i64 8, .int .i64 1, .string X]] w fun e w' => e = .returned (.tuple #[.int .i64 1, .int .i64 11]) ∧ Keeps nobody w w'))
    (H2 : Hid (∀ w, Calls Try.prog 10 #[.agg #[.int .i64 1, .int .i64 32, .int .i64 1, .string b]] w fun e w' => e = .returned (.tuple #[.int .i64 6, .int .i64 5]) ∧ Keeps nobody w w')) : Calls Try.prog 8 #[.string b, .int .i64 (y : Int)] W (Fine W) := by
  go_enter Try.func8, Try.ntmps8
  go_wp2_with fail
  refine Calls.mono (HA.out _) ?_
  rintro e w1 ⟨rfl, k1⟩
  go_wp2_with fail
  refine Calls.mono (H1.out _) ?_
  rintro e w2 ⟨rfl, k2⟩
  go_wp2_with fail
  refine Calls.mono (H2.out _) ?_
  rintro e w3 ⟨rfl, k3⟩
  have kk := ((k1.alloc _).then k2).then k3
  clear k1 k2 k3 H1 H2 HA hconv
  go_wp2
  go_ret
  exact ⟨by first | rfl | (simp; omega), below_of_keeps kk⟩

theorem rpads_true (b : ByteArray) (pad : Int) (W : World) (_ : b.size ≤ 140737488355328) : Calls Try.prog 8 #[.string b, .int .i64 pad] W (Fine W) := by
  have HA : Hid (∀ w, Calls Try.prog 9 #[] w fun e w' => e = .returned (.bool true) ∧ Keeps nobody w w') := fun w => alive_ok w
  by_cases h0 : b.size ≤ 100
  · by_cases h1 : 0 ≤ pad
    · by_cases h2 : pad ≤ 255
      · obtain ⟨y, rfl⟩ := Int.eq_ofNat_of_zero_le h1
        have hy : y < 256 := by omega
        have hX : (str [y] ++ b).size ≤ 140737488355328 := by simp [str_size]; omega
        have H1 := fun w => check_ok ⟨0, 8, 1, str [y] ++ b⟩ w hX
        have H2 := fun w => check_ok ⟨1, 32, 1, b⟩ w (show b.size ≤ 140737488355328 by omega)
        simp only [check_pad y b hy h0, check_weigh b h0] at H1 H2
        by_cases g1 : b.size < y
        · rw [if_pos g1] at H1
          by_cases g2 : b.size < 5
          · rw [if_pos g2] at H2
            exact rpads_11 b y W HA h0 (by omega) _ _ (str_size _) (conv_one y) rfl g1 g2 H1 H2
          · rw [if_neg g2] at H2
            exact rpads_10 b y W HA h0 (by omega) _ _ (str_size _) (conv_one y) rfl g1 (by omega) H1 H2
        · rw [if_neg g1] at H1
          by_cases g2 : b.size < 5
          · rw [if_pos g2] at H2
            exact rpads_01 b y W HA h0 (by omega) _ _ (str_size _) (conv_one y) rfl (by omega) g2 H1 H2
          · rw [if_neg g2] at H2
            exact rpads_00 b y W HA h0 (by omega) _ _ (str_size _) (conv_one y) rfl (by omega) (by omega) H1 H2
      · exact rpads_off2 b pad W HA h0 h1 (by omega)
    · exact rpads_off1 b pad W HA h0 (by omega)
  · exact rpads_off0 b pad W HA (by omega)
end Go.Proofs.Ytcbgjdfcndgaaaa
