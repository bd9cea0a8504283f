/-
  The law RuleSizes as a walk.
-/
import Derived.Test.YtcbgjdfcndgaaaaUCodesW
import Derived.Test.YtcbgjdfcndgaaaaRPads2W
namespace Go.Proofs.Ytcbgjdfcndgaaaa
open Go.RowKit

theorem sizes_check (k fl id : Int) (Z : ByteArray) (hz : Z.size ≤ 100) (hk : 2 ≤ k) (hk2 : k ≤ 255) (hf : 0 ≤ fl ∧ fl ≤ 255) (hi : 0 ≤ id ∧ id ≤ 1) (hp : placed k id = true) : checkA ⟨k, fl, id, Z⟩ = if sized k (ackB fl) Z.size then (0, 0) else (6, 5) := by
  have hr : right ⟨k, fl, id, Z⟩ := by simp only [right]; omega
  have he : stripE ⟨k, fl, id, Z⟩ = 0 := strip_other_err _ _ _ _ (by simp only; omega) (by simp only; omega)
  rw [checkA, if_neg (fun g => g hr)]
  simp only [hp, he]
  cases sized k (ackB fl) Z.size <;> simp [codeOf]
attribute [local irreducible] checkA right stripA streamed zeros nums str

theorem sizes_off0 (k n : Int) (ack : Bool) (W : World) (HA : Hid (∀ w, Calls Try.prog 9 #[] w fun e w' => e = .returned (.bool true) ∧ Keeps nobody w w')) (h : n < 0) : Calls Try.prog 5 #[.int .i64 k, .int .i64 n, .bool ack] W (Fine W) := by
  go_enter Try.func5, Try.ntmps5
  go_wp2_with fail
  refine Calls.mono (HA.out _) ?_
  rintro e w1 ⟨rfl, k1⟩
  go_wp2
  go_ret
  exact ⟨rfl, below_of_keeps k1⟩

theorem sizes_off1 (k n : Int) (ack : Bool) (W : World) (HA : Hid (∀ w, Calls Try.prog 9 #[] w fun e w' => e = .returned (.bool true) ∧ Keeps nobody w w')) (h0 : 0 ≤ n) (h : 100 < n) : Calls Try.prog 5 #[.int .i64 k, .int .i64 n, .bool ack] W (Fine W) := by
  go_enter Try.func5, Try.ntmps5
  go_wp2_with fail
  refine Calls.mono (HA.out _) ?_
  rintro e w1 ⟨rfl, k1⟩
  go_wp2
  go_ret
  exact ⟨rfl, below_of_keeps k1⟩


set_option maxRecDepth 100000 in
set_option maxHeartbeats 2000000 in
theorem sizes_2t (n : Nat) (ack : Bool) (W : World) (HA : Hid (∀ w, Calls Try.prog 9 #[] w fun e w' => e = .returned (.bool true) ∧ Keeps nobody w w')) (hn : n ≤ 100) (h : ((n : Int) == 5) = true) (Z : ByteArray) (hzero : ∀ (w W : World), Keeps nobody (w.alloc (.cells (madeCells #[.int .u8 0] n) 5)) W → (convert 33 9 (.slice (some ⟨w.heap.size, 0, none⟩) n n)).run Try.prog W = .ok (.string Z) W)
    (HC : Hid (∀ w, Calls Try.prog 10 #[.agg #[.int .i64 2, .int .i64 0, .int .i64 1, .string Z]] w fun e w' => e = .returned (.tuple #[.int .i64 0, .int .i64 0]) ∧ Keeps nobody w w')) :
    Calls Try.prog 5 #[.int .i64 2, .int .i64 (n : Int), .bool ack] W (Fine W) := by
  go_enter Try.func5, Try.ntmps5
  go_wp2_with fail
  refine Calls.mono (HA.out _) ?_
  rintro e w1 ⟨rfl, k1⟩
  have hmk := run_make_row' (P := Try.prog) 33 5 (.int .u8 0) 1 Try.underlying33 info5 rfl .i64 .i64 n (by omega) (by omega)
  have z1 := hzero w1 _ (Keeps.refl nobody _)
  clear HA hzero
  go_wp2_with fail
  refine Calls.mono (HC.out _) ?_
  rintro e w2 ⟨rfl, k2⟩
  have kk := ((k1.alloc _).alloc _).then k2
  clear k1 k2 HC hmk z1
  go_wp2
  go_ret
  exact ⟨by first | rfl | (simp; omega), below_of_keeps kk⟩


set_option maxRecDepth 100000 in
set_option maxHeartbeats 2000000 in
theorem sizes_2f (n : Nat) (ack : Bool) (W : World) (HA : Hid (∀ w, Calls Try.prog 9 #[] w fun e w' => e = .returned (.bool true) ∧ Keeps nobody w w')) (hn : n ≤ 100) (h : ((n : Int) == 5) = false) (Z : ByteArray) (hzero : ∀ (w W : World), Keeps nobody (w.alloc (.cells (madeCells #[.int .u8 0] n) 5)) W → (convert 33 9 (.slice (some ⟨w.heap.size, 0, none⟩) n n)).run Try.prog W = .ok (.string Z) W)
    (HC : Hid (∀ w, Calls Try.prog 10 #[.agg #[.int .i64 2, .int .i64 0, .int .i64 1, .string Z]] w fun e w' => e = .returned (.tuple #[.int .i64 6, .int .i64 5]) ∧ Keeps nobody w w')) :
    Calls Try.prog 5 #[.int .i64 2, .int .i64 (n : Int), .bool ack] W (Fine W) := by
  go_enter Try.func5, Try.ntmps5
  go_wp2_with fail
  refine Calls.mono (HA.out _) ?_
  rintro e w1 ⟨rfl, k1⟩
  have hmk := run_make_row' (P := Try.prog) 33 5 (.int .u8 0) 1 Try.underlying33 info5 rfl .i64 .i64 n (by omega) (by omega)
  have z1 := hzero w1 _ (Keeps.refl nobody _)
  clear HA hzero
  go_wp2_with fail
  refine Calls.mono (HC.out _) ?_
  rintro e w2 ⟨rfl, k2⟩
  have kk := ((k1.alloc _).alloc _).then k2
  clear k1 k2 HC hmk z1
  go_wp2
  go_ret
  exact ⟨by first | rfl | (simp; omega), below_of_keeps kk⟩


set_option maxRecDepth 100000 in
set_option maxHeartbeats 2000000 in
theorem sizes_3t (n : Nat) (ack : Bool) (W : World) (HA : Hid (∀ w, Calls Try.prog 9 #[] w fun e w' => e = .returned (.bool true) ∧ Keeps nobody w w')) (hn : n ≤ 100) (h : ((n : Int) == 4) = true) (Z : ByteArray) (hzero : ∀ (w W : World), Keeps nobody (w.alloc (.cells (madeCells #[.int .u8 0] n) 5)) W → (convert 33 9 (.slice (some ⟨w.heap.size, 0, none⟩) n n)).run Try.prog W = .ok (.string Z) W)
    (HC : Hid (∀ w, Calls Try.prog 10 #[.agg #[.int .i64 3, .int .i64 0, .int .i64 1, .string Z]] w fun e w' => e = .returned (.tuple #[.int .i64 0, .int .i64 0]) ∧ Keeps nobody w w')) :
    Calls Try.prog 5 #[.int .i64 3, .int .i64 (n : Int), .bool ack] W (Fine W) := by
  go_enter Try.func5, Try.ntmps5
  go_wp2_with fail
  refine Calls.mono (HA.out _) ?_
  rintro e w1 ⟨rfl, k1⟩
  have hmk := run_make_row' (P := Try.prog) 33 5 (.int .u8 0) 1 Try.underlying33 info5 rfl .i64 .i64 n (by omega) (by omega)
  have z1 := hzero w1 _ (Keeps.refl nobody _)
  clear HA hzero
  go_wp2_with fail
  refine Calls.mono (HC.out _) ?_
  rintro e w2 ⟨rfl, k2⟩
  have kk := ((k1.alloc _).alloc _).then k2
  clear k1 k2 HC hmk z1
  go_wp2
  go_ret
  exact ⟨by first | rfl | (simp; omega), below_of_keeps kk⟩


set_option maxRecDepth 100000 in
set_option maxHeartbeats 2000000 in
theorem sizes_3f (n : Nat) (ack : Bool) (W : World) (HA : Hid (∀ w, Calls Try.prog 9 #[] w fun e w' => e = .returned (.bool true) ∧ Keeps nobody w w')) (hn : n ≤ 100) (h : ((n : Int) == 4) = false) (Z : ByteArray) (hzero : ∀ (w W : World), Keeps nobody (w.alloc (.cells (madeCells #[.int .u8 0] n) 5)) W → (convert 33 9 (.slice (some ⟨w.heap.size, 0, none⟩) n n)).run Try.prog W = .ok (.string Z) W)
    (HC : Hid (∀ w, Calls Try.prog 10 #[.agg #[.int .i64 3, .int .i64 0, .int .i64 1, .string Z]] w fun e w' => e = .returned (.tuple #[.int .i64 6, .int .i64 5]) ∧ Keeps nobody w w')) :
    Calls Try.prog 5 #[.int .i64 3, .int .i64 (n : Int), .bool ack] W (Fine W) := by
  go_enter Try.func5, Try.ntmps5
  go_wp2_with fail
  refine Calls.mono (HA.out _) ?_
  rintro e w1 ⟨rfl, k1⟩
  have hmk := run_make_row' (P := Try.prog) 33 5 (.int .u8 0) 1 Try.underlying33 info5 rfl .i64 .i64 n (by omega) (by omega)
  have z1 := hzero w1 _ (Keeps.refl nobody _)
  clear HA hzero
  go_wp2_with fail
  refine Calls.mono (HC.out _) ?_
  rintro e w2 ⟨rfl, k2⟩
  have kk := ((k1.alloc _).alloc _).then k2
  clear k1 k2 HC hmk z1
  go_wp2
  go_ret
  exact ⟨by first | rfl | (simp; omega), below_of_keeps kk⟩


set_option maxRecDepth 100000 in
set_option maxHeartbeats 2000000 in
theorem sizes_8t (n : Nat) (ack : Bool) (W : World) (HA : Hid (∀ w, Calls Try.prog 9 #[] w fun e w' => e = .returned (.bool true) ∧ Keeps nobody w w')) (hn : n ≤ 100) (h : ((n : Int) == 4) = true) (Z : ByteArray) (hzero : ∀ (w W : World), Keeps nobody (w.alloc (.cells (madeCells #[.int .u8 0] n) 5)) W → (convert 33 9 (.slice (some ⟨w.heap.size, 0, none⟩) n n)).run Try.prog W = .ok (.string Z) W)
    (HC : Hid (∀ w, Calls Try.prog 10 #[.agg #[.int .i64 8, .int .i64 0, .int .i64 0, .string Z]] w fun e w' => e = .returned (.tuple #[.int .i64 0, .int .i64 0]) ∧ Keeps nobody w w')) :
    Calls Try.prog 5 #[.int .i64 8, .int .i64 (n : Int), .bool ack] W (Fine W) := by
  go_enter Try.func5, Try.ntmps5
  go_wp2_with fail
  refine Calls.mono (HA.out _) ?_
  rintro e w1 ⟨rfl, k1⟩
  have hmk := run_make_row' (P := Try.prog) 33 5 (.int .u8 0) 1 Try.underlying33 info5 rfl .i64 .i64 n (by omega) (by omega)
  have z1 := hzero w1 _ (Keeps.refl nobody _)
  clear HA hzero
  go_wp2_with fail
  refine Calls.mono (HC.out _) ?_
  rintro e w2 ⟨rfl, k2⟩
  have kk := ((k1.alloc _).alloc _).then k2
  clear k1 k2 HC hmk z1
  go_wp2
  go_ret
  exact ⟨by first | rfl | (simp; omega), below_of_keeps kk⟩


set_option maxRecDepth 100000 in
set_option maxHeartbeats 2000000 in
theorem sizes_8f (n : Nat) (ack : Bool) (W : World) (HA : Hid (∀ w, Calls Try.prog 9 #[] w fun e w' => e = .returned (.bool true) ∧ Keeps nobody w w')) (hn : n ≤ 100) (h : ((n : Int) == 4) = false) (Z : ByteArray) (hzero : ∀ (w W : World), Keeps nobody (w.alloc (.cells (madeCells #[.int .u8 0] n) 5)) W → (convert 33 9 (.slice (some ⟨w.heap.size, 0, none⟩) n n)).run Try.prog W = .ok (.string Z) W)
    (HC : Hid (∀ w, Calls Try.prog 10 #[.agg #[.int .i64 8, .int .i64 0, .int .i64 0, .string Z]] w fun e w' => e = .returned (.tuple #[.int .i64 6, .int .i64 5]) ∧ Keeps nobody w w')) :
    Calls Try.prog 5 #[.int .i64 8, .int .i64 (n : Int), .bool ack] W (Fine W) := by
  go_enter Try.func5, Try.ntmps5
  go_wp2_with fail
  refine Calls.mono (HA.out _) ?_
  rintro e w1 ⟨rfl, k1⟩
  have hmk := run_make_row' (P := Try.prog) 33 5 (.int .u8 0) 1 Try.underlying33 info5 rfl .i64 .i64 n (by omega) (by omega)
  have z1 := hzero w1 _ (Keeps.refl nobody _)
  clear HA hzero
  go_wp2_with fail
  refine Calls.mono (HC.out _) ?_
  rintro e w2 ⟨rfl, k2⟩
  have kk := ((k1.alloc _).alloc _).then k2
  clear k1 k2 HC hmk z1
  go_wp2
  go_ret
  exact ⟨by first | rfl | (simp; omega), below_of_keeps kk⟩


set_option maxRecDepth 100000 in
set_option maxHeartbeats 2000000 in
theorem sizes_6t (n : Nat) (ack : Bool) (W : World) (HA : Hid (∀ w, Calls Try.prog 9 #[] w fun e w' => e = .returned (.bool true) ∧ Keeps nobody w w')) (hn : n ≤ 100) (h : ((n : Int) == 8) = true) (Z : ByteArray) (hzero : ∀ (w W : World), Keeps nobody (w.alloc (.cells (madeCells #[.int .u8 0] n) 5)) W → (convert 33 9 (.slice (some ⟨w.heap.size, 0, none⟩) n n)).run Try.prog W = .ok (.string Z) W)
    (HC : Hid (∀ w, Calls Try.prog 10 #[.agg #[.int .i64 6, .int .i64 0, .int .i64 0, .string Z]] w fun e w' => e = .returned (.tuple #[.int .i64 0, .int .i64 0]) ∧ Keeps nobody w w')) :
    Calls Try.prog 5 #[.int .i64 6, .int .i64 (n : Int), .bool ack] W (Fine W) := by
  go_enter Try.func5, Try.ntmps5
  go_wp2_with fail
  refine Calls.mono (HA.out _) ?_
  rintro e w1 ⟨rfl, k1⟩
  have hmk := run_make_row' (P := Try.prog) 33 5 (.int .u8 0) 1 Try.underlying33 info5 rfl .i64 .i64 n (by omega) (by omega)
  have z1 := hzero w1 _ (Keeps.refl nobody _)
  clear HA hzero
  go_wp2_with fail
  refine Calls.mono (HC.out _) ?_
  rintro e w2 ⟨rfl, k2⟩
  have kk := ((k1.alloc _).alloc _).then k2
  clear k1 k2 HC hmk z1
  go_wp2
  go_ret
  exact ⟨by first | rfl | (simp; omega), below_of_keeps kk⟩


set_option maxRecDepth 100000 in
set_option maxHeartbeats 2000000 in
theorem sizes_6f (n : Nat) (ack : Bool) (W : World) (HA : Hid (∀ w, Calls Try.prog 9 #[] w fun e w' => e = .returned (.bool true) ∧ Keeps nobody w w')) (hn : n ≤ 100) (h : ((n : Int) == 8) = false) (Z : ByteArray) (hzero : ∀ (w W : World), Keeps nobody (w.alloc (.cells (madeCells #[.int .u8 0] n) 5)) W → (convert 33 9 (.slice (some ⟨w.heap.size, 0, none⟩) n n)).run Try.prog W = .ok (.string Z) W)
    (HC : Hid (∀ w, Calls Try.prog 10 #[.agg #[.int .i64 6, .int .i64 0, .int .i64 0, .string Z]] w fun e w' => e = .returned (.tuple #[.int .i64 6, .int .i64 5]) ∧ Keeps nobody w w')) :
    Calls Try.prog 5 #[.int .i64 6, .int .i64 (n : Int), .bool ack] W (Fine W) := by
  go_enter Try.func5, Try.ntmps5
  go_wp2_with fail
  refine Calls.mono (HA.out _) ?_
  rintro e w1 ⟨rfl, k1⟩
  have hmk := run_make_row' (P := Try.prog) 33 5 (.int .u8 0) 1 Try.underlying33 info5 rfl .i64 .i64 n (by omega) (by omega)
  have z1 := hzero w1 _ (Keeps.refl nobody _)
  clear HA hzero
  go_wp2_with fail
  refine Calls.mono (HC.out _) ?_
  rintro e w2 ⟨rfl, k2⟩
  have kk := ((k1.alloc _).alloc _).then k2
  clear k1 k2 HC hmk z1
  go_wp2
  go_ret
  exact ⟨by first | rfl | (simp; omega), below_of_keeps kk⟩


set_option maxRecDepth 100000 in
set_option maxHeartbeats 2000000 in
theorem sizes_7t (n : Nat) (ack : Bool) (W : World) (HA : Hid (∀ w, Calls Try.prog 9 #[] w fun e w' => e = .returned (.bool true) ∧ Keeps nobody w w')) (hn : n ≤ 100) (h : ((8 : Int) ≤ (n : Int)) = True) (Z : ByteArray) (hzero : ∀ (w W : World), Keeps nobody (w.alloc (.cells (madeCells #[.int .u8 0] n) 5)) W → (convert 33 9 (.slice (some ⟨w.heap.size, 0, none⟩) n n)).run Try.prog W = .ok (.string Z) W)
    (HC : Hid (∀ w, Calls Try.prog 10 #[.agg #[.int .i64 7, .int .i64 0, .int .i64 0, .string Z]] w fun e w' => e = .returned (.tuple #[.int .i64 0, .int .i64 0]) ∧ Keeps nobody w w')) :
    Calls Try.prog 5 #[.int .i64 7, .int .i64 (n : Int), .bool ack] W (Fine W) := by
  go_enter Try.func5, Try.ntmps5
  go_wp2_with fail
  refine Calls.mono (HA.out _) ?_
  rintro e w1 ⟨rfl, k1⟩
  have hmk := run_make_row' (P := Try.prog) 33 5 (.int .u8 0) 1 Try.underlying33 info5 rfl .i64 .i64 n (by omega) (by omega)
  have z1 := hzero w1 _ (Keeps.refl nobody _)
  clear HA hzero
  go_wp2_with fail
  refine Calls.mono (HC.out _) ?_
  rintro e w2 ⟨rfl, k2⟩
  have kk := ((k1.alloc _).alloc _).then k2
  clear k1 k2 HC hmk z1
  go_wp2
  go_ret
  exact ⟨by first | rfl | (simp; omega), below_of_keeps kk⟩


set_option maxRecDepth 100000 in
set_option maxHeartbeats 2000000 in
theorem sizes_7f (n : Nat) (ack : Bool) (W : World) (HA : Hid (∀ w, Calls Try.prog 9 #[] w fun e w' => e = .returned (.bool true) ∧ Keeps nobody w w')) (hn : n ≤ 100) (h : ((8 : Int) ≤ (n : Int)) = False) (Z : ByteArray) (hzero : ∀ (w W : World), Keeps nobody (w.alloc (.cells (madeCells #[.int .u8 0] n) 5)) W → (convert 33 9 (.slice (some ⟨w.heap.size, 0, none⟩) n n)).run Try.prog W = .ok (.string Z) W)
    (HC : Hid (∀ w, Calls Try.prog 10 #[.agg #[.int .i64 7, .int .i64 0, .int .i64 0, .string Z]] w fun e w' => e = .returned (.tuple #[.int .i64 6, .int .i64 5]) ∧ Keeps nobody w w')) :
    Calls Try.prog 5 #[.int .i64 7, .int .i64 (n : Int), .bool ack] W (Fine W) := by
  go_enter Try.func5, Try.ntmps5
  go_wp2_with fail
  refine Calls.mono (HA.out _) ?_
  rintro e w1 ⟨rfl, k1⟩
  have hmk := run_make_row' (P := Try.prog) 33 5 (.int .u8 0) 1 Try.underlying33 info5 rfl .i64 .i64 n (by omega) (by omega)
  have z1 := hzero w1 _ (Keeps.refl nobody _)
  clear HA hzero
  go_wp2_with fail
  refine Calls.mono (HC.out _) ?_
  rintro e w2 ⟨rfl, k2⟩
  have kk := ((k1.alloc _).alloc _).then k2
  clear k1 k2 HC hmk z1
  go_wp2
  go_ret
  exact ⟨by first | rfl | (simp; omega), below_of_keeps kk⟩


set_option maxRecDepth 100000 in
set_option maxHeartbeats 2000000 in
theorem sizes_4t (n : Nat) (W : World) (HA : Hid (∀ w, Calls Try.prog 9 #[] w fun e w' => e = .returned (.bool true) ∧ Keeps nobody w w')) (hn : n ≤ 100) (m : Nat) (hm : (n : Int) % 6 = (m : Int)) (h : ((m : Int) == 0) = true) (Z : ByteArray) (hzero : ∀ (w W : World), Keeps nobody (w.alloc (.cells (madeCells #[.int .u8 0] n) 5)) W → (convert 33 9 (.slice (some ⟨w.heap.size, 0, none⟩) n n)).run Try.prog W = .ok (.string Z) W)
    (HC : Hid (∀ w, Calls Try.prog 10 #[.agg #[.int .i64 4, .int .i64 0, .int .i64 0, .string Z]] w fun e w' => e = .returned (.tuple #[.int .i64 0, .int .i64 0]) ∧ Keeps nobody w w')) :
    Calls Try.prog 5 #[.int .i64 4, .int .i64 (n : Int), .bool false] W (Fine W) := by
  go_enter Try.func5, Try.ntmps5
  go_wp2_with fail
  refine Calls.mono (HA.out _) ?_
  rintro e w1 ⟨rfl, k1⟩
  have hmk := run_make_row' (P := Try.prog) 33 5 (.int .u8 0) 1 Try.underlying33 info5 rfl .i64 .i64 n (by omega) (by omega)
  have z1 := hzero w1 _ (Keeps.refl nobody _)
  clear HA hzero
  go_wp2_with fail
  refine Calls.mono (HC.out _) ?_
  rintro e w2 ⟨rfl, k2⟩
  have kk := ((k1.alloc _).alloc _).then k2
  clear k1 k2 HC hmk z1
  go_wp2
  go_ret
  exact ⟨by first | rfl | (simp; omega), below_of_keeps kk⟩


set_option maxRecDepth 100000 in
set_option maxHeartbeats 2000000 in
theorem sizes_4f (n : Nat) (W : World) (HA : Hid (∀ w, Calls Try.prog 9 #[] w fun e w' => e = .returned (.bool true) ∧ Keeps nobody w w')) (hn : n ≤ 100) (m : Nat) (hm : (n : Int) % 6 = (m : Int)) (h : ((m : Int) == 0) = false) (Z : ByteArray) (hzero : ∀ (w W : World), Keeps nobody (w.alloc (.cells (madeCells #[.int .u8 0] n) 5)) W → (convert 33 9 (.slice (some ⟨w.heap.size, 0, none⟩) n n)).run Try.prog W = .ok (.string Z) W)
    (HC : Hid (∀ w, Calls Try.prog 10 #[.agg #[.int .i64 4, .int .i64 0, .int .i64 0, .string Z]] w fun e w' => e = .returned (.tuple #[.int .i64 6, .int .i64 5]) ∧ Keeps nobody w w')) :
    Calls Try.prog 5 #[.int .i64 4, .int .i64 (n : Int), .bool false] W (Fine W) := by
  go_enter Try.func5, Try.ntmps5
  go_wp2_with fail
  refine Calls.mono (HA.out _) ?_
  rintro e w1 ⟨rfl, k1⟩
  have hmk := run_make_row' (P := Try.prog) 33 5 (.int .u8 0) 1 Try.underlying33 info5 rfl .i64 .i64 n (by omega) (by omega)
  have z1 := hzero w1 _ (Keeps.refl nobody _)
  clear HA hzero
  go_wp2_with fail
  refine Calls.mono (HC.out _) ?_
  rintro e w2 ⟨rfl, k2⟩
  have kk := ((k1.alloc _).alloc _).then k2
  clear k1 k2 HC hmk z1
  go_wp2
  go_ret
  exact ⟨by first | rfl | (simp; omega), below_of_keeps kk⟩


set_option maxRecDepth 100000 in
set_option maxHeartbeats 2000000 in
theorem sizes_4at (n : Nat) (W : World) (HA : Hid (∀ w, Calls Try.prog 9 #[] w fun e w' => e = .returned (.bool true) ∧ Keeps nobody w w')) (hn : n ≤ 100) (m : Nat) (hm : (n : Int) % 6 = (m : Int)) (h : ((m : Int) == 0) = true) (h0 : ((n : Int) == 0) = true) (Z : ByteArray) (hzero : ∀ (w W : World), Keeps nobody (w.alloc (.cells (madeCells #[.int .u8 0] n) 5)) W → (convert 33 9 (.slice (some ⟨w.heap.size, 0, none⟩) n n)).run Try.prog W = .ok (.string Z) W)
    (HC : Hid (∀ w, Calls Try.prog 10 #[.agg #[.int .i64 4, .int .i64 1, .int .i64 0, .string Z]] w fun e w' => e = .returned (.tuple #[.int .i64 0, .int .i64 0]) ∧ Keeps nobody w w')) :
    Calls Try.prog 5 #[.int .i64 4, .int .i64 (n : Int), .bool true] W (Fine W) := by
  go_enter Try.func5, Try.ntmps5
  go_wp2_with fail
  refine Calls.mono (HA.out _) ?_
  rintro e w1 ⟨rfl, k1⟩
  have hmk := run_make_row' (P := Try.prog) 33 5 (.int .u8 0) 1 Try.underlying33 info5 rfl .i64 .i64 n (by omega) (by omega)
  have z1 := hzero w1 _ (Keeps.refl nobody _)
  clear HA hzero
  go_wp2_with fail
  refine Calls.mono (HC.out _) ?_
  rintro e w2 ⟨rfl, k2⟩
  have kk := ((k1.alloc _).alloc _).then k2
  clear k1 k2 HC hmk z1
  go_wp2
  go_ret
  exact ⟨by first | rfl | (simp; omega), below_of_keeps kk⟩


set_option maxRecDepth 100000 in
set_option maxHeartbeats 2000000 in
theorem sizes_4ag (n : Nat) (W : World) (HA : Hid (∀ w, Calls Try.prog 9 #[] w fun e w' => e = .returned (.bool true) ∧ Keeps nobody w w')) (hn : n ≤ 100) (m : Nat) (hm : (n : Int) % 6 = (m : Int)) (h : ((m : Int) == 0) = true) (h0 : ((n : Int) == 0) = false) (Z : ByteArray) (hzero : ∀ (w W : World), Keeps nobody (w.alloc (.cells (madeCells #[.int .u8 0] n) 5)) W → (convert 33 9 (.slice (some ⟨w.heap.size, 0, none⟩) n n)).run Try.prog W = .ok (.string Z) W)
    (HC : Hid (∀ w, Calls Try.prog 10 #[.agg #[.int .i64 4, .int .i64 1, .int .i64 0, .string Z]] w fun e w' => e = .returned (.tuple #[.int .i64 6, .int .i64 5]) ∧ Keeps nobody w w')) :
    Calls Try.prog 5 #[.int .i64 4, .int .i64 (n : Int), .bool true] W (Fine W) := by
  go_enter Try.func5, Try.ntmps5
  go_wp2_with fail
  refine Calls.mono (HA.out _) ?_
  rintro e w1 ⟨rfl, k1⟩
  have hmk := run_make_row' (P := Try.prog) 33 5 (.int .u8 0) 1 Try.underlying33 info5 rfl .i64 .i64 n (by omega) (by omega)
  have z1 := hzero w1 _ (Keeps.refl nobody _)
  clear HA hzero
  go_wp2_with fail
  refine Calls.mono (HC.out _) ?_
  rintro e w2 ⟨rfl, k2⟩
  have kk := ((k1.alloc _).alloc _).then k2
  clear k1 k2 HC hmk z1
  go_wp2
  go_ret
  exact ⟨by first | rfl | (simp; omega), below_of_keeps kk⟩


set_option maxRecDepth 100000 in
set_option maxHeartbeats 2000000 in
theorem sizes_4af (n : Nat) (W : World) (HA : Hid (∀ w, Calls Try.prog 9 #[] w fun e w' => e = .returned (.bool true) ∧ Keeps nobody w w')) (hn : n ≤ 100) (m : Nat) (hm : (n : Int) % 6 = (m : Int)) (h : ((m : Int) == 0) = false) (Z : ByteArray) (hzero : ∀ (w W : World), Keeps nobody (w.alloc (.cells (madeCells #[.int .u8 0] n) 5)) W → (convert 33 9 (.slice (some ⟨w.heap.size, 0, none⟩) n n)).run Try.prog W = .ok (.string Z) W)
    (HC : Hid (∀ w, Calls Try.prog 10 #[.agg #[.int .i64 4, .int .i64 1, .int .i64 0, .string Z]] w fun e w' => e = .returned (.tuple #[.int .i64 6, .int .i64 5]) ∧ Keeps nobody w w')) :
    Calls Try.prog 5 #[.int .i64 4, .int .i64 (n : Int), .bool true] W (Fine W) := by
  go_enter Try.func5, Try.ntmps5
  go_wp2_with fail
  refine Calls.mono (HA.out _) ?_
  rintro e w1 ⟨rfl, k1⟩
  have hmk := run_make_row' (P := Try.prog) 33 5 (.int .u8 0) 1 Try.underlying33 info5 rfl .i64 .i64 n (by omega) (by omega)
  have z1 := hzero w1 _ (Keeps.refl nobody _)
  clear HA hzero
  go_wp2_with fail
  refine Calls.mono (HC.out _) ?_
  rintro e w2 ⟨rfl, k2⟩
  have kk := ((k1.alloc _).alloc _).then k2
  clear k1 k2 HC hmk z1
  go_wp2
  go_ret
  exact ⟨by first | rfl | (simp; omega), below_of_keeps kk⟩


set_option maxRecDepth 100000 in
set_option maxHeartbeats 2000000 in
theorem sizes_other (k : Int) (n : Nat) (ack : Bool) (W : World) (HA : Hid (∀ w, Calls Try.prog 9 #[] w fun e w' => e = .returned (.bool true) ∧ Keeps nobody w w')) (hn : n ≤ 100) (h2 : (k == 2) = false) (h3 : (k == 3) = false) (h8 : (k == 8) = false) (h6 : (k == 6) = false) (h7 : (k == 7) = false) (h4 : (k == 4) = false) (Z : ByteArray) (hzero : ∀ (w W : World), Keeps nobody (w.alloc (.cells (madeCells #[.int .u8 0] n) 5)) W → (convert 33 9 (.slice (some ⟨w.heap.size, 0, none⟩) n n)).run Try.prog W = .ok (.string Z) W) :
    Calls Try.prog 5 #[.int .i64 k, .int .i64 (n : Int), .bool ack] W (Fine W) := by
  go_enter Try.func5, Try.ntmps5
  go_wp2_with fail
  refine Calls.mono (HA.out _) ?_
  rintro e w1 ⟨rfl, k1⟩
  have hmk := run_make_row' (P := Try.prog) 33 5 (.int .u8 0) 1 Try.underlying33 info5 rfl .i64 .i64 n (by omega) (by omega)
  have z1 := hzero w1 _ (Keeps.refl nobody _)
  clear HA hzero
  have kk := (k1.alloc (.cells (madeCells #[.int .u8 0] n) 5)).alloc (frobj k 0 0 Z)
  go_wp2
  go_ret
  exact ⟨by first | rfl | (simp; omega), below_of_keeps kk⟩

theorem sizes_true (k n : Int) (ack : Bool) (W : World) : Calls Try.prog 5 #[.int .i64 k, .int .i64 n, .bool ack] W (Fine W) := by
  have HA : Hid (∀ w, Calls Try.prog 9 #[] w fun e w' => e = .returned (.bool true) ∧ Keeps nobody w w') := fun w => alive_ok w
  by_cases h0 : 0 ≤ n
  · by_cases h1 : n ≤ 100
    · obtain ⟨n, rfl⟩ := Int.eq_ofNat_of_zero_le h0
      have hn : n ≤ 100 := by omega
      have hzero := fun (w W : World) (k : Keeps nobody (w.alloc (.cells (madeCells #[.int .u8 0] n) 5)) W) => conv_zeros (n := n) (by omega) k
      have hzs := zeros_size n
      generalize zeros n = Z at *
      have a0 : ackB 0 = false := by decide +kernel
      have a1 : ackB 1 = true := by decide +kernel
      have HC : ∀ (k fl id : Int), 2 ≤ k → k ≤ 255 → 0 ≤ fl ∧ fl ≤ 255 → 0 ≤ id ∧ id ≤ 1 → placed k id = true → ∀ w, Calls Try.prog 10 #[frval ⟨k, fl, id, Z⟩] w fun e w' => e = .returned (checkV (if sized k (ackB fl) n then (0, 0) else (6, 5))) ∧ Keeps nobody w w' := fun k fl id g1 g2 g3 g4 g5 w => by
        have := check_ok ⟨k, fl, id, Z⟩ w (by simp only; omega)
        rwa [sizes_check k fl id Z (by omega) g1 g2 g3 g4 g5, hzs] at this
      by_cases e2 : k = 2
      · subst e2
        have H := HC 2 0 1 (by omega) (by omega) (by omega) (by omega) (by decide +kernel)
        by_cases g : n = 5
        · have e : sized 2 (ackB 0) n = true := by simp [sized, g]
          rw [e] at H
          exact sizes_2t n ack W HA hn (by simp; omega) Z hzero H
        · have e : sized 2 (ackB 0) n = false := by simp [sized, g]
          rw [e] at H
          exact sizes_2f n ack W HA hn (by simp; omega) Z hzero H
      by_cases e3 : k = 3
      · subst e3
        have H := HC 3 0 1 (by omega) (by omega) (by omega) (by omega) (by decide +kernel)
        by_cases g : n = 4
        · have e : sized 3 (ackB 0) n = true := by simp [sized, g]
          rw [e] at H
          exact sizes_3t n ack W HA hn (by simp; omega) Z hzero H
        · have e : sized 3 (ackB 0) n = false := by simp [sized, g]
          rw [e] at H
          exact sizes_3f n ack W HA hn (by simp; omega) Z hzero H
      by_cases e8 : k = 8
      · subst e8
        have H := HC 8 0 0 (by omega) (by omega) (by omega) (by omega) (by decide +kernel)
        by_cases g : n = 4
        · have e : sized 8 (ackB 0) n = true := by simp [sized, g]
          rw [e] at H
          exact sizes_8t n ack W HA hn (by simp; omega) Z hzero H
        · have e : sized 8 (ackB 0) n = false := by simp [sized, g]
          rw [e] at H
          exact sizes_8f n ack W HA hn (by simp; omega) Z hzero H
      by_cases e6 : k = 6
      · subst e6
        have H := HC 6 0 0 (by omega) (by omega) (by omega) (by omega) (by decide +kernel)
        by_cases g : n = 8
        · have e : sized 6 (ackB 0) n = true := by simp [sized, g]
          rw [e] at H
          exact sizes_6t n ack W HA hn (by simp; omega) Z hzero H
        · have e : sized 6 (ackB 0) n = false := by simp [sized, g]
          rw [e] at H
          exact sizes_6f n ack W HA hn (by simp; omega) Z hzero H
      by_cases e7 : k = 7
      · subst e7
        have H := HC 7 0 0 (by omega) (by omega) (by omega) (by omega) (by decide +kernel)
        by_cases g : 8 ≤ n
        · have e : sized 7 (ackB 0) n = true := by simp [sized, g]
          rw [e] at H
          exact sizes_7t n ack W HA hn (by simp; omega) Z hzero H
        · have e : sized 7 (ackB 0) n = false := by simp [sized, g]
          rw [e] at H
          exact sizes_7f n ack W HA hn (by simp; omega) Z hzero H
      by_cases e4 : k = 4
      · subst e4
        cases ack with
        | false =>
          have H := HC 4 0 0 (by omega) (by omega) (by omega) (by omega) (by decide +kernel)
          rw [a0] at H
          by_cases g : n % 6 = 0
          · have e : sized 4 false n = true := by simp [sized, g]
            rw [e] at H
            exact sizes_4t n W HA hn (n % 6) (by omega) (by simp; omega) Z hzero H
          · have e : sized 4 false n = false := by simp [sized, g]
            rw [e] at H
            exact sizes_4f n W HA hn (n % 6) (by omega) (by simp; omega) Z hzero H
        | true =>
          have H := HC 4 1 0 (by omega) (by omega) (by omega) (by omega) (by decide +kernel)
          rw [a1] at H
          by_cases g0 : n = 0
          · have e : sized 4 true n = true := by simp [sized, g0]
            rw [e] at H
            exact sizes_4at n W HA hn (n % 6) (by omega) (by simp; omega) (by simp; omega) Z hzero H
          · have e : sized 4 true n = false := by simp [sized, g0]
            rw [e] at H
            by_cases g : n % 6 = 0
            · exact sizes_4ag n W HA hn (n % 6) (by omega) (by simp; omega) (by simp; omega) Z hzero H
            · exact sizes_4af n W HA hn (n % 6) (by omega) (by simp; omega) Z hzero H
      exact sizes_other k n ack W HA hn (by simpa using e2) (by simpa using e3) (by simpa using e8) (by simpa using e6) (by simpa using e7) (by simpa using e4) Z hzero
    · exact sizes_off1 k n ack W HA h0 (by omega)
  · exact sizes_off0 k n ack W HA (by omega)
end Go.Proofs.Ytcbgjdfcndgaaaa
