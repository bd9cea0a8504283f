/-
  The reference's Check and ResetError: the same answers.
-/
import Derived.Test.YtdpbnlamdgdljaaUCodesW
import Derived.Test.YtdpbnlamdgdljaaRRefD
namespace Go.Proofs.Ytdpbnlamdgdljaa
open Go.RowKit
attribute [local irreducible] right stripA

set_option maxRecDepth 100000 in
theorem rcheck_wrong (k fl id : Int) (b : ByteArray) (w : World) (HR : Hid (∀ w, Calls Try.prog 46 #[.agg #[.int .i64 k, .int .i64 fl, .int .i64 id, .string b]] w fun e w' => e = .returned (.bool false) ∧ Keeps nobody w w')) :
    Calls Try.prog 19 #[.agg #[.int .i64 k, .int .i64 fl, .int .i64 id, .string b]] w fun e w' => e = .returned (checkV (1, 1)) ∧ Keeps nobody w w' := by
  go_enter Try.func19, Try.ntmps19
  go_wp2_with fail
  refine Calls.mono (HR.out _) ?_
  rintro e w1 ⟨rfl, k1⟩
  go_wp2
  go_ret2
  exact ⟨rfl, (keeps_alloc w _).then k1⟩

set_option maxRecDepth 100000 in
set_option maxHeartbeats 1000000 in
theorem rcheck_5 (fl id : Int) (b : ByteArray) (w : World)  (HR : Hid (∀ w, Calls Try.prog 46 #[.agg #[.int .i64 5, .int .i64 fl, .int .i64 id, .string b]] w fun e w' => e = .returned (.bool true) ∧ Keeps nobody w w')) :
    Calls Try.prog 19 #[.agg #[.int .i64 5, .int .i64 fl, .int .i64 id, .string b]] w fun e w' => e = .returned (checkV (1, 11)) ∧ Keeps nobody w w' := by
  go_enter Try.func19, Try.ntmps19
  go_wp2_with fail
  refine Calls.mono (HR.out _) ?_
  rintro e w1 ⟨rfl, k1⟩
  obtain ⟨c0, c1, c2, c3⟩ := k1.four
  have kw := (keeps_alloc w _).then k1
  clear k1 HR
  have kv := kw
  go_wp2
  go_ret2
  exact ⟨rfl, kv⟩

set_option maxRecDepth 100000 in
set_option maxHeartbeats 1000000 in
theorem rcheck_0z (fl id : Int) (b : ByteArray) (w : World) (hi : (id == 0) = true) (HR : Hid (∀ w, Calls Try.prog 46 #[.agg #[.int .i64 0, .int .i64 fl, .int .i64 id, .string b]] w fun e w' => e = .returned (.bool true) ∧ Keeps nobody w w')) :
    Calls Try.prog 19 #[.agg #[.int .i64 0, .int .i64 fl, .int .i64 id, .string b]] w fun e w' => e = .returned (checkV (1, 11)) ∧ Keeps nobody w w' := by
  go_enter Try.func19, Try.ntmps19
  go_wp2_with fail
  refine Calls.mono (HR.out _) ?_
  rintro e w1 ⟨rfl, k1⟩
  obtain ⟨c0, c1, c2, c3⟩ := k1.four
  have kw := (keeps_alloc w _).then k1
  clear k1 HR
  have kv := kw
  go_wp2
  go_ret2
  exact ⟨rfl, kv⟩

set_option maxRecDepth 100000 in
set_option maxHeartbeats 1000000 in
theorem rcheck_0_0 (fl id : Int) (b : ByteArray) (w : World) (hi : (id == 0) = false) (HR : Hid (∀ w, Calls Try.prog 46 #[.agg #[.int .i64 0, .int .i64 fl, .int .i64 id, .string b]] w fun e w' => e = .returned (.bool true) ∧ Keeps nobody w w'))
    (S : ByteArray) (m : Nat) (HS : Hid (∀ w, Calls Try.prog 47 #[.agg #[.int .i64 0, .int .i64 fl, .int .i64 id, .string b]] w fun e w' => e = .returned (.tuple #[.string S, .int .i64 (m : Int), .int .i64 0]) ∧ Keeps nobody w w')) :
    Calls Try.prog 19 #[.agg #[.int .i64 0, .int .i64 fl, .int .i64 id, .string b]] w fun e w' => e = .returned (checkV (0, 0)) ∧ Keeps nobody w w' := by
  go_enter Try.func19, Try.ntmps19
  go_wp2_with fail
  refine Calls.mono (HR.out _) ?_
  rintro e w1 ⟨rfl, k1⟩
  obtain ⟨c0, c1, c2, c3⟩ := k1.four
  have kw := (keeps_alloc w _).then k1
  clear k1 HR
  go_wp2_with fail
  refine Calls.mono (HS.out _) ?_
  rintro e w2 ⟨rfl, k2⟩
  have kv := kw.then k2
  go_wp2
  go_ret2
  exact ⟨rfl, kv⟩

set_option maxRecDepth 100000 in
set_option maxHeartbeats 1000000 in
theorem rcheck_0_5 (fl id : Int) (b : ByteArray) (w : World) (hi : (id == 0) = false) (HR : Hid (∀ w, Calls Try.prog 46 #[.agg #[.int .i64 0, .int .i64 fl, .int .i64 id, .string b]] w fun e w' => e = .returned (.bool true) ∧ Keeps nobody w w'))
    (S : ByteArray) (m : Nat) (HS : Hid (∀ w, Calls Try.prog 47 #[.agg #[.int .i64 0, .int .i64 fl, .int .i64 id, .string b]] w fun e w' => e = .returned (.tuple #[.string S, .int .i64 (m : Int), .int .i64 5]) ∧ Keeps nobody w w')) :
    Calls Try.prog 19 #[.agg #[.int .i64 0, .int .i64 fl, .int .i64 id, .string b]] w fun e w' => e = .returned (checkV (6, 5)) ∧ Keeps nobody w w' := by
  go_enter Try.func19, Try.ntmps19
  go_wp2_with fail
  refine Calls.mono (HR.out _) ?_
  rintro e w1 ⟨rfl, k1⟩
  obtain ⟨c0, c1, c2, c3⟩ := k1.four
  have kw := (keeps_alloc w _).then k1
  clear k1 HR
  go_wp2_with fail
  refine Calls.mono (HS.out _) ?_
  rintro e w2 ⟨rfl, k2⟩
  have kv := kw.then k2
  go_wp2
  go_ret2
  exact ⟨rfl, kv⟩

set_option maxRecDepth 100000 in
set_option maxHeartbeats 1000000 in
theorem rcheck_0_11 (fl id : Int) (b : ByteArray) (w : World) (hi : (id == 0) = false) (HR : Hid (∀ w, Calls Try.prog 46 #[.agg #[.int .i64 0, .int .i64 fl, .int .i64 id, .string b]] w fun e w' => e = .returned (.bool true) ∧ Keeps nobody w w'))
    (S : ByteArray) (m : Nat) (HS : Hid (∀ w, Calls Try.prog 47 #[.agg #[.int .i64 0, .int .i64 fl, .int .i64 id, .string b]] w fun e w' => e = .returned (.tuple #[.string S, .int .i64 (m : Int), .int .i64 11]) ∧ Keeps nobody w w')) :
    Calls Try.prog 19 #[.agg #[.int .i64 0, .int .i64 fl, .int .i64 id, .string b]] w fun e w' => e = .returned (checkV (1, 11)) ∧ Keeps nobody w w' := by
  go_enter Try.func19, Try.ntmps19
  go_wp2_with fail
  refine Calls.mono (HR.out _) ?_
  rintro e w1 ⟨rfl, k1⟩
  obtain ⟨c0, c1, c2, c3⟩ := k1.four
  have kw := (keeps_alloc w _).then k1
  clear k1 HR
  go_wp2_with fail
  refine Calls.mono (HS.out _) ?_
  rintro e w2 ⟨rfl, k2⟩
  have kv := kw.then k2
  go_wp2
  go_ret2
  exact ⟨rfl, kv⟩

set_option maxRecDepth 100000 in
set_option maxHeartbeats 1000000 in
theorem rcheck_1z (fl id : Int) (b : ByteArray) (w : World) (hi : (id == 0) = true) (HR : Hid (∀ w, Calls Try.prog 46 #[.agg #[.int .i64 1, .int .i64 fl, .int .i64 id, .string b]] w fun e w' => e = .returned (.bool true) ∧ Keeps nobody w w')) :
    Calls Try.prog 19 #[.agg #[.int .i64 1, .int .i64 fl, .int .i64 id, .string b]] w fun e w' => e = .returned (checkV (1, 11)) ∧ Keeps nobody w w' := by
  go_enter Try.func19, Try.ntmps19
  go_wp2_with fail
  refine Calls.mono (HR.out _) ?_
  rintro e w1 ⟨rfl, k1⟩
  obtain ⟨c0, c1, c2, c3⟩ := k1.four
  have kw := (keeps_alloc w _).then k1
  clear k1 HR
  have kv := kw
  go_wp2
  go_ret2
  exact ⟨rfl, kv⟩

set_option maxRecDepth 100000 in
set_option maxHeartbeats 1000000 in
theorem rcheck_1_0 (fl id : Int) (b : ByteArray) (w : World) (hi : (id == 0) = false) (HR : Hid (∀ w, Calls Try.prog 46 #[.agg #[.int .i64 1, .int .i64 fl, .int .i64 id, .string b]] w fun e w' => e = .returned (.bool true) ∧ Keeps nobody w w'))
    (S : ByteArray) (m : Nat) (HS : Hid (∀ w, Calls Try.prog 47 #[.agg #[.int .i64 1, .int .i64 fl, .int .i64 id, .string b]] w fun e w' => e = .returned (.tuple #[.string S, .int .i64 (m : Int), .int .i64 0]) ∧ Keeps nobody w w')) :
    Calls Try.prog 19 #[.agg #[.int .i64 1, .int .i64 fl, .int .i64 id, .string b]] w fun e w' => e = .returned (checkV (0, 0)) ∧ Keeps nobody w w' := by
  go_enter Try.func19, Try.ntmps19
  go_wp2_with fail
  refine Calls.mono (HR.out _) ?_
  rintro e w1 ⟨rfl, k1⟩
  obtain ⟨c0, c1, c2, c3⟩ := k1.four
  have kw := (keeps_alloc w _).then k1
  clear k1 HR
  go_wp2_with fail
  refine Calls.mono (HS.out _) ?_
  rintro e w2 ⟨rfl, k2⟩
  have kv := kw.then k2
  go_wp2
  go_ret2
  exact ⟨rfl, kv⟩

set_option maxRecDepth 100000 in
set_option maxHeartbeats 1000000 in
theorem rcheck_1_5 (fl id : Int) (b : ByteArray) (w : World) (hi : (id == 0) = false) (HR : Hid (∀ w, Calls Try.prog 46 #[.agg #[.int .i64 1, .int .i64 fl, .int .i64 id, .string b]] w fun e w' => e = .returned (.bool true) ∧ Keeps nobody w w'))
    (S : ByteArray) (m : Nat) (HS : Hid (∀ w, Calls Try.prog 47 #[.agg #[.int .i64 1, .int .i64 fl, .int .i64 id, .string b]] w fun e w' => e = .returned (.tuple #[.string S, .int .i64 (m : Int), .int .i64 5]) ∧ Keeps nobody w w')) :
    Calls Try.prog 19 #[.agg #[.int .i64 1, .int .i64 fl, .int .i64 id, .string b]] w fun e w' => e = .returned (checkV (6, 5)) ∧ Keeps nobody w w' := by
  go_enter Try.func19, Try.ntmps19
  go_wp2_with fail
  refine Calls.mono (HR.out _) ?_
  rintro e w1 ⟨rfl, k1⟩
  obtain ⟨c0, c1, c2, c3⟩ := k1.four
  have kw := (keeps_alloc w _).then k1
  clear k1 HR
  go_wp2_with fail
  refine Calls.mono (HS.out _) ?_
  rintro e w2 ⟨rfl, k2⟩
  have kv := kw.then k2
  go_wp2
  go_ret2
  exact ⟨rfl, kv⟩

set_option maxRecDepth 100000 in
set_option maxHeartbeats 1000000 in
theorem rcheck_1_11 (fl id : Int) (b : ByteArray) (w : World) (hi : (id == 0) = false) (HR : Hid (∀ w, Calls Try.prog 46 #[.agg #[.int .i64 1, .int .i64 fl, .int .i64 id, .string b]] w fun e w' => e = .returned (.bool true) ∧ Keeps nobody w w'))
    (S : ByteArray) (m : Nat) (HS : Hid (∀ w, Calls Try.prog 47 #[.agg #[.int .i64 1, .int .i64 fl, .int .i64 id, .string b]] w fun e w' => e = .returned (.tuple #[.string S, .int .i64 (m : Int), .int .i64 11]) ∧ Keeps nobody w w')) :
    Calls Try.prog 19 #[.agg #[.int .i64 1, .int .i64 fl, .int .i64 id, .string b]] w fun e w' => e = .returned (checkV (1, 11)) ∧ Keeps nobody w w' := by
  go_enter Try.func19, Try.ntmps19
  go_wp2_with fail
  refine Calls.mono (HR.out _) ?_
  rintro e w1 ⟨rfl, k1⟩
  obtain ⟨c0, c1, c2, c3⟩ := k1.four
  have kw := (keeps_alloc w _).then k1
  clear k1 HR
  go_wp2_with fail
  refine Calls.mono (HS.out _) ?_
  rintro e w2 ⟨rfl, k2⟩
  have kv := kw.then k2
  go_wp2
  go_ret2
  exact ⟨rfl, kv⟩

set_option maxRecDepth 100000 in
set_option maxHeartbeats 1000000 in
theorem rcheck_9z (fl id : Int) (b : ByteArray) (w : World) (hi : (id == 0) = true) (HR : Hid (∀ w, Calls Try.prog 46 #[.agg #[.int .i64 9, .int .i64 fl, .int .i64 id, .string b]] w fun e w' => e = .returned (.bool true) ∧ Keeps nobody w w')) :
    Calls Try.prog 19 #[.agg #[.int .i64 9, .int .i64 fl, .int .i64 id, .string b]] w fun e w' => e = .returned (checkV (1, 11)) ∧ Keeps nobody w w' := by
  go_enter Try.func19, Try.ntmps19
  go_wp2_with fail
  refine Calls.mono (HR.out _) ?_
  rintro e w1 ⟨rfl, k1⟩
  obtain ⟨c0, c1, c2, c3⟩ := k1.four
  have kw := (keeps_alloc w _).then k1
  clear k1 HR
  have kv := kw
  go_wp2
  go_ret2
  exact ⟨rfl, kv⟩

set_option maxRecDepth 100000 in
set_option maxHeartbeats 1000000 in
theorem rcheck_9 (fl id : Int) (b : ByteArray) (w : World) (hi : (id == 0) = false) (HR : Hid (∀ w, Calls Try.prog 46 #[.agg #[.int .i64 9, .int .i64 fl, .int .i64 id, .string b]] w fun e w' => e = .returned (.bool true) ∧ Keeps nobody w w'))
    (S : ByteArray) (m : Nat) (HS : Hid (∀ w, Calls Try.prog 47 #[.agg #[.int .i64 9, .int .i64 fl, .int .i64 id, .string b]] w fun e w' => e = .returned (.tuple #[.string S, .int .i64 (m : Int), .int .i64 0]) ∧ Keeps nobody w w')) :
    Calls Try.prog 19 #[.agg #[.int .i64 9, .int .i64 fl, .int .i64 id, .string b]] w fun e w' => e = .returned (checkV (0, 0)) ∧ Keeps nobody w w' := by
  go_enter Try.func19, Try.ntmps19
  go_wp2_with fail
  refine Calls.mono (HR.out _) ?_
  rintro e w1 ⟨rfl, k1⟩
  obtain ⟨c0, c1, c2, c3⟩ := k1.four
  have kw := (keeps_alloc w _).then k1
  clear k1 HR
  go_wp2_with fail
  refine Calls.mono (HS.out _) ?_
  rintro e w2 ⟨rfl, k2⟩
  have kv := kw.then k2
  go_wp2
  go_ret2
  exact ⟨rfl, kv⟩

set_option maxRecDepth 100000 in
set_option maxHeartbeats 1000000 in
theorem rcheck_2z (fl id : Int) (b : ByteArray) (w : World) (hi : (id == 0) = true) (HR : Hid (∀ w, Calls Try.prog 46 #[.agg #[.int .i64 2, .int .i64 fl, .int .i64 id, .string b]] w fun e w' => e = .returned (.bool true) ∧ Keeps nobody w w')) :
    Calls Try.prog 19 #[.agg #[.int .i64 2, .int .i64 fl, .int .i64 id, .string b]] w fun e w' => e = .returned (checkV (1, 11)) ∧ Keeps nobody w w' := by
  go_enter Try.func19, Try.ntmps19
  go_wp2_with fail
  refine Calls.mono (HR.out _) ?_
  rintro e w1 ⟨rfl, k1⟩
  obtain ⟨c0, c1, c2, c3⟩ := k1.four
  have kw := (keeps_alloc w _).then k1
  clear k1 HR
  have kv := kw
  go_wp2
  go_ret2
  exact ⟨rfl, kv⟩

set_option maxRecDepth 100000 in
set_option maxHeartbeats 1000000 in
theorem rcheck_2f (fl id : Int) (b : ByteArray) (w : World) (hi : (id == 0) = false) (h : ((b.size : Int) != 5) = true) (HR : Hid (∀ w, Calls Try.prog 46 #[.agg #[.int .i64 2, .int .i64 fl, .int .i64 id, .string b]] w fun e w' => e = .returned (.bool true) ∧ Keeps nobody w w')) :
    Calls Try.prog 19 #[.agg #[.int .i64 2, .int .i64 fl, .int .i64 id, .string b]] w fun e w' => e = .returned (checkV (6, 5)) ∧ Keeps nobody w w' := by
  go_enter Try.func19, Try.ntmps19
  go_wp2_with fail
  refine Calls.mono (HR.out _) ?_
  rintro e w1 ⟨rfl, k1⟩
  obtain ⟨c0, c1, c2, c3⟩ := k1.four
  have kw := (keeps_alloc w _).then k1
  clear k1 HR
  have kv := kw
  go_wp2
  go_ret2
  exact ⟨rfl, kv⟩

set_option maxRecDepth 100000 in
set_option maxHeartbeats 1000000 in
theorem rcheck_2t (fl id : Int) (b : ByteArray) (w : World) (hi : (id == 0) = false) (h : ((b.size : Int) != 5) = false) (HR : Hid (∀ w, Calls Try.prog 46 #[.agg #[.int .i64 2, .int .i64 fl, .int .i64 id, .string b]] w fun e w' => e = .returned (.bool true) ∧ Keeps nobody w w'))
    (S : ByteArray) (m : Nat) (HS : Hid (∀ w, Calls Try.prog 47 #[.agg #[.int .i64 2, .int .i64 fl, .int .i64 id, .string b]] w fun e w' => e = .returned (.tuple #[.string S, .int .i64 (m : Int), .int .i64 0]) ∧ Keeps nobody w w')) :
    Calls Try.prog 19 #[.agg #[.int .i64 2, .int .i64 fl, .int .i64 id, .string b]] w fun e w' => e = .returned (checkV (0, 0)) ∧ Keeps nobody w w' := by
  go_enter Try.func19, Try.ntmps19
  go_wp2_with fail
  refine Calls.mono (HR.out _) ?_
  rintro e w1 ⟨rfl, k1⟩
  obtain ⟨c0, c1, c2, c3⟩ := k1.four
  have kw := (keeps_alloc w _).then k1
  clear k1 HR
  go_wp2_with fail
  refine Calls.mono (HS.out _) ?_
  rintro e w2 ⟨rfl, k2⟩
  have kv := kw.then k2
  go_wp2
  go_ret2
  exact ⟨rfl, kv⟩

set_option maxRecDepth 100000 in
set_option maxHeartbeats 1000000 in
theorem rcheck_3z (fl id : Int) (b : ByteArray) (w : World) (hi : (id == 0) = true) (HR : Hid (∀ w, Calls Try.prog 46 #[.agg #[.int .i64 3, .int .i64 fl, .int .i64 id, .string b]] w fun e w' => e = .returned (.bool true) ∧ Keeps nobody w w')) :
    Calls Try.prog 19 #[.agg #[.int .i64 3, .int .i64 fl, .int .i64 id, .string b]] w fun e w' => e = .returned (checkV (1, 11)) ∧ Keeps nobody w w' := by
  go_enter Try.func19, Try.ntmps19
  go_wp2_with fail
  refine Calls.mono (HR.out _) ?_
  rintro e w1 ⟨rfl, k1⟩
  obtain ⟨c0, c1, c2, c3⟩ := k1.four
  have kw := (keeps_alloc w _).then k1
  clear k1 HR
  have kv := kw
  go_wp2
  go_ret2
  exact ⟨rfl, kv⟩

set_option maxRecDepth 100000 in
set_option maxHeartbeats 1000000 in
theorem rcheck_3f (fl id : Int) (b : ByteArray) (w : World) (hi : (id == 0) = false) (h : ((b.size : Int) != 4) = true) (HR : Hid (∀ w, Calls Try.prog 46 #[.agg #[.int .i64 3, .int .i64 fl, .int .i64 id, .string b]] w fun e w' => e = .returned (.bool true) ∧ Keeps nobody w w')) :
    Calls Try.prog 19 #[.agg #[.int .i64 3, .int .i64 fl, .int .i64 id, .string b]] w fun e w' => e = .returned (checkV (6, 5)) ∧ Keeps nobody w w' := by
  go_enter Try.func19, Try.ntmps19
  go_wp2_with fail
  refine Calls.mono (HR.out _) ?_
  rintro e w1 ⟨rfl, k1⟩
  obtain ⟨c0, c1, c2, c3⟩ := k1.four
  have kw := (keeps_alloc w _).then k1
  clear k1 HR
  have kv := kw
  go_wp2
  go_ret2
  exact ⟨rfl, kv⟩

set_option maxRecDepth 100000 in
set_option maxHeartbeats 1000000 in
theorem rcheck_3t (fl id : Int) (b : ByteArray) (w : World) (hi : (id == 0) = false) (h : ((b.size : Int) != 4) = false) (HR : Hid (∀ w, Calls Try.prog 46 #[.agg #[.int .i64 3, .int .i64 fl, .int .i64 id, .string b]] w fun e w' => e = .returned (.bool true) ∧ Keeps nobody w w'))
    (S : ByteArray) (m : Nat) (HS : Hid (∀ w, Calls Try.prog 47 #[.agg #[.int .i64 3, .int .i64 fl, .int .i64 id, .string b]] w fun e w' => e = .returned (.tuple #[.string S, .int .i64 (m : Int), .int .i64 0]) ∧ Keeps nobody w w')) :
    Calls Try.prog 19 #[.agg #[.int .i64 3, .int .i64 fl, .int .i64 id, .string b]] w fun e w' => e = .returned (checkV (0, 0)) ∧ Keeps nobody w w' := by
  go_enter Try.func19, Try.ntmps19
  go_wp2_with fail
  refine Calls.mono (HR.out _) ?_
  rintro e w1 ⟨rfl, k1⟩
  obtain ⟨c0, c1, c2, c3⟩ := k1.four
  have kw := (keeps_alloc w _).then k1
  clear k1 HR
  go_wp2_with fail
  refine Calls.mono (HS.out _) ?_
  rintro e w2 ⟨rfl, k2⟩
  have kv := kw.then k2
  go_wp2
  go_ret2
  exact ⟨rfl, kv⟩

set_option maxRecDepth 100000 in
set_option maxHeartbeats 1000000 in
theorem rcheck_6z (fl id : Int) (b : ByteArray) (w : World) (hi : (id != 0) = true) (HR : Hid (∀ w, Calls Try.prog 46 #[.agg #[.int .i64 6, .int .i64 fl, .int .i64 id, .string b]] w fun e w' => e = .returned (.bool true) ∧ Keeps nobody w w')) :
    Calls Try.prog 19 #[.agg #[.int .i64 6, .int .i64 fl, .int .i64 id, .string b]] w fun e w' => e = .returned (checkV (1, 11)) ∧ Keeps nobody w w' := by
  go_enter Try.func19, Try.ntmps19
  go_wp2_with fail
  refine Calls.mono (HR.out _) ?_
  rintro e w1 ⟨rfl, k1⟩
  obtain ⟨c0, c1, c2, c3⟩ := k1.four
  have kw := (keeps_alloc w _).then k1
  clear k1 HR
  have kv := kw
  go_wp2
  go_ret2
  exact ⟨rfl, kv⟩

set_option maxRecDepth 100000 in
set_option maxHeartbeats 1000000 in
theorem rcheck_6f (fl id : Int) (b : ByteArray) (w : World) (hi : (id != 0) = false) (h : ((b.size : Int) != 8) = true) (HR : Hid (∀ w, Calls Try.prog 46 #[.agg #[.int .i64 6, .int .i64 fl, .int .i64 id, .string b]] w fun e w' => e = .returned (.bool true) ∧ Keeps nobody w w')) :
    Calls Try.prog 19 #[.agg #[.int .i64 6, .int .i64 fl, .int .i64 id, .string b]] w fun e w' => e = .returned (checkV (6, 5)) ∧ Keeps nobody w w' := by
  go_enter Try.func19, Try.ntmps19
  go_wp2_with fail
  refine Calls.mono (HR.out _) ?_
  rintro e w1 ⟨rfl, k1⟩
  obtain ⟨c0, c1, c2, c3⟩ := k1.four
  have kw := (keeps_alloc w _).then k1
  clear k1 HR
  have kv := kw
  go_wp2
  go_ret2
  exact ⟨rfl, kv⟩

set_option maxRecDepth 100000 in
set_option maxHeartbeats 1000000 in
theorem rcheck_6t (fl id : Int) (b : ByteArray) (w : World) (hi : (id != 0) = false) (h : ((b.size : Int) != 8) = false) (HR : Hid (∀ w, Calls Try.prog 46 #[.agg #[.int .i64 6, .int .i64 fl, .int .i64 id, .string b]] w fun e w' => e = .returned (.bool true) ∧ Keeps nobody w w'))
    (S : ByteArray) (m : Nat) (HS : Hid (∀ w, Calls Try.prog 47 #[.agg #[.int .i64 6, .int .i64 fl, .int .i64 id, .string b]] w fun e w' => e = .returned (.tuple #[.string S, .int .i64 (m : Int), .int .i64 0]) ∧ Keeps nobody w w')) :
    Calls Try.prog 19 #[.agg #[.int .i64 6, .int .i64 fl, .int .i64 id, .string b]] w fun e w' => e = .returned (checkV (0, 0)) ∧ Keeps nobody w w' := by
  go_enter Try.func19, Try.ntmps19
  go_wp2_with fail
  refine Calls.mono (HR.out _) ?_
  rintro e w1 ⟨rfl, k1⟩
  obtain ⟨c0, c1, c2, c3⟩ := k1.four
  have kw := (keeps_alloc w _).then k1
  clear k1 HR
  go_wp2_with fail
  refine Calls.mono (HS.out _) ?_
  rintro e w2 ⟨rfl, k2⟩
  have kv := kw.then k2
  go_wp2
  go_ret2
  exact ⟨rfl, kv⟩

set_option maxRecDepth 100000 in
set_option maxHeartbeats 1000000 in
theorem rcheck_7z (fl id : Int) (b : ByteArray) (w : World) (hi : (id != 0) = true) (HR : Hid (∀ w, Calls Try.prog 46 #[.agg #[.int .i64 7, .int .i64 fl, .int .i64 id, .string b]] w fun e w' => e = .returned (.bool true) ∧ Keeps nobody w w')) :
    Calls Try.prog 19 #[.agg #[.int .i64 7, .int .i64 fl, .int .i64 id, .string b]] w fun e w' => e = .returned (checkV (1, 11)) ∧ Keeps nobody w w' := by
  go_enter Try.func19, Try.ntmps19
  go_wp2_with fail
  refine Calls.mono (HR.out _) ?_
  rintro e w1 ⟨rfl, k1⟩
  obtain ⟨c0, c1, c2, c3⟩ := k1.four
  have kw := (keeps_alloc w _).then k1
  clear k1 HR
  have kv := kw
  go_wp2
  go_ret2
  exact ⟨rfl, kv⟩

set_option maxRecDepth 100000 in
set_option maxHeartbeats 1000000 in
theorem rcheck_7f (fl id : Int) (b : ByteArray) (w : World) (hi : (id != 0) = false) (h : ((b.size : Int) < 8) = True) (HR : Hid (∀ w, Calls Try.prog 46 #[.agg #[.int .i64 7, .int .i64 fl, .int .i64 id, .string b]] w fun e w' => e = .returned (.bool true) ∧ Keeps nobody w w')) :
    Calls Try.prog 19 #[.agg #[.int .i64 7, .int .i64 fl, .int .i64 id, .string b]] w fun e w' => e = .returned (checkV (6, 5)) ∧ Keeps nobody w w' := by
  go_enter Try.func19, Try.ntmps19
  go_wp2_with fail
  refine Calls.mono (HR.out _) ?_
  rintro e w1 ⟨rfl, k1⟩
  obtain ⟨c0, c1, c2, c3⟩ := k1.four
  have kw := (keeps_alloc w _).then k1
  clear k1 HR
  have kv := kw
  go_wp2
  go_ret2
  exact ⟨rfl, kv⟩

set_option maxRecDepth 100000 in
set_option maxHeartbeats 1000000 in
theorem rcheck_7t (fl id : Int) (b : ByteArray) (w : World) (hi : (id != 0) = false) (h : ((b.size : Int) < 8) = False) (HR : Hid (∀ w, Calls Try.prog 46 #[.agg #[.int .i64 7, .int .i64 fl, .int .i64 id, .string b]] w fun e w' => e = .returned (.bool true) ∧ Keeps nobody w w'))
    (S : ByteArray) (m : Nat) (HS : Hid (∀ w, Calls Try.prog 47 #[.agg #[.int .i64 7, .int .i64 fl, .int .i64 id, .string b]] w fun e w' => e = .returned (.tuple #[.string S, .int .i64 (m : Int), .int .i64 0]) ∧ Keeps nobody w w')) :
    Calls Try.prog 19 #[.agg #[.int .i64 7, .int .i64 fl, .int .i64 id, .string b]] w fun e w' => e = .returned (checkV (0, 0)) ∧ Keeps nobody w w' := by
  go_enter Try.func19, Try.ntmps19
  go_wp2_with fail
  refine Calls.mono (HR.out _) ?_
  rintro e w1 ⟨rfl, k1⟩
  obtain ⟨c0, c1, c2, c3⟩ := k1.four
  have kw := (keeps_alloc w _).then k1
  clear k1 HR
  go_wp2_with fail
  refine Calls.mono (HS.out _) ?_
  rintro e w2 ⟨rfl, k2⟩
  have kv := kw.then k2
  go_wp2
  go_ret2
  exact ⟨rfl, kv⟩

set_option maxRecDepth 100000 in
set_option maxHeartbeats 1000000 in
theorem rcheck_8f (fl id : Int) (b : ByteArray) (w : World) (h : ((b.size : Int) != 4) = true) (HR : Hid (∀ w, Calls Try.prog 46 #[.agg #[.int .i64 8, .int .i64 fl, .int .i64 id, .string b]] w fun e w' => e = .returned (.bool true) ∧ Keeps nobody w w')) :
    Calls Try.prog 19 #[.agg #[.int .i64 8, .int .i64 fl, .int .i64 id, .string b]] w fun e w' => e = .returned (checkV (6, 5)) ∧ Keeps nobody w w' := by
  go_enter Try.func19, Try.ntmps19
  go_wp2_with fail
  refine Calls.mono (HR.out _) ?_
  rintro e w1 ⟨rfl, k1⟩
  obtain ⟨c0, c1, c2, c3⟩ := k1.four
  have kw := (keeps_alloc w _).then k1
  clear k1 HR
  have kv := kw
  go_wp2
  go_ret2
  exact ⟨rfl, kv⟩

set_option maxRecDepth 100000 in
set_option maxHeartbeats 1000000 in
theorem rcheck_8t (fl id : Int) (b : ByteArray) (w : World) (h : ((b.size : Int) != 4) = false) (HR : Hid (∀ w, Calls Try.prog 46 #[.agg #[.int .i64 8, .int .i64 fl, .int .i64 id, .string b]] w fun e w' => e = .returned (.bool true) ∧ Keeps nobody w w'))
    (S : ByteArray) (m : Nat) (HS : Hid (∀ w, Calls Try.prog 47 #[.agg #[.int .i64 8, .int .i64 fl, .int .i64 id, .string b]] w fun e w' => e = .returned (.tuple #[.string S, .int .i64 (m : Int), .int .i64 0]) ∧ Keeps nobody w w')) :
    Calls Try.prog 19 #[.agg #[.int .i64 8, .int .i64 fl, .int .i64 id, .string b]] w fun e w' => e = .returned (checkV (0, 0)) ∧ Keeps nobody w w' := by
  go_enter Try.func19, Try.ntmps19
  go_wp2_with fail
  refine Calls.mono (HR.out _) ?_
  rintro e w1 ⟨rfl, k1⟩
  obtain ⟨c0, c1, c2, c3⟩ := k1.four
  have kw := (keeps_alloc w _).then k1
  clear k1 HR
  go_wp2_with fail
  refine Calls.mono (HS.out _) ?_
  rintro e w2 ⟨rfl, k2⟩
  have kv := kw.then k2
  go_wp2
  go_ret2
  exact ⟨rfl, kv⟩

set_option maxRecDepth 100000 in
set_option maxHeartbeats 1000000 in
theorem rcheck_4za (fl id : Int) (b : ByteArray) (w : World) (hi : (id != 0) = true) (M : Nat) (hm : (b.size : Int) % 6 = (M : Int)) (h : ((M : Int) != 0) = true) (HR : Hid (∀ w, Calls Try.prog 46 #[.agg #[.int .i64 4, .int .i64 fl, .int .i64 id, .string b]] w fun e w' => e = .returned (.bool true) ∧ Keeps nobody w w')) :
    Calls Try.prog 19 #[.agg #[.int .i64 4, .int .i64 fl, .int .i64 id, .string b]] w fun e w' => e = .returned (checkV (1, 11)) ∧ Keeps nobody w w' := by
  generalize hP : bits .and .i64 fl 1 = P at *
  go_enter Try.func19, Try.ntmps19
  go_wp2_with fail
  refine Calls.mono (HR.out _) ?_
  rintro e w1 ⟨rfl, k1⟩
  obtain ⟨c0, c1, c2, c3⟩ := k1.four
  have kw := (keeps_alloc w _).then k1
  clear k1 HR
  have kv := kw
  go_wp2
  go_ret2
  exact ⟨rfl, kv⟩

set_option maxRecDepth 100000 in
set_option maxHeartbeats 1000000 in
theorem rcheck_4zb (fl id : Int) (b : ByteArray) (w : World) (hi : (id != 0) = true) (M : Nat) (hm : (b.size : Int) % 6 = (M : Int)) (h : ((M : Int) != 0) = false) (ha : (bits .and .i64 fl 1 != 0) = false) (HR : Hid (∀ w, Calls Try.prog 46 #[.agg #[.int .i64 4, .int .i64 fl, .int .i64 id, .string b]] w fun e w' => e = .returned (.bool true) ∧ Keeps nobody w w')) :
    Calls Try.prog 19 #[.agg #[.int .i64 4, .int .i64 fl, .int .i64 id, .string b]] w fun e w' => e = .returned (checkV (1, 11)) ∧ Keeps nobody w w' := by
  generalize hP : bits .and .i64 fl 1 = P at *
  go_enter Try.func19, Try.ntmps19
  go_wp2_with fail
  refine Calls.mono (HR.out _) ?_
  rintro e w1 ⟨rfl, k1⟩
  obtain ⟨c0, c1, c2, c3⟩ := k1.four
  have kw := (keeps_alloc w _).then k1
  clear k1 HR
  have kv := kw
  go_wp2
  go_ret2
  exact ⟨rfl, kv⟩

set_option maxRecDepth 100000 in
set_option maxHeartbeats 1000000 in
theorem rcheck_4zc (fl id : Int) (b : ByteArray) (w : World) (hi : (id != 0) = true) (M : Nat) (hm : (b.size : Int) % 6 = (M : Int)) (h : ((M : Int) != 0) = false) (ha : (bits .and .i64 fl 1 != 0) = true) (HR : Hid (∀ w, Calls Try.prog 46 #[.agg #[.int .i64 4, .int .i64 fl, .int .i64 id, .string b]] w fun e w' => e = .returned (.bool true) ∧ Keeps nobody w w')) :
    Calls Try.prog 19 #[.agg #[.int .i64 4, .int .i64 fl, .int .i64 id, .string b]] w fun e w' => e = .returned (checkV (1, 11)) ∧ Keeps nobody w w' := by
  generalize hP : bits .and .i64 fl 1 = P at *
  go_enter Try.func19, Try.ntmps19
  go_wp2_with fail
  refine Calls.mono (HR.out _) ?_
  rintro e w1 ⟨rfl, k1⟩
  obtain ⟨c0, c1, c2, c3⟩ := k1.four
  have kw := (keeps_alloc w _).then k1
  clear k1 HR
  have kv := kw
  go_wp2
  go_ret2
  exact ⟨rfl, kv⟩

set_option maxRecDepth 100000 in
set_option maxHeartbeats 1000000 in
theorem rcheck_4a (fl id : Int) (b : ByteArray) (w : World) (hi : (id != 0) = false) (M : Nat) (hm : (b.size : Int) % 6 = (M : Int)) (h : ((M : Int) != 0) = true) (HR : Hid (∀ w, Calls Try.prog 46 #[.agg #[.int .i64 4, .int .i64 fl, .int .i64 id, .string b]] w fun e w' => e = .returned (.bool true) ∧ Keeps nobody w w')) :
    Calls Try.prog 19 #[.agg #[.int .i64 4, .int .i64 fl, .int .i64 id, .string b]] w fun e w' => e = .returned (checkV (6, 5)) ∧ Keeps nobody w w' := by
  generalize hP : bits .and .i64 fl 1 = P at *
  go_enter Try.func19, Try.ntmps19
  go_wp2_with fail
  refine Calls.mono (HR.out _) ?_
  rintro e w1 ⟨rfl, k1⟩
  obtain ⟨c0, c1, c2, c3⟩ := k1.four
  have kw := (keeps_alloc w _).then k1
  clear k1 HR
  have kv := kw
  go_wp2
  go_ret2
  exact ⟨rfl, kv⟩

set_option maxRecDepth 100000 in
set_option maxHeartbeats 1000000 in
theorem rcheck_4b (fl id : Int) (b : ByteArray) (w : World) (hi : (id != 0) = false) (M : Nat) (hm : (b.size : Int) % 6 = (M : Int)) (h : ((M : Int) != 0) = false) (ha : (bits .and .i64 fl 1 != 0) = false) (HR : Hid (∀ w, Calls Try.prog 46 #[.agg #[.int .i64 4, .int .i64 fl, .int .i64 id, .string b]] w fun e w' => e = .returned (.bool true) ∧ Keeps nobody w w'))
    (S : ByteArray) (m : Nat) (HS : Hid (∀ w, Calls Try.prog 47 #[.agg #[.int .i64 4, .int .i64 fl, .int .i64 id, .string b]] w fun e w' => e = .returned (.tuple #[.string S, .int .i64 (m : Int), .int .i64 0]) ∧ Keeps nobody w w')) :
    Calls Try.prog 19 #[.agg #[.int .i64 4, .int .i64 fl, .int .i64 id, .string b]] w fun e w' => e = .returned (checkV (0, 0)) ∧ Keeps nobody w w' := by
  generalize hP : bits .and .i64 fl 1 = P at *
  go_enter Try.func19, Try.ntmps19
  go_wp2_with fail
  refine Calls.mono (HR.out _) ?_
  rintro e w1 ⟨rfl, k1⟩
  obtain ⟨c0, c1, c2, c3⟩ := k1.four
  have kw := (keeps_alloc w _).then k1
  clear k1 HR
  go_wp2_with fail
  refine Calls.mono (HS.out _) ?_
  rintro e w2 ⟨rfl, k2⟩
  have kv := kw.then k2
  go_wp2
  go_ret2
  exact ⟨rfl, kv⟩

set_option maxRecDepth 100000 in
set_option maxHeartbeats 1000000 in
theorem rcheck_4c (fl id : Int) (b : ByteArray) (w : World) (hi : (id != 0) = false) (M : Nat) (hm : (b.size : Int) % 6 = (M : Int)) (h : ((M : Int) != 0) = false) (ha : (bits .and .i64 fl 1 != 0) = true) (hn : 0 < b.size) (HR : Hid (∀ w, Calls Try.prog 46 #[.agg #[.int .i64 4, .int .i64 fl, .int .i64 id, .string b]] w fun e w' => e = .returned (.bool true) ∧ Keeps nobody w w')) :
    Calls Try.prog 19 #[.agg #[.int .i64 4, .int .i64 fl, .int .i64 id, .string b]] w fun e w' => e = .returned (checkV (6, 5)) ∧ Keeps nobody w w' := by
  generalize hP : bits .and .i64 fl 1 = P at *
  go_enter Try.func19, Try.ntmps19
  go_wp2_with fail
  refine Calls.mono (HR.out _) ?_
  rintro e w1 ⟨rfl, k1⟩
  obtain ⟨c0, c1, c2, c3⟩ := k1.four
  have kw := (keeps_alloc w _).then k1
  clear k1 HR
  have kv := kw
  go_wp2
  go_ret2
  exact ⟨rfl, kv⟩

set_option maxRecDepth 100000 in
set_option maxHeartbeats 1000000 in
theorem rcheck_4d (fl id : Int) (b : ByteArray) (w : World) (hi : (id != 0) = false) (M : Nat) (hm : (b.size : Int) % 6 = (M : Int)) (h : ((M : Int) != 0) = false) (ha : (bits .and .i64 fl 1 != 0) = true) (hn : ¬ 0 < b.size) (HR : Hid (∀ w, Calls Try.prog 46 #[.agg #[.int .i64 4, .int .i64 fl, .int .i64 id, .string b]] w fun e w' => e = .returned (.bool true) ∧ Keeps nobody w w'))
    (S : ByteArray) (m : Nat) (HS : Hid (∀ w, Calls Try.prog 47 #[.agg #[.int .i64 4, .int .i64 fl, .int .i64 id, .string b]] w fun e w' => e = .returned (.tuple #[.string S, .int .i64 (m : Int), .int .i64 0]) ∧ Keeps nobody w w')) :
    Calls Try.prog 19 #[.agg #[.int .i64 4, .int .i64 fl, .int .i64 id, .string b]] w fun e w' => e = .returned (checkV (0, 0)) ∧ Keeps nobody w w' := by
  generalize hP : bits .and .i64 fl 1 = P at *
  go_enter Try.func19, Try.ntmps19
  go_wp2_with fail
  refine Calls.mono (HR.out _) ?_
  rintro e w1 ⟨rfl, k1⟩
  obtain ⟨c0, c1, c2, c3⟩ := k1.four
  have kw := (keeps_alloc w _).then k1
  clear k1 HR
  go_wp2_with fail
  refine Calls.mono (HS.out _) ?_
  rintro e w2 ⟨rfl, k2⟩
  have kv := kw.then k2
  go_wp2
  go_ret2
  exact ⟨rfl, kv⟩

set_option maxRecDepth 100000 in
set_option maxHeartbeats 1000000 in
theorem rcheck_other (k : Int) (fl id : Int) (b : ByteArray) (w : World) (h0 : (k == 0) = false) (h1 : (k == 1) = false) (h2 : (k == 2) = false) (h3 : (k == 3) = false) (h4 : (k == 4) = false) (h5 : (k == 5) = false) (h6 : (k == 6) = false) (h7 : (k == 7) = false) (h8 : (k == 8) = false) (h9 : (k == 9) = false) (HR : Hid (∀ w, Calls Try.prog 46 #[.agg #[.int .i64 k, .int .i64 fl, .int .i64 id, .string b]] w fun e w' => e = .returned (.bool true) ∧ Keeps nobody w w'))
    (S : ByteArray) (m : Nat) (HS : Hid (∀ w, Calls Try.prog 47 #[.agg #[.int .i64 k, .int .i64 fl, .int .i64 id, .string b]] w fun e w' => e = .returned (.tuple #[.string S, .int .i64 (m : Int), .int .i64 0]) ∧ Keeps nobody w w')) :
    Calls Try.prog 19 #[.agg #[.int .i64 k, .int .i64 fl, .int .i64 id, .string b]] w fun e w' => e = .returned (checkV (0, 0)) ∧ Keeps nobody w w' := by
  go_enter Try.func19, Try.ntmps19
  go_wp2_with fail
  refine Calls.mono (HR.out _) ?_
  rintro e w1 ⟨rfl, k1⟩
  obtain ⟨c0, c1, c2, c3⟩ := k1.four
  have kw := (keeps_alloc w _).then k1
  clear k1 HR
  go_wp2_with fail
  refine Calls.mono (HS.out _) ?_
  rintro e w2 ⟨rfl, k2⟩
  have kv := kw.then k2
  go_wp2
  go_ret2
  exact ⟨rfl, kv⟩
end Go.Proofs.Ytdpbnlamdgdljaa
