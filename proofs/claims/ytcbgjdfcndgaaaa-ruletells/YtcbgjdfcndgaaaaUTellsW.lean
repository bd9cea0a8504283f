/-
  The law RuleTells as a walk.
-/
import Derived.Test.YtcbgjdfcndgaaaaURef2
namespace Go.Proofs.Ytcbgjdfcndgaaaa
open Go.RowKit
attribute [local irreducible] checkA right stripA streamed known resetE

theorem rtells_off (k fl id : Int) (b : ByteArray) (kd cd : Int) (W : World) (HA : Hid (∀ w, Calls Try.prog 9 #[] w fun e w' => e = .returned (.bool true) ∧ Keeps nobody w w')) (h : 1000 < b.size) : Calls Try.prog 3 #[.agg #[.int .i64 k, .int .i64 fl, .int .i64 id, .string b], .int .i64 kd, .int .i64 cd] W (Fine W) := by
  have hk := keeps_alloc W (frobj k fl id b)
  go_enter Try.func3, Try.ntmps3
  go_wp2_with fail
  refine Calls.mono (HA.out _) ?_
  rintro e w1 ⟨rfl, k1⟩
  go_wp2
  go_ret
  exact ⟨rfl, below_of_keeps (hk.then k1)⟩

set_option maxRecDepth 100000 in
set_option maxHeartbeats 2000000 in
theorem rtells_0 (k fl id : Int) (b : ByteArray) (cd : Int) (W : World) (HA : Hid (∀ w, Calls Try.prog 9 #[] w fun e w' => e = .returned (.bool true) ∧ Keeps nobody w w')) (hb : b.size ≤ 1000)  (C E X : Int)
    (H1 : Hid (∀ w, Calls Try.prog 10 #[.agg #[.int .i64 k, .int .i64 fl, .int .i64 id, .string b]] w fun e w' => e = .returned (.tuple #[.int .i64 C, .int .i64 E]) ∧ Keeps nobody w w'))
    (H2 : Hid (∀ w, Calls Try.prog 11 #[.agg #[.int .i64 k, .int .i64 fl, .int .i64 id, .string b]] w fun e w' => e = .returned (.tuple #[.int .i64 C, .int .i64 E]) ∧ Keeps nobody w w'))
    (H3 : Hid (∀ w, Calls Try.prog 12 #[.int .i64 0] w fun e w' => e = .returned (.bool true) ∧ w = w'))
    (H4 : Hid (∀ w, Calls Try.prog 13 #[.int .i64 0] w fun e w' => e = .returned (.bool true) ∧ w = w'))
    (H5 : Hid (∀ w, Calls Try.prog 14 #[.int .i64 cd] w fun e w' => e = .returned (.int .i64 X) ∧ w = w'))
    (H6 : Hid (∀ w, Calls Try.prog 15 #[.int .i64 cd] w fun e w' => e = .returned (.int .i64 X) ∧ w = w')) :
    Calls Try.prog 3 #[.agg #[.int .i64 k, .int .i64 fl, .int .i64 id, .string b], .int .i64 0, .int .i64 cd] W (Fine W) := by
  have hk := keeps_alloc W (frobj k fl id b)
  go_enter Try.func3, Try.ntmps3
  go_wp2_with fail
  refine Calls.mono (HA.out _) ?_
  rintro e w1 ⟨rfl, k1⟩
  obtain ⟨c0, c1, c2, c3⟩ := k1.four
  have hlt : W.heap.size < w1.heap.size := Nat.lt_of_lt_of_le (by simp) k1.size
  have K1 := hk.then k1
  clear hk k1 HA
  go_wp2_with fail
  refine Calls.mono (H1.out _) ?_
  rintro e w2 ⟨rfl, k2⟩
  have d0 := (k2.cell (p := ⟨W.heap.size, 0, none⟩) hlt (fun h => h)).trans c0
  have d1 := (k2.cell (p := ⟨W.heap.size, 1, none⟩) hlt (fun h => h)).trans c1
  have d2 := (k2.cell (p := ⟨W.heap.size, 2, none⟩) hlt (fun h => h)).trans c2
  have d3 := (k2.cell (p := ⟨W.heap.size, 3, none⟩) hlt (fun h => h)).trans c3
  have K2 := K1.then k2
  clear c0 c1 c2 c3 hlt k2 K1 H1
  go_wp2_with fail
  refine Calls.mono (H2.out _) ?_
  rintro e w3 ⟨rfl, k3⟩
  have K3 := K2.then k3
  clear d0 d1 d2 d3 k3 K2 H2
  go_wp2_with fail
  refine Calls.mono (H3.out _) ?_
  rintro e w4 ⟨rfl, rfl⟩
  go_wp2_with fail
  refine Calls.mono (H4.out _) ?_
  rintro e w4 ⟨rfl, rfl⟩
  go_wp2_with fail
  refine Calls.mono (H5.out _) ?_
  rintro e w4 ⟨rfl, rfl⟩
  go_wp2_with fail
  refine Calls.mono (H6.out _) ?_
  rintro e w4 ⟨rfl, rfl⟩
  clear H3 H4 H5 H6
  go_wp2
  go_ret
  exact ⟨by first | rfl | (simp; omega), below_of_keeps K3⟩

set_option maxRecDepth 100000 in
set_option maxHeartbeats 2000000 in
theorem rtells_1 (k fl id : Int) (b : ByteArray) (cd : Int) (W : World) (HA : Hid (∀ w, Calls Try.prog 9 #[] w fun e w' => e = .returned (.bool true) ∧ Keeps nobody w w')) (hb : b.size ≤ 1000)  (C E X : Int)
    (H1 : Hid (∀ w, Calls Try.prog 10 #[.agg #[.int .i64 k, .int .i64 fl, .int .i64 id, .string b]] w fun e w' => e = .returned (.tuple #[.int .i64 C, .int .i64 E]) ∧ Keeps nobody w w'))
    (H2 : Hid (∀ w, Calls Try.prog 11 #[.agg #[.int .i64 k, .int .i64 fl, .int .i64 id, .string b]] w fun e w' => e = .returned (.tuple #[.int .i64 C, .int .i64 E]) ∧ Keeps nobody w w'))
    (H3 : Hid (∀ w, Calls Try.prog 12 #[.int .i64 1] w fun e w' => e = .returned (.bool true) ∧ w = w'))
    (H4 : Hid (∀ w, Calls Try.prog 13 #[.int .i64 1] w fun e w' => e = .returned (.bool true) ∧ w = w'))
    (H5 : Hid (∀ w, Calls Try.prog 14 #[.int .i64 cd] w fun e w' => e = .returned (.int .i64 X) ∧ w = w'))
    (H6 : Hid (∀ w, Calls Try.prog 15 #[.int .i64 cd] w fun e w' => e = .returned (.int .i64 X) ∧ w = w')) :
    Calls Try.prog 3 #[.agg #[.int .i64 k, .int .i64 fl, .int .i64 id, .string b], .int .i64 1, .int .i64 cd] W (Fine W) := by
  have hk := keeps_alloc W (frobj k fl id b)
  go_enter Try.func3, Try.ntmps3
  go_wp2_with fail
  refine Calls.mono (HA.out _) ?_
  rintro e w1 ⟨rfl, k1⟩
  obtain ⟨c0, c1, c2, c3⟩ := k1.four
  have hlt : W.heap.size < w1.heap.size := Nat.lt_of_lt_of_le (by simp) k1.size
  have K1 := hk.then k1
  clear hk k1 HA
  go_wp2_with fail
  refine Calls.mono (H1.out _) ?_
  rintro e w2 ⟨rfl, k2⟩
  have d0 := (k2.cell (p := ⟨W.heap.size, 0, none⟩) hlt (fun h => h)).trans c0
  have d1 := (k2.cell (p := ⟨W.heap.size, 1, none⟩) hlt (fun h => h)).trans c1
  have d2 := (k2.cell (p := ⟨W.heap.size, 2, none⟩) hlt (fun h => h)).trans c2
  have d3 := (k2.cell (p := ⟨W.heap.size, 3, none⟩) hlt (fun h => h)).trans c3
  have K2 := K1.then k2
  clear c0 c1 c2 c3 hlt k2 K1 H1
  go_wp2_with fail
  refine Calls.mono (H2.out _) ?_
  rintro e w3 ⟨rfl, k3⟩
  have K3 := K2.then k3
  clear d0 d1 d2 d3 k3 K2 H2
  go_wp2_with fail
  refine Calls.mono (H3.out _) ?_
  rintro e w4 ⟨rfl, rfl⟩
  go_wp2_with fail
  refine Calls.mono (H4.out _) ?_
  rintro e w4 ⟨rfl, rfl⟩
  go_wp2_with fail
  refine Calls.mono (H5.out _) ?_
  rintro e w4 ⟨rfl, rfl⟩
  go_wp2_with fail
  refine Calls.mono (H6.out _) ?_
  rintro e w4 ⟨rfl, rfl⟩
  clear H3 H4 H5 H6
  go_wp2
  go_ret
  exact ⟨by first | rfl | (simp; omega), below_of_keeps K3⟩

set_option maxRecDepth 100000 in
set_option maxHeartbeats 2000000 in
theorem rtells_2 (k fl id : Int) (b : ByteArray) (cd : Int) (W : World) (HA : Hid (∀ w, Calls Try.prog 9 #[] w fun e w' => e = .returned (.bool true) ∧ Keeps nobody w w')) (hb : b.size ≤ 1000)  (C E X : Int)
    (H1 : Hid (∀ w, Calls Try.prog 10 #[.agg #[.int .i64 k, .int .i64 fl, .int .i64 id, .string b]] w fun e w' => e = .returned (.tuple #[.int .i64 C, .int .i64 E]) ∧ Keeps nobody w w'))
    (H2 : Hid (∀ w, Calls Try.prog 11 #[.agg #[.int .i64 k, .int .i64 fl, .int .i64 id, .string b]] w fun e w' => e = .returned (.tuple #[.int .i64 C, .int .i64 E]) ∧ Keeps nobody w w'))
    (H3 : Hid (∀ w, Calls Try.prog 12 #[.int .i64 2] w fun e w' => e = .returned (.bool true) ∧ w = w'))
    (H4 : Hid (∀ w, Calls Try.prog 13 #[.int .i64 2] w fun e w' => e = .returned (.bool true) ∧ w = w'))
    (H5 : Hid (∀ w, Calls Try.prog 14 #[.int .i64 cd] w fun e w' => e = .returned (.int .i64 X) ∧ w = w'))
    (H6 : Hid (∀ w, Calls Try.prog 15 #[.int .i64 cd] w fun e w' => e = .returned (.int .i64 X) ∧ w = w')) :
    Calls Try.prog 3 #[.agg #[.int .i64 k, .int .i64 fl, .int .i64 id, .string b], .int .i64 2, .int .i64 cd] W (Fine W) := by
  have hk := keeps_alloc W (frobj k fl id b)
  go_enter Try.func3, Try.ntmps3
  go_wp2_with fail
  refine Calls.mono (HA.out _) ?_
  rintro e w1 ⟨rfl, k1⟩
  obtain ⟨c0, c1, c2, c3⟩ := k1.four
  have hlt : W.heap.size < w1.heap.size := Nat.lt_of_lt_of_le (by simp) k1.size
  have K1 := hk.then k1
  clear hk k1 HA
  go_wp2_with fail
  refine Calls.mono (H1.out _) ?_
  rintro e w2 ⟨rfl, k2⟩
  have d0 := (k2.cell (p := ⟨W.heap.size, 0, none⟩) hlt (fun h => h)).trans c0
  have d1 := (k2.cell (p := ⟨W.heap.size, 1, none⟩) hlt (fun h => h)).trans c1
  have d2 := (k2.cell (p := ⟨W.heap.size, 2, none⟩) hlt (fun h => h)).trans c2
  have d3 := (k2.cell (p := ⟨W.heap.size, 3, none⟩) hlt (fun h => h)).trans c3
  have K2 := K1.then k2
  clear c0 c1 c2 c3 hlt k2 K1 H1
  go_wp2_with fail
  refine Calls.mono (H2.out _) ?_
  rintro e w3 ⟨rfl, k3⟩
  have K3 := K2.then k3
  clear d0 d1 d2 d3 k3 K2 H2
  go_wp2_with fail
  refine Calls.mono (H3.out _) ?_
  rintro e w4 ⟨rfl, rfl⟩
  go_wp2_with fail
  refine Calls.mono (H4.out _) ?_
  rintro e w4 ⟨rfl, rfl⟩
  go_wp2_with fail
  refine Calls.mono (H5.out _) ?_
  rintro e w4 ⟨rfl, rfl⟩
  go_wp2_with fail
  refine Calls.mono (H6.out _) ?_
  rintro e w4 ⟨rfl, rfl⟩
  clear H3 H4 H5 H6
  go_wp2
  go_ret
  exact ⟨by first | rfl | (simp; omega), below_of_keeps K3⟩

set_option maxRecDepth 100000 in
set_option maxHeartbeats 2000000 in
theorem rtells_3 (k fl id : Int) (b : ByteArray) (cd : Int) (W : World) (HA : Hid (∀ w, Calls Try.prog 9 #[] w fun e w' => e = .returned (.bool true) ∧ Keeps nobody w w')) (hb : b.size ≤ 1000)  (C E X : Int)
    (H1 : Hid (∀ w, Calls Try.prog 10 #[.agg #[.int .i64 k, .int .i64 fl, .int .i64 id, .string b]] w fun e w' => e = .returned (.tuple #[.int .i64 C, .int .i64 E]) ∧ Keeps nobody w w'))
    (H2 : Hid (∀ w, Calls Try.prog 11 #[.agg #[.int .i64 k, .int .i64 fl, .int .i64 id, .string b]] w fun e w' => e = .returned (.tuple #[.int .i64 C, .int .i64 E]) ∧ Keeps nobody w w'))
    (H3 : Hid (∀ w, Calls Try.prog 12 #[.int .i64 3] w fun e w' => e = .returned (.bool true) ∧ w = w'))
    (H4 : Hid (∀ w, Calls Try.prog 13 #[.int .i64 3] w fun e w' => e = .returned (.bool true) ∧ w = w'))
    (H5 : Hid (∀ w, Calls Try.prog 14 #[.int .i64 cd] w fun e w' => e = .returned (.int .i64 X) ∧ w = w'))
    (H6 : Hid (∀ w, Calls Try.prog 15 #[.int .i64 cd] w fun e w' => e = .returned (.int .i64 X) ∧ w = w')) :
    Calls Try.prog 3 #[.agg #[.int .i64 k, .int .i64 fl, .int .i64 id, .string b], .int .i64 3, .int .i64 cd] W (Fine W) := by
  have hk := keeps_alloc W (frobj k fl id b)
  go_enter Try.func3, Try.ntmps3
  go_wp2_with fail
  refine Calls.mono (HA.out _) ?_
  rintro e w1 ⟨rfl, k1⟩
  obtain ⟨c0, c1, c2, c3⟩ := k1.four
  have hlt : W.heap.size < w1.heap.size := Nat.lt_of_lt_of_le (by simp) k1.size
  have K1 := hk.then k1
  clear hk k1 HA
  go_wp2_with fail
  refine Calls.mono (H1.out _) ?_
  rintro e w2 ⟨rfl, k2⟩
  have d0 := (k2.cell (p := ⟨W.heap.size, 0, none⟩) hlt (fun h => h)).trans c0
  have d1 := (k2.cell (p := ⟨W.heap.size, 1, none⟩) hlt (fun h => h)).trans c1
  have d2 := (k2.cell (p := ⟨W.heap.size, 2, none⟩) hlt (fun h => h)).trans c2
  have d3 := (k2.cell (p := ⟨W.heap.size, 3, none⟩) hlt (fun h => h)).trans c3
  have K2 := K1.then k2
  clear c0 c1 c2 c3 hlt k2 K1 H1
  go_wp2_with fail
  refine Calls.mono (H2.out _) ?_
  rintro e w3 ⟨rfl, k3⟩
  have K3 := K2.then k3
  clear d0 d1 d2 d3 k3 K2 H2
  go_wp2_with fail
  refine Calls.mono (H3.out _) ?_
  rintro e w4 ⟨rfl, rfl⟩
  go_wp2_with fail
  refine Calls.mono (H4.out _) ?_
  rintro e w4 ⟨rfl, rfl⟩
  go_wp2_with fail
  refine Calls.mono (H5.out _) ?_
  rintro e w4 ⟨rfl, rfl⟩
  go_wp2_with fail
  refine Calls.mono (H6.out _) ?_
  rintro e w4 ⟨rfl, rfl⟩
  clear H3 H4 H5 H6
  go_wp2
  go_ret
  exact ⟨by first | rfl | (simp; omega), below_of_keeps K3⟩

set_option maxRecDepth 100000 in
set_option maxHeartbeats 2000000 in
theorem rtells_9 (k fl id : Int) (b : ByteArray) (cd : Int) (W : World) (HA : Hid (∀ w, Calls Try.prog 9 #[] w fun e w' => e = .returned (.bool true) ∧ Keeps nobody w w')) (hb : b.size ≤ 1000)  (C E X : Int)
    (H1 : Hid (∀ w, Calls Try.prog 10 #[.agg #[.int .i64 k, .int .i64 fl, .int .i64 id, .string b]] w fun e w' => e = .returned (.tuple #[.int .i64 C, .int .i64 E]) ∧ Keeps nobody w w'))
    (H2 : Hid (∀ w, Calls Try.prog 11 #[.agg #[.int .i64 k, .int .i64 fl, .int .i64 id, .string b]] w fun e w' => e = .returned (.tuple #[.int .i64 C, .int .i64 E]) ∧ Keeps nobody w w'))
    (H3 : Hid (∀ w, Calls Try.prog 12 #[.int .i64 9] w fun e w' => e = .returned (.bool true) ∧ w = w'))
    (H4 : Hid (∀ w, Calls Try.prog 13 #[.int .i64 9] w fun e w' => e = .returned (.bool true) ∧ w = w'))
    (H5 : Hid (∀ w, Calls Try.prog 14 #[.int .i64 cd] w fun e w' => e = .returned (.int .i64 X) ∧ w = w'))
    (H6 : Hid (∀ w, Calls Try.prog 15 #[.int .i64 cd] w fun e w' => e = .returned (.int .i64 X) ∧ w = w')) :
    Calls Try.prog 3 #[.agg #[.int .i64 k, .int .i64 fl, .int .i64 id, .string b], .int .i64 9, .int .i64 cd] W (Fine W) := by
  have hk := keeps_alloc W (frobj k fl id b)
  go_enter Try.func3, Try.ntmps3
  go_wp2_with fail
  refine Calls.mono (HA.out _) ?_
  rintro e w1 ⟨rfl, k1⟩
  obtain ⟨c0, c1, c2, c3⟩ := k1.four
  have hlt : W.heap.size < w1.heap.size := Nat.lt_of_lt_of_le (by simp) k1.size
  have K1 := hk.then k1
  clear hk k1 HA
  go_wp2_with fail
  refine Calls.mono (H1.out _) ?_
  rintro e w2 ⟨rfl, k2⟩
  have d0 := (k2.cell (p := ⟨W.heap.size, 0, none⟩) hlt (fun h => h)).trans c0
  have d1 := (k2.cell (p := ⟨W.heap.size, 1, none⟩) hlt (fun h => h)).trans c1
  have d2 := (k2.cell (p := ⟨W.heap.size, 2, none⟩) hlt (fun h => h)).trans c2
  have d3 := (k2.cell (p := ⟨W.heap.size, 3, none⟩) hlt (fun h => h)).trans c3
  have K2 := K1.then k2
  clear c0 c1 c2 c3 hlt k2 K1 H1
  go_wp2_with fail
  refine Calls.mono (H2.out _) ?_
  rintro e w3 ⟨rfl, k3⟩
  have K3 := K2.then k3
  clear d0 d1 d2 d3 k3 K2 H2
  go_wp2_with fail
  refine Calls.mono (H3.out _) ?_
  rintro e w4 ⟨rfl, rfl⟩
  go_wp2_with fail
  refine Calls.mono (H4.out _) ?_
  rintro e w4 ⟨rfl, rfl⟩
  go_wp2_with fail
  refine Calls.mono (H5.out _) ?_
  rintro e w4 ⟨rfl, rfl⟩
  go_wp2_with fail
  refine Calls.mono (H6.out _) ?_
  rintro e w4 ⟨rfl, rfl⟩
  clear H3 H4 H5 H6
  go_wp2
  go_ret
  exact ⟨by first | rfl | (simp; omega), below_of_keeps K3⟩

set_option maxRecDepth 100000 in
set_option maxHeartbeats 2000000 in
theorem rtells_n (k fl id : Int) (b : ByteArray) (kd : Int) (cd : Int) (W : World) (HA : Hid (∀ w, Calls Try.prog 9 #[] w fun e w' => e = .returned (.bool true) ∧ Keeps nobody w w')) (hb : b.size ≤ 1000) (e0 : (kd == 0) = false) (e1 : (kd == 1) = false) (e2 : (kd == 2) = false) (e3 : (kd == 3) = false) (e9 : (kd == 9) = false) (h : ((0 : Int) ≤ kd) = False) (C E X : Int)
    (H1 : Hid (∀ w, Calls Try.prog 10 #[.agg #[.int .i64 k, .int .i64 fl, .int .i64 id, .string b]] w fun e w' => e = .returned (.tuple #[.int .i64 C, .int .i64 E]) ∧ Keeps nobody w w'))
    (H2 : Hid (∀ w, Calls Try.prog 11 #[.agg #[.int .i64 k, .int .i64 fl, .int .i64 id, .string b]] w fun e w' => e = .returned (.tuple #[.int .i64 C, .int .i64 E]) ∧ Keeps nobody w w'))
    (H3 : Hid (∀ w, Calls Try.prog 12 #[.int .i64 kd] w fun e w' => e = .returned (.bool false) ∧ w = w'))
    (H4 : Hid (∀ w, Calls Try.prog 13 #[.int .i64 kd] w fun e w' => e = .returned (.bool false) ∧ w = w'))
    (H5 : Hid (∀ w, Calls Try.prog 14 #[.int .i64 cd] w fun e w' => e = .returned (.int .i64 X) ∧ w = w'))
    (H6 : Hid (∀ w, Calls Try.prog 15 #[.int .i64 cd] w fun e w' => e = .returned (.int .i64 X) ∧ w = w')) :
    Calls Try.prog 3 #[.agg #[.int .i64 k, .int .i64 fl, .int .i64 id, .string b], .int .i64 kd, .int .i64 cd] W (Fine W) := by
  have hk := keeps_alloc W (frobj k fl id b)
  go_enter Try.func3, Try.ntmps3
  go_wp2_with fail
  refine Calls.mono (HA.out _) ?_
  rintro e w1 ⟨rfl, k1⟩
  obtain ⟨c0, c1, c2, c3⟩ := k1.four
  have hlt : W.heap.size < w1.heap.size := Nat.lt_of_lt_of_le (by simp) k1.size
  have K1 := hk.then k1
  clear hk k1 HA
  go_wp2_with fail
  refine Calls.mono (H1.out _) ?_
  rintro e w2 ⟨rfl, k2⟩
  have d0 := (k2.cell (p := ⟨W.heap.size, 0, none⟩) hlt (fun h => h)).trans c0
  have d1 := (k2.cell (p := ⟨W.heap.size, 1, none⟩) hlt (fun h => h)).trans c1
  have d2 := (k2.cell (p := ⟨W.heap.size, 2, none⟩) hlt (fun h => h)).trans c2
  have d3 := (k2.cell (p := ⟨W.heap.size, 3, none⟩) hlt (fun h => h)).trans c3
  have K2 := K1.then k2
  clear c0 c1 c2 c3 hlt k2 K1 H1
  go_wp2_with fail
  refine Calls.mono (H2.out _) ?_
  rintro e w3 ⟨rfl, k3⟩
  have K3 := K2.then k3
  clear d0 d1 d2 d3 k3 K2 H2
  go_wp2_with fail
  refine Calls.mono (H3.out _) ?_
  rintro e w4 ⟨rfl, rfl⟩
  go_wp2_with fail
  refine Calls.mono (H4.out _) ?_
  rintro e w4 ⟨rfl, rfl⟩
  go_wp2_with fail
  refine Calls.mono (H5.out _) ?_
  rintro e w4 ⟨rfl, rfl⟩
  go_wp2_with fail
  refine Calls.mono (H6.out _) ?_
  rintro e w4 ⟨rfl, rfl⟩
  clear H3 H4 H5 H6
  go_wp2
  go_ret
  exact ⟨by first | rfl | (simp; omega), below_of_keeps K3⟩

set_option maxRecDepth 100000 in
set_option maxHeartbeats 2000000 in
theorem rtells_y (k fl id : Int) (b : ByteArray) (kd : Int) (cd : Int) (W : World) (HA : Hid (∀ w, Calls Try.prog 9 #[] w fun e w' => e = .returned (.bool true) ∧ Keeps nobody w w')) (hb : b.size ≤ 1000) (e0 : (kd == 0) = false) (e1 : (kd == 1) = false) (e2 : (kd == 2) = false) (e3 : (kd == 3) = false) (e9 : (kd == 9) = false) (h0 : ((0 : Int) ≤ kd) = True) (h1 : (kd ≤ 9) = True) (C E X : Int)
    (H1 : Hid (∀ w, Calls Try.prog 10 #[.agg #[.int .i64 k, .int .i64 fl, .int .i64 id, .string b]] w fun e w' => e = .returned (.tuple #[.int .i64 C, .int .i64 E]) ∧ Keeps nobody w w'))
    (H2 : Hid (∀ w, Calls Try.prog 11 #[.agg #[.int .i64 k, .int .i64 fl, .int .i64 id, .string b]] w fun e w' => e = .returned (.tuple #[.int .i64 C, .int .i64 E]) ∧ Keeps nobody w w'))
    (H3 : Hid (∀ w, Calls Try.prog 12 #[.int .i64 kd] w fun e w' => e = .returned (.bool true) ∧ w = w'))
    (H4 : Hid (∀ w, Calls Try.prog 13 #[.int .i64 kd] w fun e w' => e = .returned (.bool false) ∧ w = w'))
    (H5 : Hid (∀ w, Calls Try.prog 14 #[.int .i64 cd] w fun e w' => e = .returned (.int .i64 X) ∧ w = w'))
    (H6 : Hid (∀ w, Calls Try.prog 15 #[.int .i64 cd] w fun e w' => e = .returned (.int .i64 X) ∧ w = w')) :
    Calls Try.prog 3 #[.agg #[.int .i64 k, .int .i64 fl, .int .i64 id, .string b], .int .i64 kd, .int .i64 cd] W (Fine W) := by
  have hk := keeps_alloc W (frobj k fl id b)
  go_enter Try.func3, Try.ntmps3
  go_wp2_with fail
  refine Calls.mono (HA.out _) ?_
  rintro e w1 ⟨rfl, k1⟩
  obtain ⟨c0, c1, c2, c3⟩ := k1.four
  have hlt : W.heap.size < w1.heap.size := Nat.lt_of_lt_of_le (by simp) k1.size
  have K1 := hk.then k1
  clear hk k1 HA
  go_wp2_with fail
  refine Calls.mono (H1.out _) ?_
  rintro e w2 ⟨rfl, k2⟩
  have d0 := (k2.cell (p := ⟨W.heap.size, 0, none⟩) hlt (fun h => h)).trans c0
  have d1 := (k2.cell (p := ⟨W.heap.size, 1, none⟩) hlt (fun h => h)).trans c1
  have d2 := (k2.cell (p := ⟨W.heap.size, 2, none⟩) hlt (fun h => h)).trans c2
  have d3 := (k2.cell (p := ⟨W.heap.size, 3, none⟩) hlt (fun h => h)).trans c3
  have K2 := K1.then k2
  clear c0 c1 c2 c3 hlt k2 K1 H1
  go_wp2_with fail
  refine Calls.mono (H2.out _) ?_
  rintro e w3 ⟨rfl, k3⟩
  have K3 := K2.then k3
  clear d0 d1 d2 d3 k3 K2 H2
  go_wp2_with fail
  refine Calls.mono (H3.out _) ?_
  rintro e w4 ⟨rfl, rfl⟩
  go_wp2_with fail
  refine Calls.mono (H4.out _) ?_
  rintro e w4 ⟨rfl, rfl⟩
  go_wp2_with fail
  refine Calls.mono (H5.out _) ?_
  rintro e w4 ⟨rfl, rfl⟩
  go_wp2_with fail
  refine Calls.mono (H6.out _) ?_
  rintro e w4 ⟨rfl, rfl⟩
  clear H3 H4 H5 H6
  go_wp2
  go_ret
  exact ⟨by first | rfl | (simp; omega), below_of_keeps K3⟩

set_option maxRecDepth 100000 in
set_option maxHeartbeats 2000000 in
theorem rtells_g (k fl id : Int) (b : ByteArray) (kd : Int) (cd : Int) (W : World) (HA : Hid (∀ w, Calls Try.prog 9 #[] w fun e w' => e = .returned (.bool true) ∧ Keeps nobody w w')) (hb : b.size ≤ 1000) (e0 : (kd == 0) = false) (e1 : (kd == 1) = false) (e2 : (kd == 2) = false) (e3 : (kd == 3) = false) (e9 : (kd == 9) = false) (h0 : ((0 : Int) ≤ kd) = True) (h1 : (kd ≤ 9) = False) (C E X : Int)
    (H1 : Hid (∀ w, Calls Try.prog 10 #[.agg #[.int .i64 k, .int .i64 fl, .int .i64 id, .string b]] w fun e w' => e = .returned (.tuple #[.int .i64 C, .int .i64 E]) ∧ Keeps nobody w w'))
    (H2 : Hid (∀ w, Calls Try.prog 11 #[.agg #[.int .i64 k, .int .i64 fl, .int .i64 id, .string b]] w fun e w' => e = .returned (.tuple #[.int .i64 C, .int .i64 E]) ∧ Keeps nobody w w'))
    (H3 : Hid (∀ w, Calls Try.prog 12 #[.int .i64 kd] w fun e w' => e = .returned (.bool false) ∧ w = w'))
    (H4 : Hid (∀ w, Calls Try.prog 13 #[.int .i64 kd] w fun e w' => e = .returned (.bool false) ∧ w = w'))
    (H5 : Hid (∀ w, Calls Try.prog 14 #[.int .i64 cd] w fun e w' => e = .returned (.int .i64 X) ∧ w = w'))
    (H6 : Hid (∀ w, Calls Try.prog 15 #[.int .i64 cd] w fun e w' => e = .returned (.int .i64 X) ∧ w = w')) :
    Calls Try.prog 3 #[.agg #[.int .i64 k, .int .i64 fl, .int .i64 id, .string b], .int .i64 kd, .int .i64 cd] W (Fine W) := by
  have hk := keeps_alloc W (frobj k fl id b)
  go_enter Try.func3, Try.ntmps3
  go_wp2_with fail
  refine Calls.mono (HA.out _) ?_
  rintro e w1 ⟨rfl, k1⟩
  obtain ⟨c0, c1, c2, c3⟩ := k1.four
  have hlt : W.heap.size < w1.heap.size := Nat.lt_of_lt_of_le (by simp) k1.size
  have K1 := hk.then k1
  clear hk k1 HA
  go_wp2_with fail
  refine Calls.mono (H1.out _) ?_
  rintro e w2 ⟨rfl, k2⟩
  have d0 := (k2.cell (p := ⟨W.heap.size, 0, none⟩) hlt (fun h => h)).trans c0
  have d1 := (k2.cell (p := ⟨W.heap.size, 1, none⟩) hlt (fun h => h)).trans c1
  have d2 := (k2.cell (p := ⟨W.heap.size, 2, none⟩) hlt (fun h => h)).trans c2
  have d3 := (k2.cell (p := ⟨W.heap.size, 3, none⟩) hlt (fun h => h)).trans c3
  have K2 := K1.then k2
  clear c0 c1 c2 c3 hlt k2 K1 H1
  go_wp2_with fail
  refine Calls.mono (H2.out _) ?_
  rintro e w3 ⟨rfl, k3⟩
  have K3 := K2.then k3
  clear d0 d1 d2 d3 k3 K2 H2
  go_wp2_with fail
  refine Calls.mono (H3.out _) ?_
  rintro e w4 ⟨rfl, rfl⟩
  go_wp2_with fail
  refine Calls.mono (H4.out _) ?_
  rintro e w4 ⟨rfl, rfl⟩
  go_wp2_with fail
  refine Calls.mono (H5.out _) ?_
  rintro e w4 ⟨rfl, rfl⟩
  go_wp2_with fail
  refine Calls.mono (H6.out _) ?_
  rintro e w4 ⟨rfl, rfl⟩
  clear H3 H4 H5 H6
  go_wp2
  go_ret
  exact ⟨by first | rfl | (simp; omega), below_of_keeps K3⟩

theorem rtells_true (f : Frm) (kd cd : Int) (W : World) (_ : f.body.size ≤ 140737488355328) : Calls Try.prog 3 #[frval f, .int .i64 kd, .int .i64 cd] W (Fine W) := by
  have HA : Hid (∀ w, Calls Try.prog 9 #[] w fun e w' => e = .returned (.bool true) ∧ Keeps nobody w w') := fun w => alive_ok w
  by_cases hs : f.body.size ≤ 1000
  · have H1 := fun w => check_ok f w (by omega)
    have H2 := fun w => rcheck_ok f w (by omega)
    have H3 := fun w => known_ok kd w
    have H4 := fun w => streamed_ok kd w
    have H5 := fun w => error_ok cd w
    have H6 := fun w => rerror_ok cd w
    obtain ⟨k, fl, id, b⟩ := f
    by_cases h : kd = 0 ∨ kd = 1 ∨ kd = 2 ∨ kd = 3 ∨ kd = 9
    · have e3 : known kd = true := by unfold known; simp; omega
      have e4 : streamed kd = true := by unfold streamed; simp; omega
      rw [e3] at H3
      rw [e4] at H4
      rcases h with rfl | rfl | rfl | rfl | rfl
      · exact rtells_0 k fl id b cd W HA hs _ _ _ H1 H2 H3 H4 H5 H6
      · exact rtells_1 k fl id b cd W HA hs _ _ _ H1 H2 H3 H4 H5 H6
      · exact rtells_2 k fl id b cd W HA hs _ _ _ H1 H2 H3 H4 H5 H6
      · exact rtells_3 k fl id b cd W HA hs _ _ _ H1 H2 H3 H4 H5 H6
      · exact rtells_9 k fl id b cd W HA hs _ _ _ H1 H2 H3 H4 H5 H6
    · have e4 : streamed kd = false := by unfold streamed; simp; omega
      rw [e4] at H4
      have g0 : (kd == 0) = false := by simp; omega
      have g1 : (kd == 1) = false := by simp; omega
      have g2 : (kd == 2) = false := by simp; omega
      have g3 : (kd == 3) = false := by simp; omega
      have g9 : (kd == 9) = false := by simp; omega
      by_cases h0 : 0 ≤ kd
      · by_cases h1 : kd ≤ 9
        · have e3 : known kd = true := by unfold known; simp; omega
          rw [e3] at H3
          exact rtells_y k fl id b kd cd W HA hs g0 g1 g2 g3 g9 (by simpa using h0) (by simpa using h1) _ _ _ H1 H2 H3 H4 H5 H6
        · have e3 : known kd = false := by unfold known; simp; omega
          rw [e3] at H3
          exact rtells_g k fl id b kd cd W HA hs g0 g1 g2 g3 g9 (by simpa using h0) (by simpa using h1) _ _ _ H1 H2 H3 H4 H5 H6
      · have e3 : known kd = false := by unfold known; simp; omega
        rw [e3] at H3
        exact rtells_n k fl id b kd cd W HA hs g0 g1 g2 g3 g9 (by simpa using h0) _ _ _ H1 H2 H3 H4 H5 H6
  · obtain ⟨k, fl, id, b⟩ := f
    exact rtells_off k fl id b kd cd W HA (by simp only at hs; omega)
end Go.Proofs.Ytcbgjdfcndgaaaa
