/-
  The laws' first call: alive.
-/
import Derived.Test.YtbhjkgipidkfgaaWCode
import Derived.Test.YtbhjkgipidkfgaaGDoor
namespace Go.Proofs.Ytbhjkgipidkfgaa
open Go.RowKit

theorem new_as (n : Int) {x : Wd} {b : Bool} (e : newW n = (x, b)) (w : World) : Calls Try.prog 10 #[.int .i64 n] w fun e w' => e = .returned (.tuple #[.agg #[.int .i64 x.left, .int .i64 x.size, .int .i64 x.owed], .bool b]) ∧ Keeps nobody w w' := by
  have := wnew_ok n w
  rw [e] at this
  exact this
theorem take_as (s : Wd) (n : Int) {x : Wd} {b : Bool} (e : takeW s n = (x, b)) (h : s.left ≤ 9223372036854775807) (w : World) : Calls Try.prog 12 #[.agg #[.int .i64 s.left, .int .i64 s.size, .int .i64 s.owed], .int .i64 n] w fun e w' => e = .returned (.tuple #[.agg #[.int .i64 x.left, .int .i64 x.size, .int .i64 x.owed], .bool b]) ∧ Keeps nobody w w' := by
  have := wtake_ok s n w h
  rw [e] at this
  exact this
theorem spend_as (s : Wd) (n : Int) {x : Wd} {b : Bool} (e : takeW s n = (x, b)) (h : s.left ≤ 9223372036854775807) (w : World) : Calls Try.prog 18 #[.agg #[.int .i64 s.left, .int .i64 s.size, .int .i64 s.owed], .int .i64 n] w fun e w' => e = .returned (.tuple #[.agg #[.int .i64 x.left, .int .i64 x.size, .int .i64 x.owed], .bool b]) ∧ Keeps nobody w w' := by
  have := wspend_ok s n w h
  rw [e] at this
  exact this
theorem grow_as (s : Wd) (n : Int) {x : Wd} {b : Bool} (e : growW s n = (x, b)) (h : -(9223372036854775808 : Int) ≤ s.left) (w : World) : Calls Try.prog 14 #[.agg #[.int .i64 s.left, .int .i64 s.size, .int .i64 s.owed], .int .i64 n] w fun e w' => e = .returned (.tuple #[.agg #[.int .i64 x.left, .int .i64 x.size, .int .i64 x.owed], .bool b]) ∧ Keeps nobody w w' := by
  have := wgrow_ok s n w h
  rw [e] at this
  exact this
theorem shift_as (s : Wd) (n : Int) {x : Wd} {b : Bool} (e : shiftW s n = (x, b)) (hs : Small s) (hn : -(1152921504606846976 : Int) ≤ n ∧ n ≤ 1152921504606846976) (w : World) : Calls Try.prog 16 #[.agg #[.int .i64 s.left, .int .i64 s.size, .int .i64 s.owed], .int .i64 n] w fun e w' => e = .returned (.tuple #[.agg #[.int .i64 x.left, .int .i64 x.size, .int .i64 x.owed], .bool b]) ∧ Keeps nobody w w' := by
  have := wshift_ok s n w hs hn
  rw [e] at this
  exact this
theorem credit_as (s : Wd) (n : Int) {x : Wd} {b : Int} (e : creditW s n = (x, b)) (hs : Small s) (hn : n ≤ 1152921504606846976) (w : World) : Calls Try.prog 19 #[.agg #[.int .i64 s.left, .int .i64 s.size, .int .i64 s.owed], .int .i64 n] w fun e w' => e = .returned (.tuple #[.agg #[.int .i64 x.left, .int .i64 x.size, .int .i64 x.owed], .int .i64 b]) ∧ Keeps nobody w w' := by
  have := wcredit_ok s n w hs hn
  rw [e] at this
  exact this
set_option maxRecDepth 100000 in
set_option maxHeartbeats 1000000 in
theorem alive_ok (w : World) : Calls Try.prog 9 #[] w fun e w' => e = .returned (.bool true) ∧ Keeps nobody w w' := by
  have HN : Hid (∀ w, Calls Try.prog 10 #[.int .i64 100] w fun e w' => e = .returned (.tuple #[.agg #[.int .i64 100, .int .i64 100, .int .i64 0], .bool true]) ∧ Keeps nobody w w') := fun w => wnew_ok 100 w
  have HS : Hid (∀ w, Calls Try.prog 18 #[.agg #[.int .i64 100, .int .i64 100, .int .i64 0], .int .i64 60] w fun e w' => e = .returned (.tuple #[.agg #[.int .i64 40, .int .i64 100, .int .i64 0], .bool true]) ∧ Keeps nobody w w') := fun w => wspend_ok ⟨100, 100, 0⟩ 60 w (by decide)
  have HC : Hid (∀ w, Calls Try.prog 19 #[.agg #[.int .i64 40, .int .i64 100, .int .i64 0], .int .i64 40] w fun e w' => e = .returned (.tuple #[.agg #[.int .i64 40, .int .i64 100, .int .i64 40], .int .i64 0]) ∧ Keeps nobody w w') := fun w => wcredit_ok ⟨40, 100, 0⟩ 40 w ⟨by decide, by decide, by decide, by decide, by decide, by decide⟩ (by decide)
  have HD : Hid (∀ w, Calls Try.prog 19 #[.agg #[.int .i64 40, .int .i64 100, .int .i64 40], .int .i64 20] w fun e w' => e = .returned (.tuple #[.agg #[.int .i64 100, .int .i64 100, .int .i64 0], .int .i64 60]) ∧ Keeps nobody w w') := fun w => wcredit_ok ⟨40, 100, 40⟩ 20 w ⟨by decide, by decide, by decide, by decide, by decide, by decide⟩ (by decide)
  go_enter Try.func9, Try.ntmps9
  go_wp2_with fail
  refine Calls.mono (HN.out _) ?_
  rintro e w1 ⟨rfl, k1⟩
  have hz := wb_new 25 w w1 k1 ⟨100, 100, 0⟩
  have HZ := hid hz
  clear hz k1
  go_wp2_with fail
  refine Calls.mono (HS.out _) ?_
  rintro e w2 ⟨rfl, k2⟩
  have h2 := HZ.out.quiet k2
  obtain ⟨b0, b1, b2, bf, hlt⟩ := h2.cells
  have H2 := hid (fun r => h2.put r)
  clear h2 k2
  go_wp2_with fail
  refine Calls.mono (HC.out _) ?_
  rintro e w3 ⟨rfl, k3⟩
  have h3 := (H2.out ⟨40, 100, 0⟩).quiet k3
  clear b0 b1 b2 bf hlt H2
  obtain ⟨b0, b1, b2, bf, hlt⟩ := h3.cells
  have H3 := hid (fun r => h3.put r)
  clear h3 k3
  go_wp2_with fail
  refine Calls.mono (HD.out _) ?_
  rintro e w4 ⟨rfl, k4⟩
  have h4 := (H3.out ⟨40, 100, 40⟩).quiet k4
  clear b0 b1 b2 bf hlt H3
  obtain ⟨b0, b1, b2, bf, hlt⟩ := h4.cells
  have H4 := hid (fun r => h4.put r)
  clear h4 k4
  go_wp2
  go_ret
  exact ⟨rfl, (H4.out ⟨100, 100, 0⟩).keeps⟩
end Go.Proofs.Ytbhjkgipidkfgaa
