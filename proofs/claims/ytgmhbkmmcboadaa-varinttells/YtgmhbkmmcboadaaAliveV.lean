/-
  The statements' first call: alive.
-/
import Derived.Test.YtgmhbkmmcboadaaPut
namespace Go.Proofs.Ytgmhbkmmcboadaa
open Go.RowKit

theorem put_1337 : putAll 0 5 1337 = ⟨#[31, 154, 10]⟩ ∧ putIs 0 5 1337 := by
  have hf : full 5 = 31 := by decide
  have hp : putIs 0 5 1337 := by simp [putIs, hf]
  have ht : tail7 1306 = [154, 10] := by rw [tail7_high 1306 (by decide), tail7_low (1306 / 128) (by decide)]
  refine ⟨?_, hp⟩
  rw [putAll, if_pos hp]
  simp [hf, putN, ht, str, strOfNums]
theorem get_1337 : getAll ⟨#[31, 154, 10]⟩ 5 = (1337, 3, 0) := by decide +kernel
theorem get_31 : getAll ⟨#[31]⟩ 5 = (0, 0, 2) := by decide +kernel

theorem alive_true (w : World) : Calls Try.prog 9 #[] w fun e w' => e = .returned (.bool true) ∧ Below w.heap.size w w' := by
  have h1 : Hid (∀ w, Calls Try.prog 10 #[.int .u8 0, .int .i64 5, .int .i64 1337] w fun e w' => e = .returned (.tuple #[.string ⟨#[31, 154, 10]⟩, .bool true]) ∧ Below w.heap.size w w') := by
    intro w
    have := put_ok 0 5 1337 w (by decide) (by decide)
    rw [put_1337.1, decide_eq_true put_1337.2] at this
    exact this
  have h2 : Hid (∀ w, Calls Try.prog 12 #[.string ⟨#[31, 154, 10]⟩, .int .i64 5] w fun e w' => e = .returned (.tuple #[.int .i64 1337, .int .i64 3, .int .i64 0]) ∧ w = w') := by
    intro w
    have := get_ok ⟨#[31, 154, 10]⟩ 5 w (by unfold maxLen; decide)
    rw [get_1337] at this
    exact this
  have h3 : Hid (∀ w, Calls Try.prog 12 #[.string ⟨#[31]⟩, .int .i64 5] w fun e w' => e = .returned (.tuple #[.int .i64 0, .int .i64 0, .int .i64 2]) ∧ w = w') := by
    intro w
    have := get_ok ⟨#[31]⟩ 5 w (by unfold maxLen; decide)
    rw [get_31] at this
    exact this
  go_enter Try.func9, Try.ntmps9
  go_wp2_with fail
  refine Calls.mono (h1.out _) ?_
  rintro e w1 ⟨rfl, hB⟩
  go_wp2_with fail
  refine Calls.mono (h2.out _) ?_
  rintro e w2 ⟨rfl, rfl⟩
  go_wp2_with fail
  refine Calls.mono (h3.out _) ?_
  rintro e w2 ⟨rfl, rfl⟩
  go_wp2
  go_ret
  exact ⟨rfl, hB⟩

theorem put_yes (f x n : Int) (w : World) (hf0 : 0 ≤ f) (hf : f < 256) (h : putIs f x n) :
    Calls Try.prog 10 #[.int .u8 f, .int .i64 x, .int .i64 n] w fun e w' => e = .returned (.tuple #[.string (str (putN f.toNat (full x) n.toNat)), .bool true]) ∧ Below w.heap.size w w' := by
  have := put_ok f x n w hf0 hf
  rw [putAll, if_pos h, decide_eq_true h] at this
  exact this
theorem put_no (f x n : Int) (w : World) (hf0 : 0 ≤ f) (hf : f < 256) (h : ¬ putIs f x n) :
    Calls Try.prog 10 #[.int .u8 f, .int .i64 x, .int .i64 n] w fun e w' => e = .returned (.tuple #[.string ⟨#[]⟩, .bool false]) ∧ Below w.heap.size w w' := by
  have := put_ok f x n w hf0 hf
  rw [putAll, if_neg h, decide_eq_false h] at this
  exact this
theorem str_size (l : List Nat) : (str l).size = l.length := by rw [str, strOfNums_size]; simp

/-- The walk's end: true, and no old memory is turned. -/
abbrev Fine (w : World) (e : Ending) (w' : World) : Prop := e = .returned (.bool true) ∧ Below w.heap.size w w'
end Go.Proofs.Ytgmhbkmmcboadaa
