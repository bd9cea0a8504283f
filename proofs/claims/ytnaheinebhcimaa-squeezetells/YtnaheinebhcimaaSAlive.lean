/-
  The statements' first call: alive. Texts there and back, as calls.
-/
import Derived.Test.YtnaheinebhcimaaSGet
namespace Go.Proofs.Ytnaheinebhcimaa
open Go.RowKit

theorem nums_put (l : List Nat) : nums (str (putL l)) = putL l := nums_str _ (putL_byte l)
theorem put_size (s : ByteArray) : (str (putL (nums s))).size = (bitsN (nums s) + 7) / 8 := by rw [str_size, putL_len]
theorem bitsN_size (s : ByteArray) : 5 * s.size ≤ bitsN (nums s) ∧ bitsN (nums s) ≤ 10 * s.size := by
  have := bitsN_bounds (nums s)
  rw [nums_length] at this
  exact this
theorem get_put (s : ByteArray) (w : World) (hs : s.size ≤ 100000) : Calls Try.prog 11 #[.string (str (putL (nums s)))] w fun e w' => e = .returned (.tuple #[.string s, .int .i64 0]) ∧ Below w.heap.size w w' := by
  have hb := bitsN_size s
  have := get_ok (str (putL (nums s))) w (by rw [put_size]; omega)
  rw [nums_put, getL_putL _ (nums_byte s)] at this
  simp only [got, str_nums] at this
  exact this

theorem facts : (bitsN (nums ⟨#[50, 48, 50, 54]⟩) + 7) / 8 = 3 ∧ nb 48 = 5 ∧ nb 126 = 10 := by decide +kernel

theorem alive_true (w : World) : Calls Try.prog 9 #[] w fun e w' => e = .returned (.bool true) ∧ Below w.heap.size w w' := by
  have h1 : Hid (∀ w, Calls Try.prog 10 #[.string ⟨#[97, 32, 98]⟩] w fun e w' => e = .returned (.string (str (putL (nums ⟨#[97, 32, 98]⟩)))) ∧ Below w.heap.size w w') := fun w => put_ok _ w (by decide)
  have h2 : Hid (∀ w, Calls Try.prog 11 #[.string (str (putL (nums ⟨#[97, 32, 98]⟩)))] w fun e w' => e = .returned (.tuple #[.string ⟨#[97, 32, 98]⟩, .int .i64 0]) ∧ Below w.heap.size w w') := fun w => get_put _ w (by decide)
  have h3 : Hid (∀ w, Calls Try.prog 14 #[.string ⟨#[50, 48, 50, 54]⟩] w fun e w' => e = .returned (.int .i64 3) ∧ w = w') := by
    intro w
    have := len_ok ⟨#[50, 48, 50, 54]⟩ w (by decide)
    rw [facts.1] at this
    exact this
  have h4 : Hid (∀ w, Calls Try.prog 10 #[.string ⟨#[50, 48, 50, 54]⟩] w fun e w' => e = .returned (.string (str (putL (nums ⟨#[50, 48, 50, 54]⟩)))) ∧ Below w.heap.size w w') := fun w => put_ok _ w (by decide)
  have hy : (str (putL (nums ⟨#[50, 48, 50, 54]⟩))).size = 3 := by rw [put_size]; exact facts.1
  have h5 : Hid (∀ w, Calls Try.prog 15 #[.int .u8 48] w fun e w' => e = .returned (.int .i64 5) ∧ w = w') := by
    intro w
    have := bits_ok 48 w (by decide)
    rw [facts.2.1] at this
    exact this
  have h6 : Hid (∀ w, Calls Try.prog 15 #[.int .u8 126] w fun e w' => e = .returned (.int .i64 10) ∧ w = w') := by
    intro w
    have := bits_ok 126 w (by decide)
    rw [facts.2.2] at this
    exact this
  generalize str (putL (nums ⟨#[97, 32, 98]⟩)) = X at *
  generalize str (putL (nums ⟨#[50, 48, 50, 54]⟩)) = Y at *
  go_enter Try.func9, Try.ntmps9
  go_wp2_with fail
  refine Calls.mono (h1.out _) ?_
  rintro e w1 ⟨rfl, hB1⟩
  go_wp2_with fail
  refine Calls.mono (h2.out _) ?_
  rintro e w2 ⟨rfl, hB2⟩
  go_wp2_with fail
  refine Calls.mono (h3.out _) ?_
  rintro e w3 ⟨rfl, rfl⟩
  go_wp2_with fail
  refine Calls.mono (h4.out _) ?_
  rintro e w3 ⟨rfl, hB3⟩
  go_wp2_with fail
  refine Calls.mono (h5.out _) ?_
  rintro e w4 ⟨rfl, rfl⟩
  go_wp2_with fail
  refine Calls.mono (h6.out _) ?_
  rintro e w4 ⟨rfl, rfl⟩
  go_wp2
  go_ret
  exact ⟨rfl, (hB1.trans (hB2.mono hB1.size)).trans (hB3.mono (Nat.le_trans hB1.size hB2.size))⟩
end Go.Proofs.Ytnaheinebhcimaa
