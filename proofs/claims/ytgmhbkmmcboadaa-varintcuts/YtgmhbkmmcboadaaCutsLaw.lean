/-
  The law VarintCuts as a walk.
-/
import Derived.Test.YtgmhbkmmcboadaaStrs
namespace Go.Proofs.Ytgmhbkmmcboadaa
open Go.RowKit

theorem cuts_no (x n k : Int) (w : World) (h : ¬ putIs 0 x n) : Calls Try.prog 4 #[.int .i64 x, .int .i64 n, .int .i64 k] w (Fine w) := by
  have hA : Hid (∀ w, Calls Try.prog 9 #[] w fun e w' => e = .returned (.bool true) ∧ Below w.heap.size w w') := alive_true
  go_enter Try.func4, Try.ntmps4
  go_wp2_with fail
  refine (put_no 0 x n w (by decide) (by decide) h).mono ?_
  rintro e w1 ⟨rfl, hB⟩
  go_wp2_with fail
  refine (hA.out _).mono ?_
  rintro e w3 ⟨rfl, hB3⟩
  go_wp2_with fail
  go_ret
  exact ⟨rfl, hB.trans (hB3.mono hB.size)⟩

theorem get_cut (x n : Int) (j : Nat) (h : putIs 0 x n) (hj : j < (putN 0 (full x) n.toNat).length) : getAll ((str (putN 0 (full x) n.toNat)).extract 0 j) x = (0, 0, 2) := by
  obtain ⟨h1, h2, h3, h4, h5⟩ := id h
  have hb : ∀ y ∈ putN 0 (full x) n.toNat, y < 256 := putN_bytes 0 x n (by decide) (by decide) h
  rw [getAll, if_pos ⟨h1, h2⟩, nums_take, nums_str _ hb]
  exact getN_cut x 0 n.toNat j h1 h2 (by simp) (by omega) hj

theorem cuts_yes (x n k : Int) (w : World) (h : putIs 0 x n) : Calls Try.prog 4 #[.int .i64 x, .int .i64 n, .int .i64 k] w (Fine w) := by
  have hA : Hid (∀ w, Calls Try.prog 9 #[] w fun e w' => e = .returned (.bool true) ∧ Below w.heap.size w w') := alive_true
  have hl := length_putN 0 (full x) n.toNat (by have := h.2.2.2.1; omega)
  have hsz := str_size (putN 0 (full x) n.toNat)
  have hP : Hid (∀ w, Calls Try.prog 10 #[.int .u8 0, .int .i64 x, .int .i64 n] w fun e w' => e = .returned (.tuple #[.string (str (putN 0 (full x) n.toNat)), .bool true]) ∧ Below w.heap.size w w') := fun w => put_yes 0 x n w (by decide) (by decide) h
  have hG : Hid (∀ j, j < (str (putN 0 (full x) n.toNat)).size → ∀ w, Calls Try.prog 12 #[.string ((str (putN 0 (full x) n.toNat)).extract 0 j), .int .i64 x] w fun e w' => e = .returned (.tuple #[.int .i64 0, .int .i64 0, .int .i64 2]) ∧ w = w') := by
    intro j hj w
    have := get_ok ((str (putN 0 (full x) n.toNat)).extract 0 j) x w (by simp; unfold maxLen; omega)
    rw [get_cut x n j h (by omega)] at this
    exact this
  generalize str (putN 0 (full x) n.toNat) = B at *
  have hB1 : 1 ≤ B.size := by omega
  have hB6 : B.size ≤ 6 := by omega
  have hL0 : ((B.size : Int) == 0) = false := beq_eq_false_iff_ne.2 (by omega)
  clear hsz hl h
  have ht1 := Int.lt_tmod_of_pos k (show (0 : Int) < B.size by omega)
  have ht2 := Int.tmod_lt_of_pos k (show (0 : Int) < B.size by omega)
  generalize hkt : k.tmod (B.size : Int) = t at *
  obtain ⟨j, hj⟩ : ∃ j : Nat, (t + (B.size : Int)) % (B.size : Int) = (j : Int) := Int.eq_ofNat_of_zero_le (Int.emod_nonneg _ (by omega))
  have hjl : j < B.size := by have := Int.emod_lt_of_pos (t + (B.size : Int)) (show (0 : Int) < B.size by omega); omega
  go_enter Try.func4, Try.ntmps4
  go_wp2_with fail
  refine (hP.out _).mono ?_
  rintro e w1 ⟨rfl, hB⟩
  go_wp2_with fail
  refine (hA.out _).mono ?_
  rintro e w3 ⟨rfl, hB3⟩
  go_wp2_with fail
  refine (hG.out j hjl _).mono ?_
  rintro e w4 ⟨rfl, rfl⟩
  go_wp2_with fail
  go_ret
  exact ⟨rfl, hB.trans (hB3.mono hB.size)⟩

theorem varintCuts_true (x n k : Int) (w : World) : Calls Try.prog 4 #[.int .i64 x, .int .i64 n, .int .i64 k] w (Fine w) := by
  by_cases h : putIs 0 x n
  · exact cuts_yes x n k w h
  · exact cuts_no x n k w h
end Go.Proofs.Ytgmhbkmmcboadaa
