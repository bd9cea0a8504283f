/-
  The law VarintBehind as a walk.
-/
import Derived.Test.YtgmhbkmmcboadaaStrs
namespace Go.Proofs.Ytgmhbkmmcboadaa
open Go.RowKit

theorem behind_short (x n : Int) (s : ByteArray) (w : World) (hs : s.size ≤ maxLen) (h : ¬ putIs 0 x n ∨ putIs 0 x n ∧ 60 < s.size) : Calls Try.prog 8 #[.int .i64 x, .int .i64 n, .string s] w (Fine w) := by
  unfold maxLen at hs
  have hA : Hid (∀ w, Calls Try.prog 9 #[] w fun e w' => e = .returned (.bool true) ∧ Below w.heap.size w w') := alive_true
  rcases h with h | ⟨h, h'⟩
  · go_enter Try.func8, Try.ntmps8
    go_wp2_with fail
    refine (put_no 0 x n w (by decide) (by decide) h).mono ?_
    rintro e w1 ⟨rfl, hB⟩
    go_wp2_with fail
    refine (hA.out _).mono ?_
    rintro e w3 ⟨rfl, hB3⟩
    go_wp2_with fail
    go_ret
    exact ⟨rfl, hB.trans (hB3.mono hB.size)⟩
  · go_enter Try.func8, Try.ntmps8
    go_wp2_with fail
    refine (put_yes 0 x n w (by decide) (by decide) h).mono ?_
    rintro e w1 ⟨rfl, hB⟩
    go_wp2_with fail
    refine (hA.out _).mono ?_
    rintro e w3 ⟨rfl, hB3⟩
    go_wp2_with fail
    go_ret
    exact ⟨rfl, hB.trans (hB3.mono hB.size)⟩

/-- Get behind what Put wrote, with whatever behind it. -/
theorem get_put (f x n : Int) (s : ByteArray) (hf0 : 0 ≤ f) (hf : f < 256) (h : putIs f x n) : getAll (str (putN f.toNat (full x) n.toNat) ++ s) x = (n, ((putN f.toNat (full x) n.toNat).length : Int), 0) := by
  obtain ⟨h1, h2, h3, h4, h5⟩ := id h
  rw [getAll, if_pos ⟨h1, h2⟩, nums_append, nums_str _ (putN_bytes f x n hf0 hf h), getN_putN x f.toNat n.toNat _ h1 h2 h5 (by omega), Int.toNat_of_nonneg h3]

theorem behind_long (x n : Int) (s : ByteArray) (w : World) (h : putIs 0 x n) (hs : s.size ≤ 60) : Calls Try.prog 8 #[.int .i64 x, .int .i64 n, .string s] w (Fine w) := by
  have hA : Hid (∀ w, Calls Try.prog 9 #[] w fun e w' => e = .returned (.bool true) ∧ Below w.heap.size w w') := alive_true
  have hl := length_putN 0 (full x) n.toNat (by have := h.2.2.2.1; omega)
  have hsz := str_size (putN 0 (full x) n.toNat)
  have hP : Hid (∀ w, Calls Try.prog 10 #[.int .u8 0, .int .i64 x, .int .i64 n] w fun e w' => e = .returned (.tuple #[.string (str (putN 0 (full x) n.toNat)), .bool true]) ∧ Below w.heap.size w w') := fun w => put_yes 0 x n w (by decide) (by decide) h
  have hG : Hid (∀ w, Calls Try.prog 12 #[.string (str (putN 0 (full x) n.toNat) ++ s), .int .i64 x] w fun e w' => e = .returned (got (n, ((str (putN 0 (full x) n.toNat)).size : Int), 0)) ∧ w = w') := by
    intro w
    have := get_ok (str (putN 0 (full x) n.toNat) ++ s) x w (by rw [size_str_append]; unfold maxLen; omega)
    have hgp : getAll (str (putN 0 (full x) n.toNat) ++ s) x = (n, ((putN 0 (full x) n.toNat).length : Int), 0) := get_put 0 x n s (by decide) (by decide) h
    rw [hgp] at this
    rw [hsz]
    exact this
  generalize str (putN 0 (full x) n.toNat) = B at *
  have hBl : B.size ≤ 6 := by omega
  clear hsz hl h
  unfold got at hG
  go_enter Try.func8, Try.ntmps8
  go_wp2_with fail
  refine (hP.out _).mono ?_
  rintro e w1 ⟨rfl, hB⟩
  go_wp2_with fail
  refine (hA.out _).mono ?_
  rintro e w3 ⟨rfl, hB3⟩
  go_wp2_with fail
  refine (hG.out _).mono ?_
  rintro e w4 ⟨rfl, rfl⟩
  go_wp2_with fail
  go_ret
  exact ⟨rfl, hB.trans (hB3.mono hB.size)⟩

theorem varintBehind_true (x n : Int) (s : ByteArray) (w : World) (hs : s.size ≤ maxLen) : Calls Try.prog 8 #[.int .i64 x, .int .i64 n, .string s] w (Fine w) := by
  by_cases h : putIs 0 x n
  · by_cases h' : 60 < s.size
    · exact behind_short x n s w hs (.inr ⟨h, h'⟩)
    · exact behind_long x n s w h (by omega)
  · exact behind_short x n s w hs (.inl h)
end Go.Proofs.Ytgmhbkmmcboadaa
