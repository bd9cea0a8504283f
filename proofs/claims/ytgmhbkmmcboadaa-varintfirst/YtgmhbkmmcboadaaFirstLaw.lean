/-
  The law VarintFirst as a walk.
-/
import Derived.Test.YtgmhbkmmcboadaaBehindLaw
namespace Go.Proofs.Ytgmhbkmmcboadaa
open Go.RowKit

theorem first_no (f x n : Int) (w : World) (hf0 : 0 ≤ f) (hf : f < 256) (h : ¬ putIs f x n) : Calls Try.prog 6 #[.int .u8 f, .int .i64 x, .int .i64 n] w (Fine w) := by
  have hA : Hid (∀ w, Calls Try.prog 9 #[] w fun e w' => e = .returned (.bool true) ∧ Below w.heap.size w w') := alive_true
  go_enter Try.func6, Try.ntmps6
  go_wp2_with fail
  refine (put_no f x n w hf0 hf h).mono ?_
  rintro e w1 ⟨rfl, hB⟩
  go_wp2_with fail
  refine (put_ok 0 x n w1 (by decide) (by decide)).mono ?_
  rintro e w2 ⟨rfl, hB2⟩
  go_wp2_with fail
  refine (hA.out _).mono ?_
  rintro e w3 ⟨rfl, hB3⟩
  go_wp2_with fail
  go_ret
  exact ⟨rfl, (hB.trans (hB2.mono hB.size)).trans (hB3.mono (Nat.le_trans hB.size hB2.size))⟩

theorem putN_heads (f : Nat) (x : Int) (n : Nat) : ∃ h tl, h ≤ full x ∧ putN f (full x) n = (f + h) :: tl ∧ putN 0 (full x) n = h :: tl := by
  by_cases hlt : n < full x
  · exact ⟨n, [], by omega, by rw [putN, if_pos hlt], by rw [putN, if_pos hlt, Nat.zero_add]⟩
  · exact ⟨full x, tail7 (n - full x), Nat.le_refl _, by rw [putN, if_neg hlt], by rw [putN, if_neg hlt, Nat.zero_add]⟩
theorem str_cons_first (y : Nat) (l : List Nat) (hy : y < 256) (hp : 0 < (str (y :: l)).size) : ((str (y :: l))[0]'hp).toNat = y := by
  have : (str (y :: l))[0]'hp = UInt8.ofNat y := by
    show (str (y :: l)).data[0]'hp = _
    simp [str_data]
  rw [this]
  simp [Nat.mod_eq_of_lt hy]
theorem str_cons_rest (y : Nat) (l : List Nat) : (str (y :: l)).extract 1 (str (y :: l)).size = str l := by
  apply ByteArray.ext
  rw [str_size]
  simp [str_data, List.take_of_length_le]

set_option maxRecDepth 100000 in
theorem first_yes (f x n : Int) (w : World) (hf0 : 0 ≤ f) (hf : f < 256) (h : putIs f x n) : Calls Try.prog 6 #[.int .u8 f, .int .i64 x, .int .i64 n] w (Fine w) := by
  have hA : Hid (∀ w, Calls Try.prog 9 #[] w fun e w' => e = .returned (.bool true) ∧ Below w.heap.size w w') := alive_true
  obtain ⟨h1, h2, h3, h4, h5⟩ := id h
  have h0 : putIs 0 x n := ⟨h1, h2, h3, h4, by simp⟩
  obtain ⟨y, tl, hy, e1, e2⟩ := putN_heads f.toNat x n.toNat
  have hfy : f.toNat + y < 256 := sum_byte x f.toNat y h1 h2 (by omega) h5 hy
  have hor : bits .or .u8 (y : Int) f = ((f.toNat + y : Nat) : Int) := by
    have := or_byte x f.toNat y h1 h2 (by omega) h5 hy
    rw [Int.toNat_of_nonneg hf0] at this
    rw [← this, u8_or y f (by omega) (by omega) hf0 hf, u8_or f y hf0 hf (by omega) (by omega), Nat.or_comm]
  have hP1 : Hid (∀ w, Calls Try.prog 10 #[.int .u8 f, .int .i64 x, .int .i64 n] w fun e w' => e = .returned (.tuple #[.string (str ((f.toNat + y) :: tl)), .bool true]) ∧ Below w.heap.size w w') := by
    intro w
    have := put_yes f x n w hf0 hf h
    rw [e1] at this
    exact this
  have hP2 : Hid (∀ w, Calls Try.prog 10 #[.int .u8 0, .int .i64 x, .int .i64 n] w fun e w' => e = .returned (.tuple #[.string (str (y :: tl)), .bool true]) ∧ Below w.heap.size w w') := by
    intro w
    have := put_yes 0 x n w (by decide) (by decide) h0
    rw [show Int.toNat 0 = 0 from rfl, e2] at this
    exact this
  have hl := length_putN 0 (full x) n.toNat (by omega)
  rw [e2, List.length_cons] at hl
  have hsA : (str ((f.toNat + y) :: tl)).size = tl.length + 1 := by rw [str_size, List.length_cons]
  have hsB : (str (y :: tl)).size = tl.length + 1 := by rw [str_size, List.length_cons]
  have hG : Hid (∀ w, Calls Try.prog 12 #[.string (str ((f.toNat + y) :: tl)), .int .i64 x] w fun e w' => e = .returned (.tuple #[.int .i64 n, .int .i64 ((tl.length : Int) + 1), .int .i64 0]) ∧ w = w') := by
    intro w
    have := get_ok (str ((f.toNat + y) :: tl)) x w (by rw [hsA]; unfold maxLen; omega)
    have hg : getAll (str ((f.toNat + y) :: tl)) x = (n, ((tl.length + 1 : Nat) : Int), 0) := by
      have := getN_putN x f.toNat n.toNat [] h1 h2 h5 (by omega)
      rw [List.append_nil, Int.toNat_of_nonneg h3] at this
      rw [getAll, if_pos ⟨h1, h2⟩, ← e1, nums_str _ (putN_bytes f x n hf0 hf h), this, e1, List.length_cons]
    rw [hg] at this
    exact this
  have hiA : ∀ w, (Instr.index 9 (.string (str ((f.toNat + y) :: tl))) (.int .i64 0)).run Try.prog w = .ok (.int .u8 ((f.toNat + y : Nat) : Int)) w := by
    intro w
    have := index_at (str ((f.toNat + y) :: tl)) 0 (by omega) w
    rw [str_cons_first _ _ hfy] at this
    exact this
  have hiB : ∀ w, (Instr.index 9 (.string (str (y :: tl))) (.int .i64 0)).run Try.prog w = .ok (.int .u8 (y : Int)) w := by
    intro w
    have := index_at (str (y :: tl)) 0 (by omega) w
    rw [str_cons_first _ _ (by omega)] at this
    exact this
  have hxA := str_cons_rest (f.toNat + y) tl
  have hxB := str_cons_rest y tl
  rw [hsA] at hxA
  rw [hsB] at hxB
  have heA := isEmpty_of_size (str ((f.toNat + y) :: tl)) (by omega)
  clear e1 e2 h5 h0 h
  generalize f.toNat + y = ya at *
  generalize str (ya :: tl) = A at *
  generalize str (y :: tl) = B at *
  generalize str tl = C at *
  generalize tl.length = L at *
  go_enter Try.func6, Try.ntmps6
  go_wp2_with fail
  refine (hP1.out _).mono ?_
  rintro e w1 ⟨rfl, hB⟩
  go_wp2_with fail
  refine (hP2.out _).mono ?_
  rintro e w2 ⟨rfl, hB2⟩
  go_wp2_with fail
  refine (hA.out _).mono ?_
  rintro e w3 ⟨rfl, hB3⟩
  go_wp2_with fail
  refine (hG.out _).mono ?_
  rintro e w4 ⟨rfl, rfl⟩
  go_wp2_with fail
  go_region
  all_goals
    go_wp2_with fail
    go_ret
    exact ⟨rfl, ((hB.trans (hB2.mono hB.size)).trans (hB3.mono (Nat.le_trans hB.size hB2.size))).drew⟩

theorem varintFirst_true (f x n : Int) (w : World) (hf : (Lit.int .u8 f).wf = true) : Calls Try.prog 6 #[.int .u8 f, .int .i64 x, .int .i64 n] w (Fine w) := by
  have hb := bounds_u8 hf
  by_cases h : putIs f x n
  · exact first_yes f x n w (by omega) (by omega) h
  · exact first_no f x n w (by omega) (by omega) h
end Go.Proofs.Ytgmhbkmmcboadaa
