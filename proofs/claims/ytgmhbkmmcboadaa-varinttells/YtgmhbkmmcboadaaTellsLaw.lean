/-
  The law VarintTells as a walk.
-/
import Derived.Test.YtgmhbkmmcboadaaRefPut
import Derived.Test.YtgmhbkmmcboadaaRefGet
import Derived.Test.YtgmhbkmmcboadaaBehindLaw
namespace Go.Proofs.Ytgmhbkmmcboadaa
open Go.RowKit

theorem tells_long (f x n : Int) (s : ByteArray) (w : World) (hs : s.size ≤ maxLen) (h : 60 < s.size) : Calls Try.prog 3 #[.int .u8 f, .int .i64 x, .int .i64 n, .string s] w (Fine w) := by
  unfold maxLen at hs
  have hA : Hid (∀ w, Calls Try.prog 9 #[] w fun e w' => e = .returned (.bool true) ∧ Below w.heap.size w w') := alive_true
  go_enter Try.func3, Try.ntmps3
  go_wp2_with fail
  refine (hA.out _).mono ?_
  rintro e w3 ⟨rfl, hB3⟩
  go_wp2_with fail
  go_ret
  exact ⟨rfl, hB3⟩

set_option maxRecDepth 100000 in
theorem tells_no (f x n : Int) (s : ByteArray) (w : World) (hf0 : 0 ≤ f) (hf : f < 256) (h : ¬ putIs f x n) (hs : s.size ≤ 60) : Calls Try.prog 3 #[.int .u8 f, .int .i64 x, .int .i64 n, .string s] w (Fine w) := by
  have hA : Hid (∀ w, Calls Try.prog 9 #[] w fun e w' => e = .returned (.bool true) ∧ Below w.heap.size w w') := alive_true
  have hP := put_ok f x n
  have hR := refput_ok f x n
  rw [putAll, if_neg h, decide_eq_false h] at hP hR
  have HP : Hid (∀ w, Calls Try.prog 10 #[.int .u8 f, .int .i64 x, .int .i64 n] w fun e w' => e = .returned (.tuple #[.string ⟨#[]⟩, .bool false]) ∧ Below w.heap.size w w') := fun w => hP w hf0 hf
  have HR : Hid (∀ w, Calls Try.prog 11 #[.int .u8 f, .int .i64 x, .int .i64 n] w fun e w' => e = .returned (.tuple #[.string ⟨#[]⟩, .bool false]) ∧ Below w.heap.size w w') := fun w => hR w hf0 hf
  have hm : s.size ≤ maxLen := by unfold maxLen; omega
  have HG : Hid (∀ w, Calls Try.prog 12 #[.string s, .int .i64 x] w fun e w' => e = .returned (got (getAll s x)) ∧ w = w') := fun w => get_ok s x w hm
  have HH : Hid (∀ w, Calls Try.prog 13 #[.string s, .int .i64 x] w fun e w' => e = .returned (got (getAll s x)) ∧ w = w') := fun w => refget_ok s x w hm
  clear hP hR h hm
  unfold got at HG HH
  generalize (getAll s x).1 = g1 at *
  generalize (getAll s x).2.1 = g2 at *
  generalize (getAll s x).2.2 = g3 at *
  go_enter Try.func3, Try.ntmps3
  go_wp2_with fail
  refine (hA.out _).mono ?_
  rintro e w1 ⟨rfl, hB1⟩
  go_wp2_with fail
  refine (HP.out _).mono ?_
  rintro e w2 ⟨rfl, hB2⟩
  go_wp2_with fail
  refine (HR.out _).mono ?_
  rintro e w3 ⟨rfl, hB3⟩
  go_wp2_with fail
  refine (HG.out _).mono ?_
  rintro e w4 ⟨rfl, rfl⟩
  go_wp2_with fail
  refine (HH.out _).mono ?_
  rintro e w4 ⟨rfl, rfl⟩
  go_wp2_with fail
  go_ret
  exact ⟨rfl, (hB1.trans (hB2.mono hB1.size)).trans (hB3.mono (Nat.le_trans hB1.size hB2.size))⟩

set_option maxRecDepth 100000 in
theorem tells_yes (f x n : Int) (s : ByteArray) (w : World) (hf0 : 0 ≤ f) (hf : f < 256) (h : putIs f x n) (hs : s.size ≤ 60) : Calls Try.prog 3 #[.int .u8 f, .int .i64 x, .int .i64 n, .string s] w (Fine w) := by
  have hA : Hid (∀ w, Calls Try.prog 9 #[] w fun e w' => e = .returned (.bool true) ∧ Below w.heap.size w w') := alive_true
  have hP := put_ok f x n
  have hR := refput_ok f x n
  rw [putAll, if_pos h, decide_eq_true h] at hP hR
  have HP : Hid (∀ w, Calls Try.prog 10 #[.int .u8 f, .int .i64 x, .int .i64 n] w fun e w' => e = .returned (.tuple #[.string (str (putN f.toNat (full x) n.toNat)), .bool true]) ∧ Below w.heap.size w w') := fun w => hP w hf0 hf
  have HR : Hid (∀ w, Calls Try.prog 11 #[.int .u8 f, .int .i64 x, .int .i64 n] w fun e w' => e = .returned (.tuple #[.string (str (putN f.toNat (full x) n.toNat)), .bool true]) ∧ Below w.heap.size w w') := fun w => hR w hf0 hf
  have hl := length_putN f.toNat (full x) n.toNat (by have := h.2.2.2.1; omega)
  have hsz := str_size (putN f.toNat (full x) n.toNat)
  have hm : s.size ≤ maxLen := by unfold maxLen; omega
  have HG : Hid (∀ w, Calls Try.prog 12 #[.string s, .int .i64 x] w fun e w' => e = .returned (got (getAll s x)) ∧ w = w') := fun w => get_ok s x w hm
  have HH : Hid (∀ w, Calls Try.prog 13 #[.string s, .int .i64 x] w fun e w' => e = .returned (got (getAll s x)) ∧ w = w') := fun w => refget_ok s x w hm
  have HZ : Hid (∀ w, Calls Try.prog 12 #[.string (str (putN f.toNat (full x) n.toNat) ++ s), .int .i64 x] w fun e w' => e = .returned (got (n, ((str (putN f.toNat (full x) n.toNat)).size : Int), 0)) ∧ w = w') := by
    intro w
    have := get_ok (str (putN f.toNat (full x) n.toNat) ++ s) x w (by rw [size_str_append]; unfold maxLen; omega)
    rw [get_put f x n s hf0 hf h] at this
    rw [hsz]
    exact this
  clear hP hR h hm
  unfold got at HG HH HZ
  generalize (getAll s x).1 = g1 at *
  generalize (getAll s x).2.1 = g2 at *
  generalize (getAll s x).2.2 = g3 at *
  generalize str (putN f.toNat (full x) n.toNat) = B at *
  have hBl : B.size ≤ 6 := by omega
  clear hsz hl
  go_enter Try.func3, Try.ntmps3
  go_wp2_with fail
  refine (hA.out _).mono ?_
  rintro e w1 ⟨rfl, hB1⟩
  go_wp2_with fail
  refine (HP.out _).mono ?_
  rintro e w2 ⟨rfl, hB2⟩
  go_wp2_with fail
  refine (HR.out _).mono ?_
  rintro e w3 ⟨rfl, hB3⟩
  go_wp2_with fail
  refine (HG.out _).mono ?_
  rintro e w4 ⟨rfl, rfl⟩
  go_wp2_with fail
  refine (HH.out _).mono ?_
  rintro e w4 ⟨rfl, rfl⟩
  go_wp2_with fail
  refine (HZ.out _).mono ?_
  rintro e w4 ⟨rfl, rfl⟩
  go_wp2_with fail
  go_ret
  exact ⟨rfl, (hB1.trans (hB2.mono hB1.size)).trans (hB3.mono (Nat.le_trans hB1.size hB2.size))⟩

theorem varintTells_true (f x n : Int) (s : ByteArray) (w : World) (hf : (Lit.int .u8 f).wf = true) (hs : s.size ≤ maxLen) : Calls Try.prog 3 #[.int .u8 f, .int .i64 x, .int .i64 n, .string s] w (Fine w) := by
  have hb := bounds_u8 hf
  by_cases h60 : 60 < s.size
  · exact tells_long f x n s w hs h60
  · by_cases h : putIs f x n
    · exact tells_yes f x n s w (by omega) (by omega) h (by omega)
    · exact tells_no f x n s w (by omega) (by omega) h (by omega)
end Go.Proofs.Ytgmhbkmmcboadaa
