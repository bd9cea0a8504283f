/-
  The law SqueezeTells as a walk.
-/
import Derived.Test.YtnaheinebhcimaaSRefGet
namespace Go.Proofs.Ytnaheinebhcimaa
open Go.RowKit
attribute [local irreducible] bitsN nb

theorem tells_long (s b : ByteArray) (c : Int) (w : World) (h : 200 < s.size ∨ ¬ 200 < s.size ∧ 120 < b.size) : Calls Try.prog 3 #[.string s, .string b, .int .u8 c] w (Fine w) := by
  have hA : Hid (∀ w, Calls Try.prog 9 #[] w fun e w' => e = .returned (.bool true) ∧ Below w.heap.size w w') := alive_true
  rcases h with h | ⟨h, h'⟩
  all_goals
    go_enter Try.func3, Try.ntmps3
    go_wp2_with fail
    refine Calls.mono (hA.out _) ?_
    rintro e w1 ⟨rfl, hB⟩
    go_wp2
    go_ret
    exact ⟨rfl, hB⟩

theorem got_form (g : Option (List Nat)) : ∃ (A : ByteArray) (E : Int), got g = .tuple #[.string A, .int .i64 E] := by
  cases g with
  | none => exact ⟨_, _, rfl⟩
  | some l => exact ⟨_, _, rfl⟩

set_option maxRecDepth 100000 in
set_option maxHeartbeats 2000000 in
theorem tells_short (s b : ByteArray) (c : Nat) (w : World) (h1 : ¬ 200 < s.size) (h2 : ¬ 120 < b.size) (hc : c < 256) : Calls Try.prog 3 #[.string s, .string b, .int .u8 (c : Int)] w (Fine w) := by
  have hA : Hid (∀ w, Calls Try.prog 9 #[] w fun e w' => e = .returned (.bool true) ∧ Below w.heap.size w w') := alive_true
  have hP : Hid (∀ w, Calls Try.prog 10 #[.string s] w fun e w' => e = .returned (.string (str (putL (nums s)))) ∧ Below w.heap.size w w') := fun w => put_ok s w (by omega)
  have hP2 : Hid (∀ w, Calls Try.prog 13 #[.string s] w fun e w' => e = .returned (.string (str (putL (nums s)))) ∧ Below w.heap.size w w') := fun w => refput_ok s w (by omega)
  have hG1 : Hid (∀ w, Calls Try.prog 11 #[.string (str (putL (nums s)))] w fun e w' => e = .returned (.tuple #[.string s, .int .i64 0]) ∧ Below w.heap.size w w') := fun w => get_put s w (by omega)
  have hG2 : Hid (∀ w, Calls Try.prog 11 #[.string b] w fun e w' => e = .returned (got (getL (nums b))) ∧ Below w.heap.size w w') := fun w => get_ok b w (by omega)
  have hG3 : Hid (∀ w, Calls Try.prog 12 #[.string b] w fun e w' => e = .returned (got (getL (nums b))) ∧ Below w.heap.size w w') := fun w => refget_ok b w (by omega)
  have hL : Hid (∀ w, Calls Try.prog 14 #[.string s] w fun e w' => e = .returned (.int .i64 ((str (putL (nums s))).size : Int)) ∧ w = w') := by
    intro w
    rw [put_size]
    exact len_ok s w (by omega)
  have hB1 : Hid (∀ w, Calls Try.prog 15 #[.int .u8 (c : Int)] w fun e w' => e = .returned (.int .i64 (nb c : Int)) ∧ w = w') := fun w => bits_ok c w hc
  have hB2 : Hid (∀ w, Calls Try.prog 16 #[.int .u8 (c : Int)] w fun e w' => e = .returned (.int .i64 (nb c : Int)) ∧ w = w') := fun w => refbits_ok c w hc
  obtain ⟨A, E, hgot⟩ := got_form (getL (nums b))
  rw [hgot] at hG2 hG3
  clear hgot
  generalize str (putL (nums s)) = p at *
  generalize nb c = n at *
  go_enter Try.func3, Try.ntmps3
  go_wp2_with fail
  refine Calls.mono (hA.out _) ?_
  rintro e w1 ⟨rfl, k1⟩
  go_wp2_with fail
  refine Calls.mono (hP.out _) ?_
  rintro e w2 ⟨rfl, k2⟩
  replace k2 := k1.trans (k2.mono k1.size)
  go_wp2_with fail
  refine Calls.mono (hG1.out _) ?_
  rintro e w3 ⟨rfl, k3⟩
  replace k3 := k2.trans (k3.mono k2.size)
  go_wp2_with fail
  refine Calls.mono (hG2.out _) ?_
  rintro e w4 ⟨rfl, k4⟩
  replace k4 := k3.trans (k4.mono k3.size)
  go_wp2_with fail
  refine Calls.mono (hG3.out _) ?_
  rintro e w5 ⟨rfl, k5⟩
  replace k5 := k4.trans (k5.mono k4.size)
  go_wp2_with fail
  refine Calls.mono (hP2.out _) ?_
  rintro e w6 ⟨rfl, k6⟩
  replace k6 := k5.trans (k6.mono k5.size)
  clear k1 k2 k3 k4 k5 hA hP hG1 hG2 hG3 hP2
  go_wp2_with fail
  refine Calls.mono (hL.out _) ?_
  rintro e w7 ⟨rfl, rfl⟩
  go_wp2_with fail
  refine Calls.mono (hB1.out _) ?_
  rintro e w7 ⟨rfl, rfl⟩
  go_wp2_with fail
  refine Calls.mono (hB2.out _) ?_
  rintro e w7 ⟨rfl, rfl⟩
  go_wp2
  go_ret
  exact ⟨rfl, k6⟩

theorem squeezeTells_true (s b : ByteArray) (c : Int) (w : World) (_hs : s.size ≤ maxLen) (_hb : b.size ≤ maxLen) (hc : (Lit.int .u8 c).wf = true) : Calls Try.prog 3 #[.string s, .string b, .int .u8 c] w (Fine w) := by
  by_cases h1 : 200 < s.size
  · exact tells_long s b c w (.inl h1)
  · by_cases h2 : 120 < b.size
    · exact tells_long s b c w (.inr ⟨h1, h2⟩)
    · have hcb := bounds_u8 hc
      obtain ⟨C, rfl⟩ := Int.eq_ofNat_of_zero_le hcb.1
      exact tells_short s b C w h1 h2 (by omega)
end Go.Proofs.Ytnaheinebhcimaa
