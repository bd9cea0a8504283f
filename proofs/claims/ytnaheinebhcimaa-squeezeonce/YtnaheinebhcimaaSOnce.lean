/-
  The law SqueezeOnce as a walk.
-/
import Derived.Test.YtnaheinebhcimaaSAlive
namespace Go.Proofs.Ytnaheinebhcimaa
open Go.RowKit
attribute [local irreducible] bitsN

theorem squeezeOnce_true (b : ByteArray) (w : World) (_hs : b.size ≤ maxLen) : Calls Try.prog 4 #[.string b] w (Fine w) := by
  have hA : Hid (∀ w, Calls Try.prog 9 #[] w fun e w' => e = .returned (.bool true) ∧ Below w.heap.size w w') := alive_true
  by_cases hl : 120 < b.size
  · go_enter Try.func4, Try.ntmps4
    go_wp2_with fail
    refine Calls.mono (hA.out _) ?_
    rintro e w1 ⟨rfl, hB⟩
    go_wp2
    go_ret
    exact ⟨rfl, hB⟩
  · have hG : Hid (∀ w, Calls Try.prog 11 #[.string b] w fun e w' => e = .returned (got (getL (nums b))) ∧ Below w.heap.size w w') := fun w => get_ok b w (by omega)
    cases hg : getL (nums b) with
    | none =>
      rw [hg] at hG
      simp only [got] at hG
      clear hg
      go_enter Try.func4, Try.ntmps4
      go_wp2_with fail
      refine Calls.mono (hA.out _) ?_
      rintro e w1 ⟨rfl, hB⟩
      go_wp2_with fail
      refine Calls.mono (hG.out _) ?_
      rintro e w2 ⟨rfl, hB2⟩
      go_wp2
      go_ret
      exact ⟨rfl, hB.trans (hB2.mono hB.size)⟩
    | some l =>
      obtain ⟨hl1, hl2⟩ := putL_getL _ _ (nums_byte b) hg
      have hlen := getL_length _ _ (nums_byte b) hg
      rw [nums_length] at hlen
      rw [hg] at hG
      simp only [got] at hG
      have hP : Hid (∀ w, Calls Try.prog 10 #[.string (str l)] w fun e w' => e = .returned (.string b) ∧ Below w.heap.size w w') := by
        intro w
        have := put_ok (str l) w (by rw [str_size]; omega)
        rw [nums_str l hl1, hl2, str_nums] at this
        exact this
      clear hg hl1 hl2 hlen
      generalize str l = S at *
      go_enter Try.func4, Try.ntmps4
      go_wp2_with fail
      refine Calls.mono (hA.out _) ?_
      rintro e w1 ⟨rfl, hB⟩
      go_wp2_with fail
      refine Calls.mono (hG.out _) ?_
      rintro e w2 ⟨rfl, hB2⟩
      go_wp2_with fail
      refine Calls.mono (hP.out _) ?_
      rintro e w3 ⟨rfl, hB3⟩
      go_wp2
      go_ret
      exact ⟨rfl, (hB.trans (hB2.mono hB.size)).trans (hB3.mono (Nat.le_trans hB.size hB2.size))⟩
end Go.Proofs.Ytnaheinebhcimaa
