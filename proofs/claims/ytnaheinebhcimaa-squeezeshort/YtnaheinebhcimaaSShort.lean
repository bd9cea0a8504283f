/-
  The law SqueezeShort as a walk.
-/
import Derived.Test.YtnaheinebhcimaaSAlive
namespace Go.Proofs.Ytnaheinebhcimaa
open Go.RowKit
attribute [local irreducible] bitsN

theorem squeezeShort_true (s : ByteArray) (w : World) (_hs : s.size ≤ maxLen) : Calls Try.prog 8 #[.string s] w (Fine w) := by
  have hA : Hid (∀ w, Calls Try.prog 9 #[] w fun e w' => e = .returned (.bool true) ∧ Below w.heap.size w w') := alive_true
  by_cases hl : 200 < s.size
  · go_enter Try.func8, Try.ntmps8
    go_wp2_with fail
    refine Calls.mono (hA.out _) ?_
    rintro e w1 ⟨rfl, hB⟩
    go_wp2
    go_ret
    exact ⟨rfl, hB⟩
  · have hL : Hid (∀ w, Calls Try.prog 14 #[.string s] w fun e w' => e = .returned (.int .i64 (((bitsN (nums s) + 7) / 8 : Nat) : Int)) ∧ w = w') := fun w => len_ok s w (by omega)
    have hb := bitsN_size s
    generalize bitsN (nums s) = n at *
    have hq : 8 * ((n + 7) / 8) ≤ n + 7 ∧ n ≤ 8 * ((n + 7) / 8) := by omega
    generalize (n + 7) / 8 = q at *
    by_cases h0 : 0 < s.size
    · have he := isEmpty_of_size s h0
      have hq0 : ((q : Int) == 0) = false := by simp; omega
      go_enter Try.func8, Try.ntmps8
      go_wp2_with fail
      refine Calls.mono (hA.out _) ?_
      rintro e w1 ⟨rfl, hB⟩
      go_wp2_with fail
      refine Calls.mono (hL.out _) ?_
      rintro e w2 ⟨rfl, rfl⟩
      go_wp2
      go_ret
      refine ⟨congrArg (fun b => Ending.returned (Value.bool b)) (show _ = true from ?_), hB⟩
      first
        | rfl
        | (simp; omega)
    · obtain rfl : q = 0 := by omega
      obtain rfl := eq_empty_of_size s h0
      clear hb hq h0 hl
      go_enter Try.func8, Try.ntmps8
      go_wp2_with fail
      refine Calls.mono (hA.out _) ?_
      rintro e w1 ⟨rfl, hB⟩
      go_wp2_with fail
      refine Calls.mono (hL.out _) ?_
      rintro e w2 ⟨rfl, rfl⟩
      go_wp2
      go_ret
      refine ⟨congrArg (fun b => Ending.returned (Value.bool b)) (show _ = true from ?_), hB⟩
      first
        | rfl
        | (simp)
end Go.Proofs.Ytnaheinebhcimaa
