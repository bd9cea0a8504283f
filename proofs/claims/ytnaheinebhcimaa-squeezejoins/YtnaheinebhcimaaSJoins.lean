/-
  The law SqueezeJoins as a walk.
-/
import Derived.Test.YtnaheinebhcimaaSAlive
namespace Go.Proofs.Ytnaheinebhcimaa
open Go.RowKit
attribute [local irreducible] bitsN nb

theorem joins_long (s t : ByteArray) (w : World) (h : 100 < s.size ∨ ¬ 100 < s.size ∧ 100 < t.size) : Calls Try.prog 5 #[.string s, .string t] w (Fine w) := by
  have hA : Hid (∀ w, Calls Try.prog 9 #[] w fun e w' => e = .returned (.bool true) ∧ Below w.heap.size w w') := alive_true
  rcases h with h | ⟨h, h'⟩
  all_goals
    go_enter Try.func5, Try.ntmps5
    go_wp2_with fail
    refine Calls.mono (hA.out _) ?_
    rintro e w1 ⟨rfl, hB⟩
    go_wp2
    go_ret
    exact ⟨rfl, hB⟩

set_option maxRecDepth 100000 in
set_option maxHeartbeats 2000000 in
theorem joins_short (s t : ByteArray) (w : World) (h1 : ¬ 100 < s.size) (h2 : ¬ 100 < t.size) : Calls Try.prog 5 #[.string s, .string t] w (Fine w) := by
  have hA : Hid (∀ w, Calls Try.prog 9 #[] w fun e w' => e = .returned (.bool true) ∧ Below w.heap.size w w') := alive_true
  have hsz : (s ++ t).size = s.size + t.size := by simp
  have hL : Hid (∀ w, Calls Try.prog 14 #[.string (s ++ t)] w fun e w' => e = .returned (.int .i64 (((bitsN (nums (s ++ t)) + 7) / 8 : Nat) : Int)) ∧ w = w') := fun w => len_ok _ w (by omega)
  have hL1 : Hid (∀ w, Calls Try.prog 14 #[.string s] w fun e w' => e = .returned (.int .i64 (((bitsN (nums s) + 7) / 8 : Nat) : Int)) ∧ w = w') := fun w => len_ok _ w (by omega)
  have hL2 : Hid (∀ w, Calls Try.prog 14 #[.string t] w fun e w' => e = .returned (.int .i64 (((bitsN (nums t) + 7) / 8 : Nat) : Int)) ∧ w = w') := fun w => len_ok _ w (by omega)
  have hsum : bitsN (nums (s ++ t)) = bitsN (nums s) + bitsN (nums t) := by rw [nums_append, bitsN_append]
  have hb1 := bitsN_size s
  have hb2 := bitsN_size t
  have HN : Hid (bitsN (nums (s ++ t)) = bitsN (nums s) + bitsN (nums t)) := hsum
  rw [hsum] at hL
  clear hsum
  generalize bitsN (nums s) = n1 at *
  generalize bitsN (nums t) = n2 at *
  go_enter Try.func5, Try.ntmps5
  go_wp2_with fail
  refine Calls.mono (hA.out _) ?_
  rintro e wa ⟨rfl, hB⟩
  go_wp2
  go_loopg [5, 6] (s ++ t).size (fun k v i wr => ∃ j r : Nat, i = .int .i64 j ∧ k + j = (s ++ t).size ∧ wr = wa ∧ r ≤ 2000 ∧ v = .int .i64 r ∧ Hid (bitsN ((nums (s ++ t)).take j) = r))
  case atStart => exact ⟨0, 0, rfl, rfl, rfl, by omega, rfl, by show _ = _; rw [List.take_zero]; unfold bitsN; rfl⟩
  case round =>
    obtain ⟨j, r, rfl, hk, rfl, hr, rfl, hl⟩ := hrel
    by_cases hj : j < (s ++ t).size
    · have hix := index_at (s ++ t) j hj
      have hB' : Hid (∀ w, Calls Try.prog 15 #[.int .u8 (((s ++ t)[j]'hj).toNat : Int)] w fun e w' => e = .returned (.int .i64 (nb ((s ++ t)[j]'hj).toNat : Int)) ∧ w = w') := fun w => bits_ok _ w (UInt8.toNat_lt _)
      have hl2 : Hid (bitsN ((nums (s ++ t)).take (j + 1)) = r + nb ((s ++ t)[j]'hj).toNat ∧ gk + j = (s ++ t).size) := ⟨by rw [nums_take_snoc _ j hj, bitsN_snoc, hl.out], hk⟩
      have hnb := nb_bounds ((s ++ t)[j]'hj).toNat
      generalize ((s ++ t)[j]'hj).toNat = y at *
      generalize nb y = x at *
      rw [hsz] at hj
      clear hl hk hL hL1 hL2 hA
      go_wp2_with fail
      refine Calls.mono (hB'.out _) ?_
      rintro e w1 ⟨rfl, rfl⟩
      go_wp2
      obtain ⟨e1, e3⟩ := hl2.out
      have e4 := bitsN_take (nums (s ++ t)) (j + 1)
      rw [nums_length] at e4
      go_roundg (gk - 1)
      case measure => omega
      case rel => exact ⟨j + 1, r + x, by simp, by omega, rfl, by omega, by simp, e1⟩
    · have e1 := hl.out
      rw [nums_all _ j hj, HN.out] at e1
      subst e1
      rw [hsz] at hj
      clear hl hk HN hA hb1 hb2
      have hq : ((n1 + n2 + 7) / 8 : Nat) ≤ (n1 + 7) / 8 + (n2 + 7) / 8 := by omega
      have hdiv : ((n1 : Int) + (n2 : Int) + 7) / 8 = (((n1 + n2 + 7) / 8 : Nat) : Int) := by omega
      have hq1 : (n1 + 7) / 8 ≤ 300 := by omega
      have hq2 : (n2 + 7) / 8 ≤ 300 := by omega
      generalize (n1 + n2 + 7) / 8 = q at *
      generalize (n1 + 7) / 8 = q1 at *
      generalize (n2 + 7) / 8 = q2 at *
      go_wp2_with fail
      refine Calls.mono (hL.out _) ?_
      rintro e w1 ⟨rfl, rfl⟩
      go_wp2_with fail
      refine Calls.mono (hL.out _) ?_
      rintro e w1 ⟨rfl, rfl⟩
      go_wp2_with fail
      refine Calls.mono (hL1.out _) ?_
      rintro e w1 ⟨rfl, rfl⟩
      go_wp2_with fail
      refine Calls.mono (hL2.out _) ?_
      rintro e w1 ⟨rfl, rfl⟩
      go_wp2
      go_ret
      refine ⟨congrArg (fun b => Ending.returned (Value.bool b)) (show _ = true from ?_), hB⟩
      first
        | rfl
        | (simp; omega)

theorem squeezeJoins_true (s t : ByteArray) (w : World) (_hs : s.size ≤ maxLen) (_ht : t.size ≤ maxLen) : Calls Try.prog 5 #[.string s, .string t] w (Fine w) := by
  by_cases h1 : 100 < s.size
  · exact joins_long s t w (.inl h1)
  · by_cases h2 : 100 < t.size
    · exact joins_long s t w (.inr ⟨h1, h2⟩)
    · exact joins_short s t w h1 h2
end Go.Proofs.Ytnaheinebhcimaa
