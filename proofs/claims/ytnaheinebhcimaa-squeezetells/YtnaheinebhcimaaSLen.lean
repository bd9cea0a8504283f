/-
  Package squeeze: Len.
-/
import Derived.Test.YtnaheinebhcimaaSBytes
namespace Go.Proofs.Ytnaheinebhcimaa
open Go.RowKit
attribute [local irreducible] bitsN bitsV code nb val8

theorem bitsN_take (l : List Nat) (j : Nat) : bitsN (l.take j) ≤ 10 * l.length := by
  have h1 := (bitsN_bounds (l.take j)).2
  have h2 : (l.take j).length ≤ l.length := by rw [List.length_take]; omega
  omega
set_option maxRecDepth 100000 in
set_option maxHeartbeats 2000000 in
theorem len_ok (s : ByteArray) (w : World) (hs : s.size ≤ 1000000) : Calls Try.prog 14 #[.string s] w fun e w' => e = .returned (.int .i64 (((bitsN (nums s) + 7) / 8 : Nat) : Int)) ∧ w = w' := by
  generalize hL : bitsN (nums s) = L
  have HL : Hid (bitsN (nums s) = L) := hL
  clear hL
  go_enter Try.func14, Try.ntmps14
  go_wp2
  go_loopg [3, 7] s.size (fun k v i wr => ∃ j r : Nat, i = .int .i64 j ∧ k + j = s.size ∧ wr = w ∧ r ≤ 10000000 ∧ v = .int .i64 r ∧ Hid (bitsN ((nums s).take j) = r))
  case atStart => exact ⟨0, 0, rfl, rfl, rfl, by omega, rfl, by show _ = _; rw [List.take_zero]; unfold bitsN; rfl⟩
  case round =>
    obtain ⟨j, r, rfl, hk, rfl, hr, rfl, hl⟩ := hrel
    by_cases hj : j < s.size
    · have hix := index_at s j hj
      have hB : Hid (∀ w, Calls Try.prog 15 #[.int .u8 ((s[j]'hj).toNat : Int)] w fun e w' => e = .returned (.int .i64 (nb (s[j]'hj).toNat : Int)) ∧ w = w') := fun w => bits_ok _ w (UInt8.toNat_lt _)
      have hl2 : Hid (bitsN ((nums s).take (j + 1)) = r + nb (s[j]'hj).toNat ∧ gk + j = s.size) := ⟨by rw [nums_take_snoc s j hj, bitsN_snoc, hl.out], hk⟩
      have hnb := nb_bounds (s[j]'hj).toNat
      generalize (s[j]'hj).toNat = y at *
      generalize nb y = x at *
      clear hl hk
      go_wp2_with fail
      refine Calls.mono (hB.out _) ?_
      rintro e w1 ⟨rfl, rfl⟩
      go_wp2
      obtain ⟨h1, h3⟩ := hl2.out
      have h4 := bitsN_take (nums s) (j + 1)
      rw [nums_length] at h4
      go_roundg (gk - 1)
      case measure => omega
      case rel => exact ⟨j + 1, r + x, by simp, by omega, rfl, by omega, by simp, h1⟩
    · have h1 := hl.out
      rw [nums_all s j hj] at h1
      obtain rfl : L = r := HL.out.symm.trans h1
      clear hl hk h1 HL
      go_wp2
      go_ret
      exact ⟨by simp, rfl⟩
end Go.Proofs.Ytnaheinebhcimaa
