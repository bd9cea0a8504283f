/-
  'and', 'or' of numbers below 2^32.
-/
import Derived.Test.YtendndokgpppiaaGStr
import Derived.Laws.BitsAllLaws
import Derived.Laws.BytesArg
namespace Go.Proofs.Ytendndokgpppiaa
open Go.RowKit

theorem i64_and_nat (a b : Nat) (ha : a < 4294967296) (hb : b < 4294967296) : bits .and .i64 (a : Int) (b : Int) = ((a &&& b : Nat) : Int) := by
  have hlt : a &&& b < 4294967296 := Nat.lt_of_le_of_lt Nat.and_le_left ha
  have h : (BitVec.ofInt 64 (a : Int) &&& BitVec.ofInt 64 (b : Int)).toNat = a &&& b := by
    rw [BitVec.toNat_and, ofInt_u64 a (by omega), ofInt_u64 b (by omega)]
  show IntKind.i64.wrap ((BitVec.ofInt 64 (a : Int) &&& BitVec.ofInt 64 (b : Int)).toNat : Int) = _
  rw [h]
  simp [IntKind.wrap, IntKind.bits, IntKind.signed]
  omega
theorem i64_or_nat (a b : Nat) (ha : a < 4294967296) (hb : b < 4294967296) : bits .or .i64 (a : Int) (b : Int) = ((a ||| b : Nat) : Int) := by
  have hlt : a ||| b < 2 ^ 32 := Nat.or_lt_two_pow (by simpa using ha) (by simpa using hb)
  have h : (BitVec.ofInt 64 (a : Int) ||| BitVec.ofInt 64 (b : Int)).toNat = a ||| b := by
    rw [BitVec.toNat_or, ofInt_u64 a (by omega), ofInt_u64 b (by omega)]
  show IntKind.i64.wrap ((BitVec.ofInt 64 (a : Int) ||| BitVec.ofInt 64 (b : Int)).toNat : Int) = _
  rw [h]
  simp [IntKind.wrap, IntKind.bits, IntKind.signed]
  omega
/-- 'h & (2^n - 1)'. -/
theorem and_ones (h n : Nat) (hh : h < 4294967296) (hn : n ≤ 31) : bits .and .i64 (h : Int) ((2 ^ n - 1 : Nat) : Int) = ((h % 2 ^ n : Nat) : Int) := by
  have : 2 ^ n ≤ 2 ^ 31 := Nat.pow_le_pow_right (by decide) hn
  rw [i64_and_nat _ _ hh (by omega), Nat.and_two_pow_sub_one_eq_mod]
/-- 'h<<k | c'. -/
theorem or_cat (h k c : Nat) (hc : c < 2 ^ k) (hh : h * 2 ^ k < 4294967296) (hk : k ≤ 31) : bits .or .i64 ((h * 2 ^ k : Nat) : Int) (c : Int) = ((h * 2 ^ k + c : Nat) : Int) := by
  have : 2 ^ k ≤ 2 ^ 31 := Nat.pow_le_pow_right (by decide) hk
  rw [i64_or_nat _ _ hh (by omega), Nat.mul_comm, Nat.two_pow_add_eq_or_of_lt hc]
theorem or_byte8 (n y : Nat) (hy : y < 256) (hn : n < 16777216) : bits .or .i64 ((n : Int) * 256) (y : Int) = ((n * 256 + y : Nat) : Int) := by
  have := or_cat n 8 y hy (by simp; omega) (by decide)
  simpa using this
theorem and_31 (n : Nat) (h : n < 4294967296) : bits .and .i64 (n : Int) 2147483647 = ((n % 2147483648 : Nat) : Int) := by
  have := and_ones n 31 h (by decide)
  simpa using this
theorem and_255 (n : Nat) (h : n < 4294967296) : bits .and .i64 (n : Int) 255 = ((n % 256 : Nat) : Int) := by
  have := and_ones n 8 h (by decide)
  simpa using this
end Go.Proofs.Ytendndokgpppiaa
