/-
  Package frame: Strip.
-/
import Derived.Test.YtkogkkjdcackcaaRPut
namespace Go.Proofs.Ytkogkkjdcackcaa
open Go.RowKit
attribute [local irreducible] numL byteAt endOf idOf nums str

theorem unpadA_size (b c : ByteArray) (h : unpadA b = some c) : c.size ≤ b.size := by
  unfold unpadA at h
  split at h
  · cases h
  · simp only [Option.some.injEq] at h
    rw [← h, extract_size _ _ _ (by omega)]
    omega
theorem behind_size (c : ByteArray) (n : Nat) : (behind c n).size = c.size - n := by rw [behind, extract_size _ _ _ (Nat.le_refl _)]
theorem slice_behind (c : ByteArray) (n : Nat) (h : n ≤ c.size) (w : World) : (Instr.slice 9 (.string c) (some (.int .i64 (n : Int))) none none).run Try.prog w = .ok (.string (behind c n)) w := slice_from c n h w

end Go.Proofs.Ytkogkkjdcackcaa
