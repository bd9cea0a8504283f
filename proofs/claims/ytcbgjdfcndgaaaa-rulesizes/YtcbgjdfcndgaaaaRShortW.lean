/-
  The law FrameShort as a walk.
-/
import Derived.Test.YtcbgjdfcndgaaaaRBoundsW
namespace Go.Proofs.Ytcbgjdfcndgaaaa
open Go.RowKit
attribute [local irreducible] putA right numL byteAt endOf idOf nums str unpadA behind stripA

theorem conv_one (y : Nat) (w : World) : (convert 33 9 (.slice (some ⟨w.heap.size, 0, none⟩) 1 1)).run Try.prog (w.alloc (.cells #[.int .u8 (y : Int)] 5)) = .ok (.string (str [y])) (w.alloc (.cells #[.int .u8 (y : Int)] 5)) :=
  conv_lit w [y] (by simp)
theorem byteAt_head (y : Nat) (b : ByteArray) (hy : y < 256) : byteAt (str [y] ++ b) 0 = y := by
  unfold byteAt
  rw [nums_append, nums_str [y] (by simpa using hy)]
  rfl
theorem extract_head (y m : Nat) (b : ByteArray) : (str [y] ++ b).extract 1 (1 + m) = b.extract 0 m := by
  apply nums_inj
  rw [nums_extract, nums_extract, nums_append]
  have h : (nums (str [y])).length = 1 := by rw [nums_length, str_size]; rfl
  rw [List.take_append, h, List.take_of_length_le (by omega), List.drop_left' h]
  simp
theorem unpad_head (y : Nat) (b : ByteArray) (hy : y < 256) : unpadA (str [y] ++ b) = if b.size < y then none else some (b.extract 0 (b.size - y)) := by
  have hs : (str [y] ++ b).size = 1 + b.size := by simp [str_size]
  unfold unpadA
  rw [hs, byteAt_head y b hy]
  by_cases h : b.size < y
  · rw [if_pos (by omega), if_pos h]
  · rw [if_neg (by omega), if_neg h, show 1 + b.size - y = 1 + (b.size - y) by omega, extract_head]
theorem pad8 : padB 8 = true := by decide +kernel
theorem weigh8 : weighB 8 = false := by decide +kernel
theorem pad32 : padB 32 = false := by decide +kernel
theorem weigh32 : weighB 32 = true := by decide +kernel
theorem strip_pad (y : Nat) (b : ByteArray) (hy : y < 256) : stripA 0 true false (str [y] ++ b) = if b.size < y then (⟨#[]⟩, 0, 11) else (b.extract 0 (b.size - y), 1 + y, 0) := by
  unfold stripA
  rw [unpad_head y b hy]
  by_cases h : b.size < y
  · simp [pads, h]
  · have e : (b.extract 0 (b.size - y)).size = b.size - y := by rw [extract_size _ _ _ (by omega)]; omega
    simp [pads, aheadN, h, behind_zero, e, str_size]
    omega
theorem strip_weigh (b : ByteArray) : stripA 1 false true b = if b.size < 5 then (⟨#[]⟩, 0, 5) else (behind b 5, 5, 0) := by
  unfold stripA
  by_cases h : b.size < 5
  · simp [pads, aheadN, h]
  · simp [pads, aheadN, h]
    omega
theorem strip_none : stripA 0 true false ⟨#[]⟩ = (⟨#[]⟩, 0, 11) := by
  have e : unpadA ⟨#[]⟩ = none := by unfold unpadA; rw [if_pos (.inl rfl)]
  unfold stripA
  simp [pads, e]

end Go.Proofs.Ytcbgjdfcndgaaaa
