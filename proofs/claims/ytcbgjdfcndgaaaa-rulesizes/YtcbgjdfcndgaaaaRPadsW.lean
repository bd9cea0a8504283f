/-
  The law FramePads as a walk.
-/
import Derived.Test.YtcbgjdfcndgaaaaRCutsW
import Derived.Laws.OwnMore
import Derived.Deep.OwnRows
namespace Go.Proofs.Ytcbgjdfcndgaaaa
open Go.RowKit

/-- Bytes of nothing. -/
def zeros (n : Nat) : ByteArray := str (List.replicate n 0)
theorem zeros_size (n : Nat) : (zeros n).size = n := by rw [zeros, str_size]; simp
theorem extract_front (a b : ByteArray) (n : Nat) (h : a.size = n) : (a ++ b).extract 0 n = a := by
  apply nums_inj
  rw [nums_extract, nums_append, List.drop_zero]
  exact List.take_left' (by rw [nums_length]; exact h)
theorem behind_front (a b : ByteArray) (n : Nat) (h : a.size = n) : behind (a ++ b) n = b := by
  apply nums_inj
  unfold behind
  have hs : (a ++ b).size = (nums a ++ nums b).length := by simp [nums_length]
  rw [nums_extract, nums_append, hs, List.take_length]
  exact List.drop_left' (by rw [nums_length]; exact h)
theorem unpad_pads (y : Nat) (M : ByteArray) (hy : y < 256) : unpadA (str [y] ++ M ++ zeros y) = some M := by
  rw [ByteArray.append_assoc, unpad_head y _ hy]
  have hs : (M ++ zeros y).size = M.size + y := by simp [zeros_size]
  rw [if_neg (by omega), hs, show M.size + y - y = M.size by omega, extract_front _ _ _ rfl]
theorem pads_size (y : Nat) (M : ByteArray) : (str [y] ++ M ++ zeros y).size = 1 + M.size + y := by simp [zeros_size, str_size]
theorem strip_none0 (b : ByteArray) : stripA 1 false false b = (b, 0, 0) := by
  unfold stripA
  simp [pads, aheadN, behind_zero]
theorem strip_five (F b : ByteArray) (h : F.size = 5) : stripA 1 false true (F ++ b) = (b, 5, 0) := by
  unfold stripA
  simp [pads, aheadN, behind_front F b 5 h, h]
theorem strip_pads (y : Nat) (b : ByteArray) (hy : y < 256) : stripA 1 true false (str [y] ++ b ++ zeros y) = (b, 1 + y, 0) := by
  unfold stripA
  rw [unpad_pads y b hy, pads_size]
  simp [pads, aheadN, behind_zero]
  omega
theorem strip_both (y : Nat) (F b : ByteArray) (hy : y < 256) (h : F.size = 5) : stripA 1 true true (str [y] ++ (F ++ b) ++ zeros y) = (b, 6 + y, 0) := by
  have hs : (F ++ b).size = 5 + b.size := by simp [h]
  unfold stripA
  rw [unpad_pads y _ hy, pads_size, hs]
  have hlt : ¬ (5 + b.size < 5) := by omega
  simp only [pads, aheadN, behind_front F b 5 h, hs, beq_self_eq_true, Bool.and_self, Bool.or_true, if_true, if_neg hlt, Prod.mk.injEq, true_and, and_true]
  omega
theorem strip_nine (p q : Bool) (b : ByteArray) : stripA 9 p q b = (b, 0, 0) := by
  unfold stripA
  simp [pads, aheadN, behind_zero]

theorem make_zeros (n : Nat) (h : n ≤ 255) (w : World) : (w.alloc (.cells (madeCells #[.int .u8 0] n) 5)).ownsRow w.heap.size 5 1 (.slice (some ⟨w.heap.size, 0, none⟩) n n) n (cellsOf (List.replicate n 0)) := by
  have hr := World.ownsRow_lit (base := w.heap.size) (e := 5) (size := 1) w (madeCells #[.int .u8 0] n) n (Nat.le_refl _) (by unfold maxLen; omega) (by rw [size_madeCells]; simp)
  rw [toList_madeCells_one] at hr
  simpa [cellsOf] using hr
theorem conv_zeros {n : Nat} {w W : World} (h : n ≤ 255) (k : Keeps nobody (w.alloc (.cells (madeCells #[.int .u8 0] n) 5)) W) : (convert 33 9 (.slice (some ⟨w.heap.size, 0, none⟩) n n)).run Try.prog W = .ok (.string (zeros n)) W :=
  conv_own W w.heap.size _ n (List.replicate n 0) _ (k.row (make_zeros n h w) (fun _ _ h => h)) rfl
end Go.Proofs.Ytcbgjdfcndgaaaa
