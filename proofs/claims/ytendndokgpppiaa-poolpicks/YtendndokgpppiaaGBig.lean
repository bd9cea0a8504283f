/-
  A number as bytes, the greatest first; the reference's Big.
-/
import Derived.Test.YtendndokgpppiaaGBits
import Derived.Deep.OwnRows
import Derived.Laws.OwnMore
namespace Go.Proofs.Ytendndokgpppiaa
open Go.RowKit

/-- The last j of n bytes of a number, zeros ahead of them. -/
def partL (n V j : Nat) : List Nat := (List.range n).map fun p => if n - j ≤ p then V / 256 ^ (n - 1 - p) % 256 else 0
theorem partL_length (n V j : Nat) : (partL n V j).length = n := by simp [partL]
theorem partL_zero (n V : Nat) : partL n V 0 = List.replicate n 0 := by
  apply List.ext_getElem (by simp [partL])
  intro p h1 h2
  have hp : p < n := by simpa [partL] using h1
  simp [partL]
  omega
theorem partL_set (n V j : Nat) (h : j < n) : (partL n V j).set (n - 1 - j) (V / 256 ^ j % 256) = partL n V (j + 1) := by
  apply List.ext_getElem (by simp [partL])
  intro p h1 h2
  have hp : p < n := by simpa [partL] using h2
  rw [List.getElem_set]
  by_cases e : n - 1 - j = p
  · rw [if_pos e]
    simp only [partL, List.getElem_map, List.getElem_range]
    rw [if_pos (by omega), show n - 1 - p = j by omega]
  · rw [if_neg e]
    simp only [partL, List.getElem_map, List.getElem_range]
    by_cases g : n - j ≤ p
    · rw [if_pos g, if_pos (by omega)]
    · rw [if_neg g, if_neg (by omega)]
def bigL (n V : Nat) : List Nat := partL n V n
theorem bigL_one (V : Nat) : bigL 1 V = [V % 256] := by simp [bigL, partL]
theorem bigL_two (V : Nat) : bigL 2 V = [V / 256 % 256, V % 256] := by simp [bigL, partL, List.range_succ]
theorem bigL_three (V : Nat) : bigL 3 V = [V / 65536 % 256, V / 256 % 256, V % 256] := by simp [bigL, partL, List.range_succ]
theorem bigL_four (V : Nat) : bigL 4 V = [V / 16777216 % 256, V / 65536 % 256, V / 256 % 256, V % 256] := by simp [bigL, partL, List.range_succ]
theorem cellsOf_set (l : List Nat) (p x : Nat) : cellsOf (l.set p x) = (cellsOf l).set p (.int .u8 (x : Int)) := by simp [cellsOf, List.map_set]
theorem div_step (V j : Nat) : V / 256 ^ j / 256 = V / 256 ^ (j + 1) := by rw [Nat.div_div_eq_div_mul, Nat.pow_succ]
theorem make_row (n : Nat) (h : n ≤ 255) (w : World) : (w.alloc (.cells (madeCells #[.int .u8 0] n) 5)).ownsRow w.heap.size 5 1 (.slice (some ⟨w.heap.size, 0, none⟩) n n) n (cellsOf (List.replicate n 0)) := by
  have hr := World.ownsRow_lit (base := w.heap.size) (e := 5) (size := 1) w (madeCells #[.int .u8 0] n) n (Nat.le_refl _) (by unfold maxLen; omega) (by rw [size_madeCells]; simp)
  rw [toList_madeCells_one] at hr
  simpa [cellsOf] using hr
theorem bigL_length (n V : Nat) : (bigL n V).length = n := partL_length n V n
theorem bigL_byte (n V : Nat) : ∀ x ∈ bigL n V, x < 256 := by
  intro x hx
  simp only [bigL, partL, List.mem_map, List.mem_range] at hx
  obtain ⟨p, _, rfl⟩ := hx
  split <;> omega
/-- Numbers below 2^32 that differ have other bytes. -/
theorem bigL_inj (a b : Nat) (ha : a < 4294967296) (hb : b < 4294967296) (h : bigL 8 a = bigL 8 b) : a = b := by
  simp [bigL, partL, List.range_succ] at h
  omega
theorem big_size (n V : Nat) : (str (bigL n V)).size = n := by rw [str_size, bigL_length]
theorem big_inj (a b : Nat) (ha : a < 4294967296) (hb : b < 4294967296) (h : str (bigL 8 a) = str (bigL 8 b)) : a = b :=
  bigL_inj a b ha hb (str_inj _ _ (bigL_byte 8 a) (bigL_byte 8 b) h)
attribute [local irreducible] partL bigL nums str

end Go.Proofs.Ytendndokgpppiaa
