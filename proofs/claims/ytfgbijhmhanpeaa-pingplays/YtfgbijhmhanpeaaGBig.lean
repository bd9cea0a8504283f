/-
  A number as bytes, the greatest first; the reference's Big.
-/
import Derived.Test.YtfgbijhmhanpeaaGBits
import Derived.Deep.OwnRows
import Derived.Laws.OwnMore
namespace Go.Proofs.Ytfgbijhmhanpeaa
open Go.RowKit

/-- The last j of n bytes of a number, zeros ahead of them. -/
def partL (n V j : Nat) : List Nat := (List.range n).map fun p => if n - j ≤ p then V / 256 ^ (n - 1 - p) % 256 else 0
theorem partL_length (n V j : Nat) : (partL n V j).length = n := by simp [partL]
theorem partL_zero (n V : Nat) : partL n V 0 = List.replicate n 0 := by
  apply List.ext_getElem (by simp [partL])
  intro p h1 h2
  have hp : p < n := by simpa [partL] using h1
  simp [partL]
  omega
theorem partL_set (n V j : Nat) (h : j < n) : (partL n V j).set (n - 1 - j) (V / 256 ^ j % 256) = partL n V (j + 1) := by
  apply List.ext_getElem (by simp [partL])
  intro p h1 h2
  have hp : p < n := by simpa [partL] using h2
  rw [List.getElem_set]
  by_cases e : n - 1 - j = p
  · rw [if_pos e]
    simp only [partL, List.getElem_map, List.getElem_range]
    rw [if_pos (by omega), show n - 1 - p = j by omega]
  · rw [if_neg e]
    simp only [partL, List.getElem_map, List.getElem_range]
    by_cases g : n - j ≤ p
    · rw [if_pos g, if_pos (by omega)]
    · rw [if_neg g, if_neg (by omega)]
def bigL (n V : Nat) : List Nat := partL n V n
theorem bigL_one (V : Nat) : bigL 1 V = [V % 256] := by simp [bigL, partL]
theorem bigL_two (V : Nat) : bigL 2 V = [V / 256 % 256, V % 256] := by simp [bigL, partL, List.range_succ]
theorem bigL_three (V : Nat) : bigL 3 V = [V / 65536 % 256, V / 256 % 256, V % 256] := by simp [bigL, partL, List.range_succ]
theorem bigL_four (V : Nat) : bigL 4 V = [V / 16777216 % 256, V / 65536 % 256, V / 256 % 256, V % 256] := by simp [bigL, partL, List.range_succ]
theorem cellsOf_set (l : List Nat) (p x : Nat) : cellsOf (l.set p x) = (cellsOf l).set p (.int .u8 (x : Int)) := by simp [cellsOf, List.map_set]
theorem div_step (V j : Nat) : V / 256 ^ j / 256 = V / 256 ^ (j + 1) := by rw [Nat.div_div_eq_div_mul, Nat.pow_succ]
theorem make_row (n : Nat) (h : n ≤ 255) (w : World) : (w.alloc (.cells (madeCells #[.int .u8 0] n) 5)).ownsRow w.heap.size 5 1 (.slice (some ⟨w.heap.size, 0, none⟩) n n) n (cellsOf (List.replicate n 0)) := by
  have hr := World.ownsRow_lit (base := w.heap.size) (e := 5) (size := 1) w (madeCells #[.int .u8 0] n) n (Nat.le_refl _) (by unfold maxLen; omega) (by rw [size_madeCells]; simp)
  rw [toList_madeCells_one] at hr
  simpa [cellsOf] using hr
theorem bigL_length (n V : Nat) : (bigL n V).length = n := partL_length n V n
theorem bigL_byte (n V : Nat) : ∀ x ∈ bigL n V, x < 256 := by
  intro x hx
  simp only [bigL, partL, List.mem_map, List.mem_range] at hx
  obtain ⟨p, _, rfl⟩ := hx
  split <;> omega
/-- Numbers below 2^32 that differ have other bytes. -/
theorem bigL_inj (a b : Nat) (ha : a < 4294967296) (hb : b < 4294967296) (h : bigL 8 a = bigL 8 b) : a = b := by
  simp [bigL, partL, List.range_succ] at h
  omega
theorem big_size (n V : Nat) : (str (bigL n V)).size = n := by rw [str_size, bigL_length]
theorem big_inj (a b : Nat) (ha : a < 4294967296) (hb : b < 4294967296) (h : str (bigL 8 a) = str (bigL 8 b)) : a = b :=
  bigL_inj a b ha hb (str_inj _ _ (bigL_byte 8 a) (bigL_byte 8 b) h)
attribute [local irreducible] partL bigL nums str

set_option maxRecDepth 100000 in
set_option maxHeartbeats 1000000 in
theorem big_ok (V n : Nat) (w : World) (hV : V < 4294967296) (hn0 : 1 ≤ n) (hn : n ≤ 8) : Calls Try.prog 16 #[.int .i64 (V : Int), .int .i64 (n : Int)] w fun e w' => e = .returned (.string (str (bigL n V))) ∧ Keeps nobody w w' := by
  have hmk := run_make_row' (P := Try.prog) 44 5 (.int .u8 0) 1 Try.underlying44 info5 rfl .i64 .i64 n (by omega) (by omega)
  have hrow0 := make_row n (by omega) w
  have HC : Hid (∀ W : World, W.ownsRow w.heap.size 5 1 (.slice (some ⟨w.heap.size, 0, none⟩) n n) n (cellsOf (bigL n V)) → (convert 44 9 (.slice (some ⟨w.heap.size, 0, none⟩) n n)).run Try.prog W = .ok (.string (str (bigL n V))) W) := fun W h => conv_own W _ _ _ (bigL n V) _ h rfl
  have HB : Hid (bigL n V = partL n V n) := by unfold bigL; rfl
  generalize bigL n V = L at *
  go_enter Try.func16, Try.ntmps16
  go_wp2
  have k0 : Keeps nobody w (w.alloc (.cells (madeCells #[.int .u8 0] n) 5)) := keeps_alloc _ _
  clear hmk
  go_loopg [0, 6] n (fun k v i wr => ∃ j : Nat, i = .int .i64 ((n : Int) - 1 - (j : Int)) ∧ k + j = n ∧ v = .int .i64 ((V / 256 ^ j : Nat) : Int) ∧ Hid (wr.ownsRow w.heap.size 5 1 (.slice (some ⟨w.heap.size, 0, none⟩) n n) n (cellsOf (partL n V j))) ∧ Keeps nobody w wr)
  case atStart => exact ⟨0, by simp, rfl, by simp, by rw [partL_zero]; exact hrow0, k0⟩
  case round =>
    obtain ⟨j, rfl, hk, rfl, hrow, kr⟩ := hrel
    clear hrow0 k0
    by_cases hj : j < n
    · have hle : V / 256 ^ j ≤ V := Nat.div_le_self _ _
      have hand := and_255 (V / 256 ^ j) (by omega)
      have hst := hrow.out.stored (n - 1 - j) (.int .u8 ((V / 256 ^ j % 256 : Nat) : Int))
      rw [← cellsOf_set, partL_set n V j hj] at hst
      have hc := hrow.out.cellAt (n - 1 - j) (by omega)
      have hcs : (cellsOf (partL n V j))[n - 1 - j]? = some ((cellsOf (partL n V j))[n - 1 - j]'(by simp [cellsOf, partL_length]; omega)) := List.getElem?_eq_getElem _
      rw [hcs] at hc
      generalize (cellsOf (partL n V j))[n - 1 - j]'_ = v0 at hc
      have hfz := hrow.out.frozenAt (n - 1 - j)
      have hdv := div_step V j
      have hlt : V / 256 ^ j % 256 < 256 := by omega
      have hix : (n : Int) - 1 - (j : Int) = ((n - 1 - j : Nat) : Int) := by omega
      have HN : Hid ((wr.setCell ⟨w.heap.size, n - 1 - j, none⟩ (.int .u8 ((V / 256 ^ j % 256 : Nat) : Int))).ownsRow w.heap.size 5 1 (.slice (some ⟨w.heap.size, 0, none⟩) n n) n (cellsOf (partL n V (j + 1))) ∧ gk + j = n ∧ Keeps nobody w (wr.setCell ⟨w.heap.size, n - 1 - j, none⟩ (.int .u8 ((V / 256 ^ j % 256 : Nat) : Int)))) := ⟨hst.1, hk, kr.setCell (.inr (Nat.le_refl _)) _⟩
      have hd2 : ((V / 256 ^ j : Nat) : Int) / 256 = ((V / 256 ^ (j + 1) : Nat) : Int) := by rw [← hdv]; simp
      have hq : n - 1 - j < n := by omega
      have HQ : Hid ((n : Int) - 1 - ((j + 1 : Nat) : Int) = ((n - 1 - j : Nat) : Int) - 1) := by show _ = _; omega
      clear hst hrow hk hcs HC HB hle hdv
      rw [hix]
      generalize n - 1 - j = p at *
      generalize hV2 : V / 256 ^ (j + 1) = V2 at *
      have HV := hid hV2
      clear hV2
      generalize V / 256 ^ j % 256 = y at *
      have hV1 : V / 256 ^ j < 4294967296 := Nat.lt_of_le_of_lt (Nat.div_le_self _ _) hV
      generalize V / 256 ^ j = V1 at *
      clear hix
      go_wp2
      obtain ⟨e1, e2, e3⟩ := HN.out
      go_roundg (gk - 1)
      case measure => omega
      case rel => exact ⟨j + 1, by rw [HQ.out], by omega, by rw [HV.out], e1, e3⟩
    · have hjn : j = n := by omega
      subst hjn
      have hcv := HC.out wr (by rw [HB.out]; exact hrow.out)
      have hlt : (j : Int) - 1 - (j : Int) < 0 := by omega
      have hbr : ((j : Int) - 1 - (j : Int)) = -1 := by omega
      rw [hbr]
      clear HC HB hrow hk hj hlt hbr
      go_wp2
      go_ret
      exact ⟨rfl, kr⟩
end Go.Proofs.Ytfgbijhmhanpeaa
