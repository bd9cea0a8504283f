/-
  Package frame: Put, Strip.
-/
import Derived.Test.YtendndokgpppiaaRRight
import Derived.BigQuiet
namespace Go.Proofs.Ytendndokgpppiaa.Fr
open Go.RowKit
attribute [local irreducible] numL byteAt endOf idOf nums str

theorem conv_lit (w : World) (l : List Nat) (hl : l.length ≤ 1000) : (convert 99 9 (.slice (some ⟨w.heap.size, 0, none⟩) l.length l.length)).run Try.prog (w.alloc (.cells (cellsOf l).toArray 5)) = .ok (.string (str l)) (w.alloc (.cells (cellsOf l).toArray 5)) := by
  have hc : (cellsOf l).length = l.length := by simp [cellsOf]
  have h := World.ownsRow_lit (base := w.heap.size) (e := 5) (size := 1) w (cellsOf l).toArray l.length (Nat.le_refl _) (by unfold maxLen; omega) (by simp [hc])
  exact conv_own _ w.heap.size _ _ l _ h rfl

theorem put_no (f : Frm) (w : World) (h : ¬ right f) : Calls Try.prog 54 #[frval f] w fun e w' => e = .returned (.tuple #[.string (putA f), .bool (decide (right f))]) ∧ Keeps nobody w w' := by
  rw [putA, if_neg h, decide_eq_false h]
  have HR : Hid (∀ w, Calls Try.prog 62 #[frval f] w fun e w' => e = .returned (.bool false) ∧ Keeps nobody w w') := fun w => by
    have := right_ok f w
    rwa [decide_eq_false h] at this
  obtain ⟨k, fl, id, b⟩ := f
  clear h
  go_enter Try.func54, Try.ntmps54
  go_wp2_with fail
  refine Calls.mono (HR.out _) ?_
  rintro e w1 ⟨rfl, k1⟩
  go_wp2
  go_ret2
  exact ⟨rfl, (keeps_alloc _ _).then k1⟩

theorem head_cells (n k fl id : Nat) : (cellsOf (headL n k fl id)).toArray = #[.int .u8 ((n / 65536 % 256 : Nat) : Int), .int .u8 ((n / 256 % 256 : Nat) : Int), .int .u8 ((n % 256 : Nat) : Int), .int .u8 ((k % 256 : Nat) : Int), .int .u8 ((fl % 256 : Nat) : Int), .int .u8 ((id / 16777216 % 256 : Nat) : Int), .int .u8 ((id / 65536 % 256 : Nat) : Int), .int .u8 ((id / 256 % 256 : Nat) : Int), .int .u8 ((id % 256 : Nat) : Int)] := rfl

set_option maxRecDepth 100000 in
set_option maxHeartbeats 1000000 in
theorem put_yes (f : Frm) (w : World) (h : right f) : Calls Try.prog 54 #[frval f] w fun e w' => e = .returned (.tuple #[.string (putA f), .bool (decide (right f))]) ∧ Keeps nobody w w' := by
  rw [putA, if_pos h, decide_eq_true h]
  have HR : Hid (∀ w, Calls Try.prog 62 #[frval f] w fun e w' => e = .returned (.bool true) ∧ Keeps nobody w w') := fun w => by
    have := right_ok f w
    rwa [decide_eq_true h] at this
  have hh := headA_size f
  obtain ⟨k, fl, i, b⟩ := f
  obtain ⟨⟨a1, a2⟩, ⟨b1, b2⟩, ⟨c1, c2⟩, d⟩ := h
  simp only at a1 a2 b1 b2 c1 c2 d
  obtain ⟨k, rfl⟩ := Int.eq_ofNat_of_zero_le a1
  obtain ⟨fl, rfl⟩ := Int.eq_ofNat_of_zero_le b1
  obtain ⟨i, rfl⟩ := Int.eq_ofNat_of_zero_le c1
  have hconv := fun w => conv_lit w (headL b.size k fl i) (by rw [headL_length]; decide)
  have hcl : (cellsOf (headL b.size k fl i)).toArray = #[.int .u8 ((b.size : Int) / 65536), .int .u8 ((b.size : Int) / 256 % 256), .int .u8 ((b.size : Int) % 256), .int .u8 (k : Int), .int .u8 (fl : Int), .int .u8 ((i : Int) / 16777216), .int .u8 ((i : Int) / 65536 % 256), .int .u8 ((i : Int) / 256 % 256), .int .u8 ((i : Int) % 256)] := by
    rw [head_cells]
    simp
    omega
  simp only [headL_length, hcl] at hconv
  clear hcl
  have hE : headA ⟨(k : Int), (fl : Int), (i : Int), b⟩ = str (headL b.size k fl i) := by simp [headA]
  rw [hE]
  rw [hE] at hh
  clear hE
  generalize str (headL b.size k fl i) = S at *
  go_enter Try.func54, Try.ntmps54
  go_wp2_with fail
  refine Calls.mono (HR.out _) ?_
  rintro e w1 ⟨rfl, k1⟩
  have hc : ∀ o, w1.cell? ⟨w.heap.size, o, none⟩ = (w.alloc (.cells #[.int .i64 (k : Int), .int .i64 (fl : Int), .int .i64 (i : Int), .string b] 82)).cell? ⟨w.heap.size, o, none⟩ := fun o => k1.cell (by simp) (fun h => h)
  have hc0 := (hc 0).trans (show _ = some (Value.int .i64 (k : Int)) by simp)
  have hc1 := (hc 1).trans (show _ = some (Value.int .i64 (fl : Int)) by simp)
  have hc2 := (hc 2).trans (show _ = some (Value.int .i64 (i : Int)) by simp)
  have hc3 := (hc 3).trans (show _ = some (Value.string b) by simp)
  clear hc
  go_wp2_with fail
  go_quiet (fail)
  have hcv := hconv (w1.drewN nq)
  have hz : (w1.drewN nq).heap.size = w1.heap.size := by simp
  rw [hz] at hcv
  have hlt : w.heap.size < w1.heap.size := by have := k1.size; simp at this; omega
  have hl3 : ∀ o, ((w1.drewN nq).alloc o).cell? ⟨w.heap.size, 3, none⟩ = some (.string b) := fun o => by
    rw [(keeps_alloc (w1.drewN nq) o).cell (by simpa using hlt) (fun h => h)]
    simpa using hc3
  have HK : Hid (∀ o, Keeps nobody w ((w1.drewN nq).alloc o)) := fun o => ((keeps_alloc w _).then (k1.drewN nq)).alloc o
  clear hconv hz k1 hlt hc2 hc3
  go_wp2
  go_ret2
  exact ⟨rfl, HK.out _⟩
theorem put_ok (f : Frm) (w : World) : Calls Try.prog 54 #[frval f] w fun e w' => e = .returned (.tuple #[.string (putA f), .bool (decide (right f))]) ∧ Keeps nobody w w' := by
  by_cases h : right f
  · exact put_yes f w h
  · exact put_no f w h
end Go.Proofs.Ytendndokgpppiaa.Fr
