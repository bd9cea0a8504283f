/-
  Package ping: a Health in memory; New, made, Waits, Sent, Tick, Got.
-/
import Derived.Test.YtendndokgpppiaaOSpec
import Derived.Test.YtendndokgpppiaaOBody
import Derived.Test.YtendndokgpppiaaGSet
namespace Go.Proofs.Ytendndokgpppiaa.Pi
open Go.RowKit

def heC (h : He) : Array Value := #[.int .i64 (h.every : Int), .int .i64 (h.wait : Int), .int .i64 (h.left : Int), .int .i64 (h.sent : Int), .bool h.waits]
/-- A Health as a thing. -/
abbrev heT (g : Nat) (h : He) : Thing := recT g (heC h) 92
/-- A Health lies there. -/
def Hl (w : World) (g : Nat) (h : He) : Prop := w.heap[g]? = some (.cells (heC h) 92 (0, 0))
theorem Hl.cells {w : World} {g : Nat} {h : He} (H : Hl w g h) : w.cell? ⟨g, 0, none⟩ = some (.int .i64 (h.every : Int)) ∧ w.cell? ⟨g, 1, none⟩ = some (.int .i64 (h.wait : Int)) ∧ w.cell? ⟨g, 2, none⟩ = some (.int .i64 (h.left : Int)) ∧ w.cell? ⟨g, 3, none⟩ = some (.int .i64 (h.sent : Int)) ∧ w.cell? ⟨g, 4, none⟩ = some (.bool h.waits) ∧ ∀ n, w.frozen? ⟨g, n, none⟩ = false := by
  unfold Hl heC at H
  refine ⟨?_, ?_, ?_, ?_, ?_, fun n => ?_⟩ <;> simp [World.cell?, World.frozen?, H]
attribute [local irreducible] nums str bodyB

theorem new_no (a b : Int) (w : World) (h : a < 1 ∨ b < 1) : Calls Try.prog 31 #[.int .i64 a, .int .i64 b] w fun e w' => e = .returned (.pointer none) ∧ w = w' := by
  by_cases h1 : a < 1
  · clear h
    go_enter Try.func31, Try.ntmps31
    go_wp2
    go_ret
    exact ⟨rfl, rfl⟩
  · have h2 : b < 1 := by omega
    have h3 : 1 ≤ a := by omega
    clear h h1
    go_enter Try.func31, Try.ntmps31
    go_wp2
    go_ret
    exact ⟨rfl, rfl⟩
theorem new_ok (a b : Nat) (w : World) (h1 : 1 ≤ a) (h2 : 1 ≤ b) : Calls Try.prog 31 #[.int .i64 (a : Int), .int .i64 (b : Int)] w fun e w' => e = .returned (.pointer (some ⟨w.heap.size, 0, none⟩)) ∧ Keeps nobody w w' ∧ Hl w' w.heap.size (newH a b) := by
  go_enter Try.func31, Try.ntmps31
  go_wp2
  go_ret
  exact ⟨rfl, keeps_alloc _ _, heap_alloc_new w _⟩
theorem made_nil (w : World) : Calls Try.prog 58 #[.pointer none] w fun e w' => e = .returned (.bool false) ∧ w = w' := by
  go_enter Try.func58, Try.ntmps58
  go_wp2
  go_ret
  exact ⟨rfl, rfl⟩
theorem made_ok {w : World} {g : Nat} {h : He} (H : Hl w g h) (h1 : 1 ≤ h.every) : Calls Try.prog 58 #[.pointer (some ⟨g, 0, none⟩)] w fun e w' => e = .returned (.bool true) ∧ w = w' := by
  obtain ⟨c0, _⟩ := H.cells
  have hm : ((h.every : Int) != 0) = true := by simp; omega
  clear H
  go_enter Try.func58, Try.ntmps58
  go_wp2
  go_ret
  exact ⟨rfl, rfl⟩
theorem tick_nil (w : World) : Calls Try.prog 46 #[.pointer none] w fun e w' => e = .returned (.tuple #[.string ⟨#[]⟩, .bool false]) ∧ w = w' := by
  have HM : Hid (∀ W, Calls Try.prog 58 #[.pointer none] W fun e w' => e = .returned (.bool false) ∧ W = w') := made_nil
  go_enter Try.func46, Try.ntmps46
  go_wp2_with fail
  refine Calls.mono (HM.out _) ?_
  rintro e w1 ⟨rfl, rfl⟩
  go_wp2
  exact bodyPost_ret (v := .tuple #[.string ⟨#[]⟩, .bool false]) (by simp [results, Try.results46, go_sem]) rfl ⟨rfl, rfl⟩
end Go.Proofs.Ytendndokgpppiaa.Pi
