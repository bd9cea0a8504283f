/-
  Package ids: an Ids in memory; right, New, made, Left, Next, Kind.
-/
import Derived.Test.YtendndokgpppiaaASpec
import Derived.Test.YtendndokgpppiaaGSet
namespace Go.Proofs.Ytendndokgpppiaa.Id
open Go.RowKit

def idC (x : Idd) : Array Value := #[.int .i64 x.first, .int .i64 x.last]
/-- An Ids as a thing. -/
abbrev idT (g : Nat) (x : Idd) : Thing := recT g (idC x) 90
/-- An Ids lies there. -/
def Il (w : World) (g : Nat) (x : Idd) : Prop := w.heap[g]? = some (.cells (idC x) 90 (0, 0))
theorem Il.cells {w : World} {g : Nat} {x : Idd} (H : Il w g x) : w.cell? ⟨g, 0, none⟩ = some (.int .i64 x.first) ∧ w.cell? ⟨g, 1, none⟩ = some (.int .i64 x.last) ∧ ∀ n, w.frozen? ⟨g, n, none⟩ = false := by
  unfold Il idC at H
  refine ⟨?_, ?_, fun n => ?_⟩ <;> simp [World.cell?, World.frozen?, H]

theorem right_ok (x : Int) (w : World) : Calls Try.prog 50 #[.int .i64 x] w fun e w' => e = .returned (.bool (rightB x)) ∧ w = w' := by
  by_cases h1 : 1 ≤ x
  · by_cases h2 : x ≤ 2147483647
    · have hr := rem_two (show 0 ≤ x by omega)
      by_cases h3 : x % 2 = 1
      · have e : rightB x = true := (right_iff x).2 ⟨h1, h2, h3⟩
        rw [e]
        rw [h3] at hr
        clear h3 e
        go_enter Try.func50, Try.ntmps50
        go_wp2
        go_ret
        exact ⟨rfl, rfl⟩
      · have e : rightB x = false := (right_off x).2 fun h => h3 h.2.2
        rw [e]
        rw [show x % 2 = 0 by omega] at hr
        clear h3 e
        go_enter Try.func50, Try.ntmps50
        go_wp2
        go_ret
        exact ⟨rfl, rfl⟩
    · have e : rightB x = false := (right_off x).2 fun h => h2 h.2.1
      rw [e]
      clear e
      go_enter Try.func50, Try.ntmps50
      go_wp2
      go_ret
      exact ⟨rfl, rfl⟩
  · have e : rightB x = false := (right_off x).2 fun h => h1 h.1
    rw [e]
    clear e
    go_enter Try.func50, Try.ntmps50
    go_wp2
    go_ret
    exact ⟨rfl, rfl⟩
theorem new_no (x : Int) (w : World) (h : rightB x = false) : Calls Try.prog 30 #[.int .i64 x] w fun e w' => e = .returned (.pointer none) ∧ w = w' := by
  have HR : Hid (∀ W, Calls Try.prog 50 #[.int .i64 x] W fun e w' => e = .returned (.bool false) ∧ W = w') := by
    rw [← h]; exact right_ok x
  clear h
  go_enter Try.func30, Try.ntmps30
  go_wp2_with fail
  refine Calls.mono (HR.out _) ?_
  rintro e w1 ⟨rfl, rfl⟩
  go_wp2
  go_ret
  exact ⟨rfl, rfl⟩
theorem new_ok (x : Int) (w : World) (h : rightB x = true) : Calls Try.prog 30 #[.int .i64 x] w fun e w' => e = .returned (.pointer (some ⟨w.heap.size, 0, none⟩)) ∧ Keeps nobody w w' ∧ Il w' w.heap.size (newI x) := by
  have HR : Hid (∀ W, Calls Try.prog 50 #[.int .i64 x] W fun e w' => e = .returned (.bool true) ∧ W = w') := by
    rw [← h]; exact right_ok x
  obtain ⟨h1, h2, _⟩ := (right_iff x).1 h
  clear h
  go_enter Try.func30, Try.ntmps30
  go_wp2_with fail
  refine Calls.mono (HR.out _) ?_
  rintro e w1 ⟨rfl, rfl⟩
  go_wp2
  go_ret
  exact ⟨rfl, keeps_alloc _ _, heap_alloc_new w _⟩
theorem made_nil (w : World) : Calls Try.prog 64 #[.pointer none] w fun e w' => e = .returned (.bool false) ∧ w = w' := by
  go_enter Try.func64, Try.ntmps64
  go_wp2
  go_ret
  exact ⟨rfl, rfl⟩
theorem made_ok {w : World} {g : Nat} {x : Idd} (H : Il w g x) (h1 : 1 ≤ x.first) : Calls Try.prog 64 #[.pointer (some ⟨g, 0, none⟩)] w fun e w' => e = .returned (.bool true) ∧ w = w' := by
  obtain ⟨c0, _⟩ := H.cells
  have hm : (x.first != 0) = true := by simp; omega
  clear H
  go_enter Try.func64, Try.ntmps64
  go_wp2
  go_ret
  exact ⟨rfl, rfl⟩
theorem left_nil (w : World) : Calls Try.prog 57 #[.pointer none] w fun e w' => e = .returned (.bool false) ∧ w = w' := by
  have HM : Hid (∀ W, Calls Try.prog 64 #[.pointer none] W fun e w' => e = .returned (.bool false) ∧ W = w') := made_nil
  go_enter Try.func57, Try.ntmps57
  go_wp2_with fail
  refine Calls.mono (HM.out _) ?_
  rintro e w1 ⟨rfl, rfl⟩
  go_wp2
  go_ret
  exact ⟨rfl, rfl⟩
theorem left_ok {w : World} {g : Nat} {x : Idd} (H : Il w g x) (h1 : 1 ≤ x.first) : Calls Try.prog 57 #[.pointer (some ⟨g, 0, none⟩)] w fun e w' => e = .returned (.bool (leftI x)) ∧ w = w' := by
  have HM : Hid (Calls Try.prog 64 #[.pointer (some ⟨g, 0, none⟩)] w fun e w' => e = .returned (.bool true) ∧ w = w') := made_ok H h1
  obtain ⟨_, c1, _⟩ := H.cells
  obtain ⟨first, last⟩ := x
  simp only at c1 h1
  clear H
  show Calls _ _ _ _ fun e w' => e = .returned (.bool (decide (last ≤ 2147483645))) ∧ w = w'
  go_enter Try.func57, Try.ntmps57
  go_wp2_with fail
  refine Calls.mono HM.out ?_
  rintro e w1 ⟨rfl, rfl⟩
  go_wp2
  go_ret
  exact ⟨rfl, rfl⟩
end Go.Proofs.Ytendndokgpppiaa.Id
