/-
  Package prefs: Mine.
-/
import Derived.Test.YtendndokgpppiaaZPut
namespace Go.Proofs.Ytendndokgpppiaa.Pf
open Go.RowKit
attribute [local irreducible] numL nums str sixes putP

/-- Settings of a new block lie there. -/
theorem plies_new (w : World) (l : List Pf) (t : TypeId) (cs : Array Value) (h : cs.toList = pcells l) : PLies (w.alloc (.cells cs t)) (some ⟨w.heap.size, 0, none⟩) l (fun _ => False) := by
  refine .inr ⟨w.heap.size, 0, rfl, by simp, id, fun i f hi => ?_⟩
  have hn := heap_alloc_new w (.cells cs t)
  have h0 := pcells_at0 l i f hi
  have h1 := pcells_at1 l i f hi
  rw [← h] at h0 h1
  rw [Array.getElem?_toList] at h0 h1
  unfold World.cell?
  simp only [hn, Nat.zero_add]
  exact ⟨h0, h1⟩
def mineL (window : Int) : List Pf := [(2, 0), (4, window), (6, 600)]
theorem mine_in (window : Int) (h : 1 ≤ window ∧ window ≤ 65535) : allIn (mineL window) := by
  intro p hp
  simp [mineL] at hp
  rcases hp with rfl | rfl | rfl
  · decide
  · exact ⟨by simp, by simp; omega⟩
  · decide
set_option maxRecDepth 100000 in
theorem mine_ok (window : Int) (w : World) : Calls Try.prog 29 #[.int .i64 window] w fun e w' => e = .returned (.tuple #[.string (if 1 ≤ window ∧ window ≤ 65535 then putP (mineL window) else ⟨#[]⟩), .bool (decide (1 ≤ window ∧ window ≤ 65535))]) ∧ Keeps nobody w w' := by
  have HW : Hid (∀ n a b w, Calls Try.prog 48 #[.int .i64 n, .int .i64 a, .int .i64 b] w fun e w' => e = .returned (.bool (decide (a ≤ n ∧ n ≤ b))) ∧ w = w') := pwithin_ok
  by_cases h : 1 ≤ window ∧ window ≤ 65535
  · rw [if_pos h, decide_eq_true h]
    have HP : Hid (∀ w : World, Calls Try.prog 49 #[.slice (some ⟨w.heap.size, 0, none⟩) 3 3] (w.alloc (.cells #[.int .i64 2, .int .i64 0, .int .i64 4, .int .i64 window, .int .i64 6, .int .i64 600] 88)) fun e w' => e = .returned (.tuple #[.string (putP (mineL window)), .bool true]) ∧ Keeps nobody (w.alloc (.cells #[.int .i64 2, .int .i64 0, .int .i64 4, .int .i64 window, .int .i64 6, .int .i64 600] 88)) w') := fun w => by
      have := put_ok 3 (plies_new w (mineL window) 88 #[.int .i64 2, .int .i64 0, .int .i64 4, .int .i64 window, .int .i64 6, .int .i64 600] rfl) (by simp [mineL])
      rw [decide_eq_true (mine_in window h)] at this
      exact this
    have HD : Hid (decide (1 ≤ window ∧ window ≤ 65535) = true) := decide_eq_true h
    generalize putP (mineL window) = P at *
    clear h
    go_enter Try.func29, Try.ntmps29
    go_wp2_with fail
    refine Calls.mono (HW.out _ _ _ _) ?_
    rintro e w1 ⟨rfl, rfl⟩
    rw [HD.out]
    go_wp2_with fail
    refine Calls.mono (HP.out _) ?_
    rintro e w1 ⟨rfl, k1⟩
    go_wp2
    go_ret2
    exact ⟨rfl, (keeps_alloc _ _).then k1⟩
  · rw [if_neg h, decide_eq_false h]
    have HD : Hid (decide (1 ≤ window ∧ window ≤ 65535) = false) := decide_eq_false h
    clear h
    go_enter Try.func29, Try.ntmps29
    go_wp2_with fail
    refine Calls.mono (HW.out _ _ _ _) ?_
    rintro e w1 ⟨rfl, rfl⟩
    rw [HD.out]
    go_wp2
    go_ret2
    exact ⟨rfl, Keeps.refl _ _⟩
theorem mine_size (window : Int) (h : 1 ≤ window ∧ window ≤ 65535) : (putP (mineL window)).size = 18 := by
  unfold putP
  rw [if_pos (mine_in window h), str_size, sixes_length]
  rfl
end Go.Proofs.Ytendndokgpppiaa.Pf
