/-
  Package table: the small functions.
-/
import Derived.Test.YtlfkomdkimphnaaDoorTMem
namespace Go.Proofs.YtlfkomdkimphnaaDoor
open Go.RowKit

theorem isSize_yes (n : Int) (w : World) (h : 0 ≤ n ∧ n ≤ 512) : Calls Tryd.prog 28 #[.int .i64 n] w fun e w' => e = .returned (.bool true) ∧ w = w' := by
  obtain ⟨h1, h2⟩ := h
  go_enter Tryd.func28, Tryd.ntmps28
  go_wp2
  go_ret
  exact ⟨rfl, rfl⟩
theorem isSize_no (n : Int) (w : World) (h : ¬ (0 ≤ n ∧ n ≤ 512)) : Calls Tryd.prog 28 #[.int .i64 n] w fun e w' => e = .returned (.bool false) ∧ w = w' := by
  by_cases h1 : 0 ≤ n
  · have h2 : ¬ n ≤ 512 := fun h2 => h ⟨h1, h2⟩
    go_enter Tryd.func28, Tryd.ntmps28
    go_wp2
    go_ret
    exact ⟨rfl, rfl⟩
  · go_enter Tryd.func28, Tryd.ntmps28
    go_wp2
    go_ret
    exact ⟨rfl, rfl⟩
theorem new_no (n : Int) (w : World) (h : ¬ (0 ≤ n ∧ n ≤ 512)) : Calls Tryd.prog 10 #[.int .i64 n] w fun e w' => e = .returned (.pointer none) ∧ w = w' := by
  have hI : Hid (∀ w, Calls Tryd.prog 28 #[.int .i64 n] w fun e w' => e = .returned (.bool false) ∧ w = w') := fun w => isSize_no n w h
  clear h
  go_enter Tryd.func10, Tryd.ntmps10
  go_wp2_with fail
  refine Calls.mono (hI.out _) ?_
  rintro e w1 ⟨rfl, rfl⟩
  go_wp2
  go_ret
  exact ⟨rfl, rfl⟩
theorem new_ok (n : Nat) (w : World) (h : n ≤ 512) : Calls Tryd.prog 10 #[.int .i64 (n : Int)] w fun e w' => e = .returned (.pointer (some ⟨w.heap.size, 0, none⟩)) ∧ w' = w.alloc (.cells #[.bool true, .int .i64 (n : Int), .slice none 0 0] 61) := by
  have hI : Hid (∀ w, Calls Tryd.prog 28 #[.int .i64 (n : Int)] w fun e w' => e = .returned (.bool true) ∧ w = w') := fun w => isSize_yes n w (by omega)
  clear h
  go_enter Tryd.func10, Tryd.ntmps10
  go_wp2_with fail
  refine Calls.mono (hI.out _) ?_
  rintro e w1 ⟨rfl, rfl⟩
  go_wp2
  go_ret
  exact ⟨rfl, rfl⟩
theorem cost_ok (f : Fld) (w : World) (h : f.1.size + f.2.size ≤ 2000) : Calls Tryd.prog 25 #[fval f] w fun e w' => e = .returned (.int .i64 (cost f : Int)) ∧ w' = w.alloc (.cells #[.string f.1, .string f.2] 28) := by
  obtain ⟨a, b⟩ := f
  simp only at h
  have h1 : a.size ≤ 2000 := by omega
  have h2 : b.size ≤ 2000 := by omega
  unfold fval cost
  simp only
  go_enter Tryd.func25, Tryd.ntmps25
  go_wp2
  go_ret
  exact ⟨by simp, rfl⟩
theorem list_nil (w : World) : Calls Tryd.prog 31 #[.pointer none] w fun e w' => e = .returned (.slice none 0 0) ∧ w = w' := by
  go_enter Tryd.func31, Tryd.ntmps31
  go_wp2
  go_ret
  exact ⟨rfl, rfl⟩
theorem list_ok {w : World} {g : Nat} {v : Value} {size : Nat} {l : List Fld} (h : Tab w g v size l) : Calls Tryd.prog 31 #[.pointer (some ⟨g, 0, none⟩)] w fun e w' => e = .returned v ∧ w = w' := by
  obtain ⟨h0, h1, h2, h3⟩ := h.cells
  have hlt := h.lt
  clear h
  go_enter Tryd.func31, Tryd.ntmps31
  go_wp2
  go_ret
  exact ⟨rfl, rfl⟩
theorem size_nil (w : World) : Calls Tryd.prog 14 #[.pointer none] w fun e w' => e = .returned (.int .i64 0) ∧ w = w' := by
  go_enter Tryd.func14, Tryd.ntmps14
  go_wp2
  go_ret
  exact ⟨rfl, rfl⟩
theorem size_ok {w : World} {g : Nat} {v : Value} {size : Nat} {l : List Fld} (h : Tab w g v size l) : Calls Tryd.prog 14 #[.pointer (some ⟨g, 0, none⟩)] w fun e w' => e = .returned (.int .i64 (size : Int)) ∧ w = w' := by
  obtain ⟨h0, h1, h2, h3⟩ := h.cells
  have hlt := h.lt
  clear h
  go_enter Tryd.func14, Tryd.ntmps14
  go_wp2
  go_ret
  exact ⟨rfl, rfl⟩
end Go.Proofs.YtlfkomdkimphnaaDoor
