/-
  Package table: Resize.
-/
import Derived.Test.YtlfkomdkimphnaaDoorTAlive
namespace Go.Proofs.YtlfkomdkimphnaaDoor
open Go.RowKit

theorem Tab.resize {w : World} {g : Nat} {v : Value} {size : Nat} {l : List Fld} (h : Tab w g v size l) (n : Nat) (hn : n ≤ 512) : Tab (w.setCell ⟨g, 1, none⟩ (.int .i64 (n : Int))) g v n l := by
  refine ⟨?_, ?_, h.fits, hn⟩
  · simp [World.setCell, h.blk, Array.getElem?_modify]
  · refine ⟨h.row.1, ?_⟩
    rcases h.row.2 with hn' | ⟨rb, cap, cur, rfl, h1, h2, h3⟩
    · exact .inl hn'
    · refine .inr ⟨rb, cap, cur, rfl, h1, ?_, h3⟩
      rw [Below.heap_setCell _ _ _ _ ?_]
      · exact h2
      · intro e
        simp only at e
        subst e
        exact h.apart rfl

theorem resize_nil (n : Int) (w : World) : Calls Tryd.prog 13 #[.pointer none, .int .i64 n] w fun e w' => e = .returned (.bool false) ∧ w = w' := by
  go_enter Tryd.func13, Tryd.ntmps13
  go_wp2
  go_ret
  exact ⟨rfl, rfl⟩
theorem resize_no {w : World} {g : Nat} {v : Value} {size : Nat} {l : List Fld} (h : Tab w g v size l) (n : Int) (hn : ¬ (0 ≤ n ∧ n ≤ 512)) : Calls Tryd.prog 13 #[.pointer (some ⟨g, 0, none⟩), .int .i64 n] w fun e w' => e = .returned (.bool false) ∧ w = w' := by
  have hI : Hid (∀ w, Calls Tryd.prog 28 #[.int .i64 n] w fun e w' => e = .returned (.bool false) ∧ w = w') := fun w => isSize_no n w hn
  obtain ⟨h0, h1, h2, h3⟩ := h.cells
  have hlt := h.lt
  clear h hn
  go_enter Tryd.func13, Tryd.ntmps13
  go_wp2_with fail
  refine Calls.mono (hI.out _) ?_
  rintro e w1 ⟨rfl, rfl⟩
  go_wp2
  go_ret
  exact ⟨rfl, rfl⟩
set_option maxRecDepth 100000 in
theorem resize_ok {w : World} {g : Nat} {v : Value} {size : Nat} {l : List Fld} (h : Tab w g v size l) (n : Nat) (hn : n ≤ 512) : Calls Tryd.prog 13 #[.pointer (some ⟨g, 0, none⟩), .int .i64 (n : Int)] w fun e w' => e = .returned (.bool true) ∧ Acted g v n (keep n l) w w' := by
  have hI : Hid (∀ w, Calls Tryd.prog 28 #[.int .i64 (n : Int)] w fun e w' => e = .returned (.bool true) ∧ w = w') := fun w => isSize_yes n w (by omega)
  have hS : Hid (Calls Tryd.prog 29 #[.pointer (some ⟨g, 0, none⟩), .int .i64 (n : Int)] (w.setCell ⟨g, 1, none⟩ (.int .i64 (n : Int))) fun e w' => e = .returned (.tuple #[]) ∧ Hid (Acted g v n (keep n l) w w')) := by
    refine Calls.mono (shrink_ok (h.resize n hn) (n : Int) (by omega)) ?_
    rintro e w' ⟨rfl, v', t1, t2, t3⟩
    refine ⟨rfl, v', t1, ?_, fun k hk => by simpa [World.setCell] using t3 k hk⟩
    exact ((Keeps.refl (tfoot g v) w).setCell (p := ⟨g, 1, none⟩) (.inl (.inl rfl)) _).trans t2 fun _ _ h => h
  obtain ⟨h0, h1, h2, h3⟩ := h.cells
  have hlt := h.lt
  clear h
  go_enter Tryd.func13, Tryd.ntmps13
  go_wp2_with fail
  refine Calls.mono (hI.out _) ?_
  rintro e w1 ⟨rfl, rfl⟩
  go_wp2_with fail
  refine Calls.mono hS.out ?_
  rintro e w1 ⟨rfl, H1⟩
  clear h0 h1 h2 h3
  go_wp2
  go_ret
  exact ⟨rfl, H1.out⟩
theorem g_resize {W w : World} {g : Nat} {v : Value} {size : Nat} {l : List Fld} (h : Good W w g v size l) (n : Nat) (hn : n ≤ 512) : Calls Tryd.prog 13 #[.pointer (some ⟨g, 0, none⟩), .int .i64 (n : Int)] w fun e w' => e = .returned (.bool true) ∧ ∃ v', Good W w' g v' n (keep n l) ∧ Keeps (tfoot g v) w w' ∧ ∀ k, tfoot g v' k → tfoot g v k ∨ w.heap.size ≤ k := by
  refine (resize_ok h.tab n hn).mono ?_
  rintro _ w' ⟨he, v', t, k, fo⟩
  refine ⟨he, v', ⟨k.below h.below h.new h.below.size, t, fun n hn => ?_⟩, k, fo⟩
  rcases fo n hn with h1 | h1
  · exact h.new n h1
  · exact Nat.le_trans h.below.size h1
end Go.Proofs.YtlfkomdkimphnaaDoor
