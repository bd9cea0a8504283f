/-
  Package ping: a Health in memory; New, made, Waits, Sent, Tick, Got.
-/
import Derived.Test.YtfgbijhmhanpeaaOSpec
import Derived.Test.YtfgbijhmhanpeaaOBody
import Derived.Test.YtfgbijhmhanpeaaGRec
namespace Go.Proofs.Ytfgbijhmhanpeaa
open Go.RowKit

def heC (h : He) : Array Value := #[.int .i64 (h.every : Int), .int .i64 (h.wait : Int), .int .i64 (h.left : Int), .int .i64 (h.sent : Int), .bool h.waits]
/-- A Health as a thing. -/
abbrev heT (g : Nat) (h : He) : Thing := recT g (heC h) 42
/-- A Health lies there. -/
def Hl (w : World) (g : Nat) (h : He) : Prop := w.heap[g]? = some (.cells (heC h) 42 (0, 0))
theorem rec_set {w : World} {g : Nat} {cs : Array Value} {T : TypeId} (h : w.heap[g]? = some (.cells cs T (0, 0))) (i : Nat) (u : Value) : Did (recT g cs T) (recT g (cs.setIfInBounds i u) T) w (w.setCell ⟨g, i, none⟩ u) := by
  refine ⟨recT_ok, ?_, (Keeps.refl (fun k => k = g) w).setCell (p := ⟨g, i, none⟩) (.inl rfl) u, fun _ e => .inl e⟩
  show (w.setCell ⟨g, i, none⟩ u).heap[g]? = _
  simp [World.setCell, h, Array.getElem?_modify]
/-- One cell more is written. -/
theorem Did.set {t : Thing} {w w' : World} {g : Nat} {cs : Array Value} {T : TypeId} (h : Did t (recT g cs T) w w') (i : Nat) (u : Value) : Did t (recT g (cs.setIfInBounds i u) T) w (w'.setCell ⟨g, i, none⟩ u) := h.trans (rec_set h.inv i u)
theorem did_rec {w : World} {g : Nat} {cs : Array Value} {T : TypeId} (h : w.heap[g]? = some (.cells cs T (0, 0))) : Did (recT g cs T) (recT g cs T) w w := Did.same recT_ok h
theorem Hl.cells {w : World} {g : Nat} {h : He} (H : Hl w g h) : w.cell? ⟨g, 0, none⟩ = some (.int .i64 (h.every : Int)) ∧ w.cell? ⟨g, 1, none⟩ = some (.int .i64 (h.wait : Int)) ∧ w.cell? ⟨g, 2, none⟩ = some (.int .i64 (h.left : Int)) ∧ w.cell? ⟨g, 3, none⟩ = some (.int .i64 (h.sent : Int)) ∧ w.cell? ⟨g, 4, none⟩ = some (.bool h.waits) ∧ ∀ n, w.frozen? ⟨g, n, none⟩ = false := by
  unfold Hl heC at H
  refine ⟨?_, ?_, ?_, ?_, ?_, fun n => ?_⟩ <;> simp [World.cell?, World.frozen?, H]
attribute [local irreducible] nums str bodyB

theorem new_no (a b : Int) (w : World) (h : a < 1 ∨ b < 1) : Calls Try.prog 9 #[.int .i64 a, .int .i64 b] w fun e w' => e = .returned (.pointer none) ∧ w = w' := by
  by_cases h1 : a < 1
  · clear h
    go_enter Try.func9, Try.ntmps9
    go_wp2
    go_ret
    exact ⟨rfl, rfl⟩
  · have h2 : b < 1 := by omega
    have h3 : 1 ≤ a := by omega
    clear h h1
    go_enter Try.func9, Try.ntmps9
    go_wp2
    go_ret
    exact ⟨rfl, rfl⟩
theorem new_ok (a b : Nat) (w : World) (h1 : 1 ≤ a) (h2 : 1 ≤ b) : Calls Try.prog 9 #[.int .i64 (a : Int), .int .i64 (b : Int)] w fun e w' => e = .returned (.pointer (some ⟨w.heap.size, 0, none⟩)) ∧ Keeps nobody w w' ∧ Hl w' w.heap.size (newH a b) := by
  go_enter Try.func9, Try.ntmps9
  go_wp2
  go_ret
  exact ⟨rfl, keeps_alloc _ _, heap_alloc_new w _⟩
theorem made_nil (w : World) : Calls Try.prog 17 #[.pointer none] w fun e w' => e = .returned (.bool false) ∧ w = w' := by
  go_enter Try.func17, Try.ntmps17
  go_wp2
  go_ret
  exact ⟨rfl, rfl⟩
theorem made_ok {w : World} {g : Nat} {h : He} (H : Hl w g h) (h1 : 1 ≤ h.every) : Calls Try.prog 17 #[.pointer (some ⟨g, 0, none⟩)] w fun e w' => e = .returned (.bool true) ∧ w = w' := by
  obtain ⟨c0, _⟩ := H.cells
  have hm : ((h.every : Int) != 0) = true := by simp; omega
  clear H
  go_enter Try.func17, Try.ntmps17
  go_wp2
  go_ret
  exact ⟨rfl, rfl⟩
theorem waits_nil (w : World) : Calls Try.prog 12 #[.pointer none] w fun e w' => e = .returned (.bool false) ∧ w = w' := by
  have HM : Hid (∀ W, Calls Try.prog 17 #[.pointer none] W fun e w' => e = .returned (.bool false) ∧ W = w') := made_nil
  go_enter Try.func12, Try.ntmps12
  go_wp2_with fail
  refine Calls.mono (HM.out _) ?_
  rintro e w1 ⟨rfl, rfl⟩
  go_wp2
  go_ret
  exact ⟨rfl, rfl⟩
theorem waits_ok {w : World} {g : Nat} {h : He} (H : Hl w g h) (h1 : 1 ≤ h.every) : Calls Try.prog 12 #[.pointer (some ⟨g, 0, none⟩)] w fun e w' => e = .returned (.bool h.waits) ∧ w = w' := by
  have HM : Hid (Calls Try.prog 17 #[.pointer (some ⟨g, 0, none⟩)] w fun e w' => e = .returned (.bool true) ∧ w = w') := made_ok H h1
  obtain ⟨_, _, _, _, c4, _⟩ := H.cells
  clear H
  go_enter Try.func12, Try.ntmps12
  go_wp2_with fail
  refine Calls.mono HM.out ?_
  rintro e w1 ⟨rfl, rfl⟩
  go_wp2
  go_ret
  exact ⟨rfl, rfl⟩
theorem sent_nil (w : World) : Calls Try.prog 13 #[.pointer none] w fun e w' => e = .returned (.int .i64 0) ∧ w = w' := by
  have HM : Hid (∀ W, Calls Try.prog 17 #[.pointer none] W fun e w' => e = .returned (.bool false) ∧ W = w') := made_nil
  go_enter Try.func13, Try.ntmps13
  go_wp2_with fail
  refine Calls.mono (HM.out _) ?_
  rintro e w1 ⟨rfl, rfl⟩
  go_wp2
  go_ret
  exact ⟨rfl, rfl⟩
theorem sent_ok {w : World} {g : Nat} {h : He} (H : Hl w g h) (h1 : 1 ≤ h.every) : Calls Try.prog 13 #[.pointer (some ⟨g, 0, none⟩)] w fun e w' => e = .returned (.int .i64 (h.sent : Int)) ∧ w = w' := by
  have HM : Hid (Calls Try.prog 17 #[.pointer (some ⟨g, 0, none⟩)] w fun e w' => e = .returned (.bool true) ∧ w = w') := made_ok H h1
  obtain ⟨_, _, _, c3, _, _⟩ := H.cells
  clear H
  go_enter Try.func13, Try.ntmps13
  go_wp2_with fail
  refine Calls.mono HM.out ?_
  rintro e w1 ⟨rfl, rfl⟩
  go_wp2
  go_ret
  exact ⟨rfl, rfl⟩
theorem tick_nil (w : World) : Calls Try.prog 10 #[.pointer none] w fun e w' => e = .returned (.tuple #[.string ⟨#[]⟩, .bool false]) ∧ w = w' := by
  have HM : Hid (∀ W, Calls Try.prog 17 #[.pointer none] W fun e w' => e = .returned (.bool false) ∧ W = w') := made_nil
  go_enter Try.func10, Try.ntmps10
  go_wp2_with fail
  refine Calls.mono (HM.out _) ?_
  rintro e w1 ⟨rfl, rfl⟩
  go_wp2
  exact bodyPost_ret (v := .tuple #[.string ⟨#[]⟩, .bool false]) (by simp [results, Try.results10, go_sem]) rfl ⟨rfl, rfl⟩
theorem got_nil (b : ByteArray) (w : World) : Calls Try.prog 11 #[.pointer none, .string b] w fun e w' => e = .returned (.bool false) ∧ w = w' := by
  have HM : Hid (∀ W, Calls Try.prog 12 #[.pointer none] W fun e w' => e = .returned (.bool false) ∧ W = w') := waits_nil
  go_enter Try.func11, Try.ntmps11
  go_wp2_with fail
  refine Calls.mono (HM.out _) ?_
  rintro e w1 ⟨rfl, rfl⟩
  go_wp2
  go_ret
  exact ⟨rfl, rfl⟩
end Go.Proofs.Ytfgbijhmhanpeaa
