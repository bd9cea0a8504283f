/-
  A box of cells: one of them is written.
-/
import Derived.Test.YtendndokgpppiaaGRec
namespace Go.Proofs.Ytendndokgpppiaa
open Go.RowKit

theorem rec_set {w : World} {g : Nat} {cs : Array Value} {T : TypeId} (h : w.heap[g]? = some (.cells cs T (0, 0))) (i : Nat) (u : Value) : Did (recT g cs T) (recT g (cs.setIfInBounds i u) T) w (w.setCell ⟨g, i, none⟩ u) := by
  refine ⟨recT_ok, ?_, (Keeps.refl (fun k => k = g) w).setCell (p := ⟨g, i, none⟩) (.inl rfl) u, fun _ e => .inl e⟩
  show (w.setCell ⟨g, i, none⟩ u).heap[g]? = _
  simp [World.setCell, h, Array.getElem?_modify]
/-- One cell more is written. -/
theorem Did.set {t : Thing} {w w' : World} {g : Nat} {cs : Array Value} {T : TypeId} (h : Did t (recT g cs T) w w') (i : Nat) (u : Value) : Did t (recT g (cs.setIfInBounds i u) T) w (w'.setCell ⟨g, i, none⟩ u) := h.trans (rec_set h.inv i u)
theorem did_rec {w : World} {g : Nat} {cs : Array Value} {T : TypeId} (h : w.heap[g]? = some (.cells cs T (0, 0))) : Did (recT g cs T) (recT g cs T) w w := Did.same recT_ok h
end Go.Proofs.Ytendndokgpppiaa
