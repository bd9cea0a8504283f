/-
  A struct's box (or a variable's), whatever its cells, as a thing.
-/
import Derived.Test.YtendndokgpppiaaGThing
namespace Go.Proofs.Ytendndokgpppiaa
open Go.RowKit

/-- These cells lie there, and may be written. -/
def recT (g : Nat) (cs : Array Value) (T : TypeId) : Thing := ⟨fun k => k = g, fun w => w.heap[g]? = some (.cells cs T (0, 0))⟩
section
variable {W w : World} {g : Nat} {cs : Array Value} {T : TypeId} {ts a b : List Thing} {t : Thing}
theorem recT_ok : (recT g cs T).Ok := ⟨fun {S w w'} h hk hS => by
    have h' : w.heap[g]? = some (.cells cs T (0, 0)) := h
    show w'.heap[g]? = _
    rw [hk.block g (Array.getElem?_eq_some_iff.1 h').1 (hS g rfl)]
    exact h', fun {w} h k hk => by
    have h' : w.heap[g]? = some (.cells cs T (0, 0)) := h
    have hk' : k = g := hk
    rw [hk']
    exact (Array.getElem?_eq_some_iff.1 h').1⟩
theorem Hold.cellsOf (h : Hold W w ts) (hm : recT g cs T ∈ ts) : (∀ n, w.cell? ⟨g, n, none⟩ = cs[n]?) ∧ (∀ n, w.frozen? ⟨g, n, none⟩ = false) ∧ g < w.heap.size := by
  have h' : w.heap[g]? = some (.cells cs T (0, 0)) := h.inv _ hm
  exact ⟨fun n => by simp [World.cell?, h'], fun n => by simp [World.frozen?, h'], (Array.getElem?_eq_some_iff.1 h').1⟩
theorem Hold.newrec (h : Hold W w ts) (cs : Array Value) (T : TypeId) : Hold W (w.alloc (.cells cs T)) (recT w.heap.size cs T :: ts) := h.add (keeps_alloc _ _) recT_ok (heap_alloc_new w _) fun k e => by
  have e' : k = w.heap.size := e
  omega
theorem Hold.newrec2 (h : Hold W w (t :: ts)) (cs : Array Value) (T : TypeId) : Hold W (w.alloc (.cells cs T)) (t :: recT w.heap.size cs T :: ts) := (h.newrec cs T).swap
theorem Hold.recset (h : Hold W w (a ++ recT g cs T :: b)) (i : Nat) (u : Value) : Hold W (w.setCell ⟨g, i, none⟩ u) (a ++ recT g (cs.setIfInBounds i u) T :: b) := by
  have h' : w.heap[g]? = some (.cells cs T (0, 0)) := h.inv (recT g cs T) (by simp)
  refine h.act ⟨recT_ok, ?_, (Keeps.refl (fun k => k = g) w).setCell (p := ⟨g, i, none⟩) (.inl rfl) u, fun _ e => .inl e⟩
  show (w.setCell ⟨g, i, none⟩ u).heap[g]? = _
  simp [World.setCell, h', Array.getElem?_modify]
end
end Go.Proofs.Ytendndokgpppiaa
