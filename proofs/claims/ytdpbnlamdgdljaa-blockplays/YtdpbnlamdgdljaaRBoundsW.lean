/-
  The law FrameBounds as a walk.
-/
import Derived.Test.YtdpbnlamdgdljaaRAlive
import Derived.Test.YtdpbnlamdgdljaaRObj
import Derived.Test.YtdpbnlamdgdljaaGDoor
namespace Go.Proofs.Ytdpbnlamdgdljaa
open Go.RowKit
attribute [local irreducible] putA right

theorem Keeps.four {W w : World} {k fl id : Int} {b : ByteArray} (h : Keeps nobody (W.alloc (frobj k fl id b)) w) : w.cell? ⟨W.heap.size, 0, none⟩ = some (.int .i64 k) ∧ w.cell? ⟨W.heap.size, 1, none⟩ = some (.int .i64 fl) ∧ w.cell? ⟨W.heap.size, 2, none⟩ = some (.int .i64 id) ∧ w.cell? ⟨W.heap.size, 3, none⟩ = some (.string b) := by
  have hc : ∀ o, w.cell? ⟨W.heap.size, o, none⟩ = (W.alloc (frobj k fl id b)).cell? ⟨W.heap.size, o, none⟩ := fun o => h.cell (by simp) (fun h => h)
  exact ⟨(hc 0).trans (by simp), (hc 1).trans (by simp), (hc 2).trans (by simp), (hc 3).trans (by simp)⟩

end Go.Proofs.Ytdpbnlamdgdljaa
