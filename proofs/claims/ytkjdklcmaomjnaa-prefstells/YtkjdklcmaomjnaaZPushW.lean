/-
  The law PrefsPush, walked.
-/
import Derived.Test.YtkjdklcmaomjnaaZMine
import Derived.Test.YtkjdklcmaomjnaaGDoor
import Derived.Deep.RegionHeld3
namespace Go.Proofs.Ytkjdklcmaomjnaa
open Go.RowKit
attribute [local irreducible] numL nums str sixes putP getP applyG

/-- The cells of settings in force, in a box. -/
theorem alloc_ps (w : World) (s : Ps) : ∀ W, Keeps nobody (w.alloc (.cells #[.int .i64 s.table, .int .i64 s.many, .int .i64 s.window, .int .i64 s.frame, .int .i64 s.list] 44)) W → W.cell? ⟨w.heap.size, 0, none⟩ = some (.int .i64 s.table) ∧ W.cell? ⟨w.heap.size, 1, none⟩ = some (.int .i64 s.many) ∧ W.cell? ⟨w.heap.size, 2, none⟩ = some (.int .i64 s.window) ∧ W.cell? ⟨w.heap.size, 3, none⟩ = some (.int .i64 s.frame) ∧ W.cell? ⟨w.heap.size, 4, none⟩ = some (.int .i64 s.list) := by
  intro W hW
  obtain ⟨a, b, c, d, e, _⟩ := ((sx_new w s).quiet hW).cells
  exact ⟨a, b, c, d, e⟩
end Go.Proofs.Ytkjdklcmaomjnaa
