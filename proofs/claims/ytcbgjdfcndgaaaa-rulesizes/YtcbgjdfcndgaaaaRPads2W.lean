/-
  The law FramePads as a walk.
-/
import Derived.Test.YtcbgjdfcndgaaaaRPadsW
namespace Go.Proofs.Ytcbgjdfcndgaaaa
open Go.RowKit
attribute [local irreducible] putA right numL byteAt endOf idOf nums str getA bitB zeros unpadA behind stripA

theorem or0_32 : bits .or .i64 0 32 = 32 := by decide +kernel
theorem or0_8 : bits .or .i64 0 8 = 8 := by decide +kernel
theorem or32_8 : bits .or .i64 32 8 = 40 := by decide +kernel
theorem pad0 : padB 0 = false := by decide +kernel
theorem weigh0 : weighB 0 = false := by decide +kernel
theorem pad40 : padB 40 = true := by decide +kernel
theorem weigh40 : weighB 40 = true := by decide +kernel
/-- A frame in a box that may be written. -/
def Mine (w : World) (g : Nat) (f : Frm) : Prop := Box w g f ∧ ∀ o, w.frozen? ⟨g, o, none⟩ = false
theorem mine_new (w : World) (f : Frm) : Mine (w.alloc (frobj f.kind f.flags f.id f.body)) w.heap.size f := by
  refine ⟨box_new w f, fun o => ?_⟩
  have h := heap_alloc_new w (frobj f.kind f.flags f.id f.body)
  unfold World.frozen?
  simp only [h]
  simp
theorem Mine.keeps {w w' : World} {g : Nat} {f : Frm} (h : Mine w g f) (k : Keeps nobody w w') : Mine w' g f :=
  ⟨h.1.keeps k, fun o => (k.frozen (p := ⟨g, o, none⟩) (World.block_lt_of_cell? w ⟨g, 0, none⟩ h.1.1) (fun h => h)).trans (h.2 o)⟩
theorem Mine.body {w : World} {g : Nat} {f : Frm} (h : Mine w g f) (X : ByteArray) : Mine (w.setCell ⟨g, 3, none⟩ (.string X)) g ⟨f.kind, f.flags, f.id, X⟩ := by
  obtain ⟨⟨z0, z1, z2, z3⟩, zf⟩ := h
  refine ⟨⟨?_, ?_, ?_, ?_⟩, fun o => ?_⟩
  · simp [go_sem, z0]
  · simp [go_sem, z1]
  · simp [go_sem, z2]
  · simp [go_sem, z3]
  · simp [go_sem, zf]
theorem Mine.toKind {w : World} {g : Nat} {f : Frm} (h : Mine w g f) (k : Int) : Mine (w.setCell ⟨g, 0, none⟩ (.int .i64 k)) g ⟨k, f.flags, f.id, f.body⟩ := by
  obtain ⟨⟨z0, z1, z2, z3⟩, zf⟩ := h
  refine ⟨⟨?_, ?_, ?_, ?_⟩, fun o => ?_⟩
  · simp [go_sem, z0]
  · simp [go_sem, z1]
  · simp [go_sem, z2]
  · simp [go_sem, z3]
  · simp [go_sem, zf]

end Go.Proofs.Ytcbgjdfcndgaaaa
