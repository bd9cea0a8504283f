/-
  The law FrameCuts as a walk.
-/
import Derived.Test.YtcbgjdfcndgaaaaRShortW
import Derived.Test.YtcbgjdfcndgaaaaRCutsS
import Derived.Deep.DeepCutAuto
namespace Go.Proofs.Ytcbgjdfcndgaaaa
open Go.RowKit

theorem conv_in (W : World) (g y : Nat) (h : W.cell? ⟨g, 0, none⟩ = some (.int .u8 (y : Int))) : (convert 33 9 (.slice (some ⟨g, 0, none⟩) 1 1)).run Try.prog W = .ok (.string (str [y])) W := by
  refine run_convert_bytes_arg W 33 5 Try.underlying33 Try.underlying5 g 0 1 1 [Int.ofNat y] rfl (fun i hi => ?_) 9 Try.underlying9
  obtain rfl : i = 0 := by omega
  simpa using h
attribute [local irreducible] putA right numL byteAt endOf idOf nums str getA bitB
abbrev oneByte (x : Nat) : Obj := .cells #[.int .u8 (x : Int)] 5
theorem cell_one (w : World) (x : Nat) : (w.alloc (oneByte x)).cell? ⟨w.heap.size, 0, none⟩ = some (.int .u8 (x : Int)) := by simp
theorem cell_one_drew (w : World) (x : Nat) : (w.alloc (oneByte x)).drew.cell? ⟨w.heap.size, 0, none⟩ = some (.int .u8 (x : Int)) := cell_one w x
theorem cell_two_b (w : World) (x : Nat) (o : Obj) : ((w.alloc o).alloc (oneByte x)).drew.cell? ⟨w.heap.size + 1, 0, none⟩ = some (.int .u8 (x : Int)) := by simp
theorem cell_two_a (w : World) (x : Nat) (o : Obj) : ((w.alloc (oneByte x)).alloc o).drew.cell? ⟨w.heap.size, 0, none⟩ = some (.int .u8 (x : Int)) :=
  ((keeps_alloc (w.alloc (oneByte x)) o).cell (p := ⟨w.heap.size, 0, none⟩) (by simp) (fun h => h)).trans (cell_one w x)
/-- An empty frame's box, ready to be filled. -/
def Zero (w : World) (g : Nat) : Prop := (w.cell? ⟨g, 0, none⟩ = some (.int .i64 0) ∧ w.cell? ⟨g, 1, none⟩ = some (.int .i64 0) ∧ w.cell? ⟨g, 2, none⟩ = some (.int .i64 0) ∧ w.cell? ⟨g, 3, none⟩ = some (.string ⟨#[]⟩)) ∧ ∀ o, w.frozen? ⟨g, o, none⟩ = false
theorem zero_new (w : World) : Zero (w.alloc (frobj 0 0 0 ⟨#[]⟩)) w.heap.size := by
  refine ⟨⟨by simp, by simp, by simp, by simp⟩, fun o => ?_⟩
  have h := heap_alloc_new w (frobj 0 0 0 ⟨#[]⟩)
  unfold World.frozen?
  simp only [h]
  simp
theorem Zero.keeps {w w' : World} {g : Nat} (h : Zero w g) (k : Keeps nobody w w') : Zero w' g := by
  have hb := World.block_lt_of_cell? w ⟨g, 0, none⟩ h.1.1
  have hc : ∀ o, w'.cell? ⟨g, o, none⟩ = w.cell? ⟨g, o, none⟩ := fun o => k.cell (p := ⟨g, o, none⟩) hb (fun h => h)
  have hf : ∀ o, w'.frozen? ⟨g, o, none⟩ = w.frozen? ⟨g, o, none⟩ := fun o => k.frozen (p := ⟨g, o, none⟩) hb (fun h => h)
  exact ⟨⟨(hc _).trans h.1.1, (hc _).trans h.1.2.1, (hc _).trans h.1.2.2.1, (hc _).trans h.1.2.2.2⟩, fun o => (hf o).trans (h.2 o)⟩
theorem zero_a {w wd : World} {o : Obj} (k : Keeps nobody ((w.alloc o).alloc (frobj 0 0 0 ⟨#[]⟩)).drew wd) : Zero wd (w.heap.size + 1) := by
  have h := zero_new (w.alloc o)
  have e : (w.alloc o).heap.size = w.heap.size + 1 := by simp
  rw [e] at h
  exact h.keeps ((Keeps.refl nobody _).drew.then k)
theorem zero_b {w wd : World} {o : Obj} (k : Keeps nobody ((w.alloc (frobj 0 0 0 ⟨#[]⟩)).alloc o).drew wd) : Zero wd w.heap.size :=
  (zero_new w).keeps (((keeps_alloc _ o).drew).then k)
/-- A frame lies in a box. -/
def Box (w : World) (g : Nat) (f : Frm) : Prop := w.cell? ⟨g, 0, none⟩ = some (.int .i64 f.kind) ∧ w.cell? ⟨g, 1, none⟩ = some (.int .i64 f.flags) ∧ w.cell? ⟨g, 2, none⟩ = some (.int .i64 f.id) ∧ w.cell? ⟨g, 3, none⟩ = some (.string f.body)
theorem Box.keeps {w w' : World} {g : Nat} {f : Frm} (h : Box w g f) (k : Keeps nobody w w') : Box w' g f := by
  have hb := World.block_lt_of_cell? w ⟨g, 0, none⟩ h.1
  have hc : ∀ o, w'.cell? ⟨g, o, none⟩ = w.cell? ⟨g, o, none⟩ := fun o => k.cell (p := ⟨g, o, none⟩) hb (fun h => h)
  exact ⟨(hc _).trans h.1, (hc _).trans h.2.1, (hc _).trans h.2.2.1, (hc _).trans h.2.2.2⟩

abbrev set4 (w : World) (g : Nat) (f : Frm) : World := (((w.setCell ⟨g, 0, none⟩ (.int .i64 f.kind)).setCell ⟨g, 1, none⟩ (.int .i64 f.flags)).setCell ⟨g, 2, none⟩ (.int .i64 f.id)).setCell ⟨g, 3, none⟩ (.string f.body)
theorem fill {W w : World} {g bb : Nat} {f : Frm} (hz : Zero w g) (hg : W.heap.size ≤ g) (hne : bb ≠ g) (hb : Box w bb f) (hk : Keeps nobody W w) : Box (set4 w g f) g f ∧ Box (set4 w g f) bb f ∧ Keeps nobody W (set4 w g f) := by
  obtain ⟨⟨z0, z1, z2, z3⟩, _⟩ := hz
  refine ⟨⟨?_, ?_, ?_, ?_⟩, ⟨?_, ?_, ?_, ?_⟩, ?_⟩
  · simp [set4, go_sem, z0]
  · simp [set4, go_sem, z1]
  · simp [set4, go_sem, z2]
  · simp [set4, go_sem, z3]
  · simp [set4, go_sem, hb.1]
  · simp [set4, go_sem, hb.2.1]
  · simp [set4, go_sem, hb.2.2.1]
  · simp [set4, go_sem, hb.2.2.2]
  · exact (((hk.setCell (.inr hg) _).setCell (.inr hg) _).setCell (.inr hg) _).setCell (.inr hg) _
theorem box_new (w : World) (f : Frm) : Box (w.alloc (frobj f.kind f.flags f.id f.body)) w.heap.size f := ⟨by simp, by simp, by simp, by simp⟩
theorem after1 {w wd : World} {o : Obj} (k : Keeps nobody (w.alloc o).drew wd) : Keeps nobody w wd := (keeps_alloc w o).drew.then k
theorem after2 {w wd : World} {o o' : Obj} (k : Keeps nobody ((w.alloc o).alloc o').drew wd) : Keeps nobody w wd := ((keeps_alloc w o).alloc o').drew.then k

end Go.Proofs.Ytcbgjdfcndgaaaa
