/-
  Windows in boxes of their own.
-/
import Derived.Test.YtendndokgpppiaaWSpec
namespace Go.Proofs.Ytendndokgpppiaa.Wi
open Go.RowKit

/-- A window, in a box of its own. -/
def Bw (t : TypeId) (w : World) (b : Nat) (s : Wd) : Prop := w.heap[b]? = some (.cells #[.int .i64 s.left, .int .i64 s.size, .int .i64 s.owed] t (0, 0))
theorem Bw.lt {t : TypeId} {w : World} {b : Nat} {s : Wd} (h : Bw t w b s) : b < w.heap.size := (Array.getElem?_eq_some_iff.1 h).1
theorem Bw.cells {t : TypeId} {w : World} {b : Nat} {s : Wd} (h : Bw t w b s) : w.cell? ⟨b, 0, none⟩ = some (.int .i64 s.left) ∧ w.cell? ⟨b, 1, none⟩ = some (.int .i64 s.size) ∧ w.cell? ⟨b, 2, none⟩ = some (.int .i64 s.owed) ∧ ∀ o, w.frozen? ⟨b, o, none⟩ = false := by
  unfold Bw at h
  refine ⟨?_, ?_, ?_, fun o => ?_⟩ <;> simp [World.cell?, World.frozen?, h]
theorem Bw.keeps {S : Nat → Prop} {t : TypeId} {w w' : World} {b : Nat} {s : Wd} (h : Bw t w b s) (hk : Keeps S w w') (hS : ¬ S b) : Bw t w' b s := by
  unfold Bw
  rw [hk.block b h.lt hS]
  exact h
theorem Bw.quiet {t : TypeId} {w w' : World} {b : Nat} {s : Wd} (h : Bw t w b s) (hk : Keeps nobody w w') : Bw t w' b s := h.keeps hk id
theorem bw_new (t : TypeId) (w : World) (s : Wd) : Bw t (w.alloc (.cells #[.int .i64 s.left, .int .i64 s.size, .int .i64 s.owed] t)) w.heap.size s := heap_alloc_new w _
/-- Another window is written into the box. -/
abbrev bput (w : World) (b : Nat) (s : Wd) : World := ((w.setCell ⟨b, 0, none⟩ (.int .i64 s.left)).setCell ⟨b, 1, none⟩ (.int .i64 s.size)).setCell ⟨b, 2, none⟩ (.int .i64 s.owed)
theorem bput_bw {t : TypeId} {w : World} {b : Nat} {s : Wd} (h : Bw t w b s) (r : Wd) : Bw t (bput w b r) b r := by
  unfold Bw at h ⊢
  simp [bput, World.setCell, h, Array.getElem?_modify]
theorem bput_keeps {S : Nat → Prop} {w w' : World} {b : Nat} (hk : Keeps S w w') (hb : S b ∨ w.heap.size ≤ b) (r : Wd) : Keeps S w (bput w' b r) :=
  ((hk.setCell (p := ⟨b, 0, none⟩) hb _).setCell (p := ⟨b, 1, none⟩) hb _).setCell (p := ⟨b, 2, none⟩) hb _
theorem bput_only (w : World) (b : Nat) (r : Wd) : Keeps (fun k => k = b) w (bput w b r) := bput_keeps (S := fun k => k = b) (Keeps.refl _ _) (.inl rfl) r
theorem Bw.other {t : TypeId} {w : World} {b c : Nat} {s : Wd} (h : Bw t w b s) (r : Wd) (hne : b ≠ c) : Bw t (bput w c r) b s := h.keeps (bput_only w c r) hne
/-- A box that was made since: whatever is done to it, what was there before stays. -/
theorem bput_new {w w' : World} {b : Nat} (hk : Keeps nobody w w') (hb : w.heap.size ≤ b) (r : Wd) : Keeps nobody w (bput w' b r) := bput_keeps hk (.inr hb) r
/-- A window's box that was made since w. -/
structure Wb (t : TypeId) (w wr : World) (b : Nat) (s : Wd) : Prop where
  now : Bw t wr b s
  new : w.heap.size ≤ b
  keeps : Keeps nobody w wr
theorem Wb.quiet {t : TypeId} {w wr w' : World} {b : Nat} {s : Wd} (h : Wb t w wr b s) (hk : Keeps nobody wr w') : Wb t w w' b s := ⟨h.now.quiet hk, h.new, h.keeps.then hk⟩
theorem Wb.put {t : TypeId} {w wr : World} {b : Nat} {s : Wd} (h : Wb t w wr b s) (r : Wd) : Wb t w (bput wr b r) b r := ⟨bput_bw h.now r, h.new, bput_new h.keeps h.new r⟩
theorem Wb.other {t u : TypeId} {w wr : World} {b c : Nat} {s x : Wd} (h : Wb t w wr b s) (k : Wb u w wr c x) (r : Wd) (hne : b ≠ c) : Wb t w (bput wr c r) b s := ⟨h.now.other r hne, h.new, bput_new h.keeps k.new r⟩
theorem wb_new (t : TypeId) (w wr : World) (hk : Keeps nobody w wr) (s : Wd) : Wb t w (wr.alloc (.cells #[.int .i64 s.left, .int .i64 s.size, .int .i64 s.owed] t)) wr.heap.size s := ⟨bw_new t wr s, hk.size, hk.alloc _⟩
theorem Wb.cells {t : TypeId} {w wr : World} {b : Nat} {s : Wd} (h : Wb t w wr b s) : wr.cell? ⟨b, 0, none⟩ = some (.int .i64 s.left) ∧ wr.cell? ⟨b, 1, none⟩ = some (.int .i64 s.size) ∧ wr.cell? ⟨b, 2, none⟩ = some (.int .i64 s.owed) ∧ (∀ o, wr.frozen? ⟨b, o, none⟩ = false) ∧ b < wr.heap.size := ⟨h.now.cells.1, h.now.cells.2.1, h.now.cells.2.2.1, h.now.cells.2.2.2, h.now.lt⟩
end Go.Proofs.Ytendndokgpppiaa.Wi
