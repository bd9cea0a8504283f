/-
  The law WindowPlays: what its windows can be; the boxes of a round.
-/
import Derived.Test.YtbhjkgipidkfgaaWRef
import Derived.Test.YtbhjkgipidkfgaaWAlive
import Derived.Test.YtbhjkgipidkfgaaWOpen
import Derived.Deep.RegionHeld3
namespace Go.Proofs.Ytbhjkgipidkfgaa
open Go.RowKit

/-- What a window can be behind j things that are done. -/
structure FitsW (j : Nat) (s : Wd) : Prop where
  l0 : -(2147483647 + 2199023255552 * (j : Int)) ≤ s.left
  l1 : s.left ≤ 2147483647 + 2199023255552 * (j : Int)
  s0 : (0 : Int) ≤ s.size
  s1 : s.size ≤ 2147483647
  o0 : (0 : Int) ≤ s.owed
  o1 : s.owed ≤ 2147483647
theorem FitsW.small {j : Nat} {s : Wd} (h : FitsW j s) (hj : j ≤ 100) : Small s := by
  obtain ⟨l0, l1, s0, s1, o0, o1⟩ := h
  exact ⟨by omega, by omega, s0, s1, o0, by omega⟩
theorem FitsW.next {j : Nat} {s : Wd} (h : FitsW j s) : FitsW (j + 1) s := by
  obtain ⟨l0, l1, s0, s1, o0, o1⟩ := h
  exact ⟨by omega, by omega, s0, s1, o0, o1⟩
theorem take_fits {j : Nat} {s : Wd} {n : Int} (h : FitsW j s) (hn : -(1099511627776 : Int) ≤ n ∧ n ≤ 1099511627776) : FitsW (j + 1) (takeW s n).1 := by
  unfold takeW
  obtain ⟨l0, l1, s0, s1, o0, o1⟩ := h
  split
  · exact ⟨by simp only; omega, by simp only; omega, s0, s1, o0, o1⟩
  · exact ⟨by simp only; omega, by simp only; omega, s0, s1, o0, o1⟩
theorem grow_fits {j : Nat} {s : Wd} {n : Int} (h : FitsW j s) (hn : -(1099511627776 : Int) ≤ n ∧ n ≤ 1099511627776) : FitsW (j + 1) (growW s n).1 := by
  unfold growW
  obtain ⟨l0, l1, s0, s1, o0, o1⟩ := h
  split
  · exact ⟨by simp only; omega, by simp only; omega, s0, s1, o0, o1⟩
  · exact ⟨by simp only; omega, by simp only; omega, s0, s1, o0, o1⟩
theorem shift_fits {j : Nat} {s : Wd} {n : Int} (h : FitsW j s) (hn : -(1099511627776 : Int) ≤ n ∧ n ≤ 1099511627776) : FitsW (j + 1) (shiftW s n).1 := by
  unfold shiftW
  obtain ⟨l0, l1, s0, s1, o0, o1⟩ := h
  split
  · next hh => exact ⟨by simp only; omega, by simp only; omega, hh.1.1, hh.1.2, o0, o1⟩
  · exact ⟨by simp only; omega, by simp only; omega, s0, s1, o0, o1⟩
theorem credit_fits {j : Nat} {s : Wd} {n : Int} (h : FitsW j s) (hn : -(1099511627776 : Int) ≤ n ∧ n ≤ 1099511627776) : FitsW (j + 1) (creditW s n).1 := by
  unfold creditW
  obtain ⟨l0, l1, s0, s1, o0, o1⟩ := h
  have hw : owedW s n = s.owed + max n 0 := rfl
  have hh : halfW s.size = max (s.size / 2) 1 := rfl
  split
  · exact ⟨by simp only; omega, by simp only; omega, s0, s1, by simp only; omega, by simp only; omega⟩
  · exact ⟨by simp only; omega, by simp only; omega, s0, s1, by simp, by simp⟩

/-- What is done, in its box. -/
def Ob (w : World) (b : Nat) (k n : Int) : Prop := w.heap[b]? = some (.cells #[.int .i64 k, .int .i64 n] 31 (0, 0))
theorem Ob.lt {w : World} {b : Nat} {k n : Int} (h : Ob w b k n) : b < w.heap.size := (Array.getElem?_eq_some_iff.1 h).1
theorem Ob.cells {w : World} {b : Nat} {k n : Int} (h : Ob w b k n) : w.cell? ⟨b, 0, none⟩ = some (.int .i64 k) ∧ w.cell? ⟨b, 1, none⟩ = some (.int .i64 n) := by
  unfold Ob at h
  constructor <;> simp [World.cell?, h]
theorem Ob.keeps {S : Nat → Prop} {w w' : World} {b : Nat} {k n : Int} (h : Ob w b k n) (hk : Keeps S w w') (hS : ¬ S b) : Ob w' b k n := by
  unfold Ob
  rw [hk.block b h.lt hS]
  exact h


/-- The boxes of a round: the two windows, what is done, what came of it. -/
structure Rd (w wr : World) (g5 g7 g : Nat) (k n : Int) (s r x y : Wd) : Prop where
  a : Wb 25 w wr g5 s
  b : Wb 28 w wr g7 r
  o : Ob wr g k n
  x : Bw 25 wr (g + 1) x
  y : Bw 28 wr (g + 1 + 1) y
  n5 : g5 < g
  n7 : g7 < g
  n57 : g5 ≠ g7
  new : w.heap.size ≤ g
theorem Rd.quiet {w wr w' : World} {g5 g7 g : Nat} {k n : Int} {s r x y : Wd} (h : Rd w wr g5 g7 g k n s r x y) (hk : Keeps nobody wr w') : Rd w w' g5 g7 g k n s r x y :=
  ⟨h.a.quiet hk, h.b.quiet hk, h.o.keeps hk id, h.x.quiet hk, h.y.quiet hk, h.n5, h.n7, h.n57, h.new⟩
theorem Rd.putx {w wr : World} {g5 g7 g : Nat} {k n : Int} {s r x y : Wd} (h : Rd w wr g5 g7 g k n s r x y) (z : Wd) : Rd w (bput wr (g + 1) z) g5 g7 g k n s r z y := by
  have hx : Wb 25 w wr (g + 1) x := ⟨h.x, Nat.le_succ_of_le h.new, h.a.keeps⟩
  have h5 := h.n5
  have h7 := h.n7
  exact ⟨h.a.other hx z (by omega), h.b.other hx z (by omega), h.o.keeps (bput_only wr (g + 1) z) (by omega), bput_bw h.x z, h.y.other z (by omega), h5, h7, h.n57, h.new⟩
theorem Rd.puty {w wr : World} {g5 g7 g : Nat} {k n : Int} {s r x y : Wd} (h : Rd w wr g5 g7 g k n s r x y) (z : Wd) : Rd w (bput wr (g + 1 + 1) z) g5 g7 g k n s r x z := by
  have hy : Wb 28 w wr (g + 1 + 1) y := ⟨h.y, Nat.le_succ_of_le (Nat.le_succ_of_le h.new), h.a.keeps⟩
  have h5 := h.n5
  have h7 := h.n7
  exact ⟨h.a.other hy z (by omega), h.b.other hy z (by omega), h.o.keeps (bput_only wr (g + 1 + 1) z) (by omega), h.x.other z (by omega), bput_bw h.y z, h5, h7, h.n57, h.new⟩
theorem Rd.cells {w wr : World} {g5 g7 g : Nat} {k n : Int} {s r x y : Wd} (h : Rd w wr g5 g7 g k n s r x y) : (wr.cell? ⟨g5, 0, none⟩ = some (.int .i64 s.left) ∧ wr.cell? ⟨g5, 1, none⟩ = some (.int .i64 s.size) ∧ wr.cell? ⟨g5, 2, none⟩ = some (.int .i64 s.owed)) ∧ (wr.cell? ⟨g7, 0, none⟩ = some (.int .i64 r.left) ∧ wr.cell? ⟨g7, 1, none⟩ = some (.int .i64 r.size) ∧ wr.cell? ⟨g7, 2, none⟩ = some (.int .i64 r.owed)) ∧ (wr.cell? ⟨g, 0, none⟩ = some (.int .i64 k) ∧ wr.cell? ⟨g, 1, none⟩ = some (.int .i64 n)) ∧ (wr.cell? ⟨g + 1, 0, none⟩ = some (.int .i64 x.left) ∧ wr.cell? ⟨g + 1, 1, none⟩ = some (.int .i64 x.size) ∧ wr.cell? ⟨g + 1, 2, none⟩ = some (.int .i64 x.owed)) ∧ (wr.cell? ⟨g + 1 + 1, 0, none⟩ = some (.int .i64 y.left) ∧ wr.cell? ⟨g + 1 + 1, 1, none⟩ = some (.int .i64 y.size) ∧ wr.cell? ⟨g + 1 + 1, 2, none⟩ = some (.int .i64 y.owed)) :=
  ⟨⟨h.a.cells.1, h.a.cells.2.1, h.a.cells.2.2.1⟩, ⟨h.b.cells.1, h.b.cells.2.1, h.b.cells.2.2.1⟩, h.o.cells, ⟨h.x.cells.1, h.x.cells.2.1, h.x.cells.2.2.1⟩, ⟨h.y.cells.1, h.y.cells.2.1, h.y.cells.2.2.1⟩⟩
theorem Rd.frozen {w wr : World} {g5 g7 g : Nat} {k n : Int} {s r x y : Wd} (h : Rd w wr g5 g7 g k n s r x y) : (∀ o, wr.frozen? ⟨g5, o, none⟩ = false) ∧ (∀ o, wr.frozen? ⟨g7, o, none⟩ = false) ∧ (∀ o, wr.frozen? ⟨g + 1, o, none⟩ = false) ∧ (∀ o, wr.frozen? ⟨g + 1 + 1, o, none⟩ = false) ∧ g5 < wr.heap.size ∧ g7 < wr.heap.size ∧ g + 1 < wr.heap.size ∧ g + 1 + 1 < wr.heap.size :=
  ⟨h.a.now.cells.2.2.2, h.b.now.cells.2.2.2, h.x.cells.2.2.2, h.y.cells.2.2.2, h.a.now.lt, h.b.now.lt, h.x.lt, h.y.lt⟩
theorem rd_new {w wr : World} {g5 g7 : Nat} {s r : Wd} (ha : Wb 25 w wr g5 s) (hb : Wb 28 w wr g7 r) (hne : g5 ≠ g7) (k n : Int) : Rd w (((wr.alloc (.cells #[.int .i64 k, .int .i64 n] 31)).alloc (.cells #[.int .i64 0, .int .i64 0, .int .i64 0] 25)).alloc (.cells #[.int .i64 0, .int .i64 0, .int .i64 0] 28)) g5 g7 wr.heap.size k n s r ⟨0, 0, 0⟩ ⟨0, 0, 0⟩ := by
  have k1 := keeps_alloc wr (.cells #[.int .i64 k, .int .i64 n] 31)
  have ho : Ob (wr.alloc (.cells #[.int .i64 k, .int .i64 n] 31)) wr.heap.size k n := heap_alloc_new wr _
  have h5 := ha.now.lt
  have h7 := hb.now.lt
  have hn := ha.keeps.size
  have e1 : (wr.alloc (.cells #[.int .i64 k, .int .i64 n] 31)).heap.size = wr.heap.size + 1 := by simp
  generalize wr.alloc (.cells #[.int .i64 k, .int .i64 n] 31) = w1 at *
  have k2 := keeps_alloc w1 (.cells #[.int .i64 0, .int .i64 0, .int .i64 0] 25)
  have hx := bw_new 25 w1 ⟨0, 0, 0⟩
  rw [e1] at hx
  have e2 : (w1.alloc (.cells #[.int .i64 0, .int .i64 0, .int .i64 0] 25)).heap.size = wr.heap.size + 1 + 1 := by simp [e1]
  simp only at hx
  generalize w1.alloc (.cells #[.int .i64 0, .int .i64 0, .int .i64 0] 25) = w2 at *
  have k3 := keeps_alloc w2 (.cells #[.int .i64 0, .int .i64 0, .int .i64 0] 28)
  have hy := bw_new 28 w2 ⟨0, 0, 0⟩
  rw [e2] at hy
  exact ⟨ha.quiet ((k1.then k2).then k3), hb.quiet ((k1.then k2).then k3), ho.keeps (k2.then k3) id, hx.quiet k3, hy, h5, h7, hne, hn⟩
/-- Both windows are put in their places, in either order. -/
theorem Rd.both {w wr : World} {g5 g7 g : Nat} {k n : Int} {s r x y : Wd} (h : Rd w wr g5 g7 g k n s r x y) (z v : Wd) : (Wb 25 w (bput (bput wr g5 z) g7 v) g5 z ∧ Wb 28 w (bput (bput wr g5 z) g7 v) g7 v) ∧ (Wb 25 w (bput (bput wr g7 v) g5 z) g5 z ∧ Wb 28 w (bput (bput wr g7 v) g5 z) g7 v) := by
  have hne := h.n57
  have a1 := h.a.put z
  have b1 := h.b.other h.a z (Ne.symm hne)
  have a2 := h.a.other h.b v hne
  have b2 := h.b.put v
  exact ⟨⟨a1.other b1 v hne, b1.put v⟩, ⟨a2.put z, b2.other a2 z (Ne.symm hne)⟩⟩
end Go.Proofs.Ytbhjkgipidkfgaa
