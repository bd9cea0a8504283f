/-
  Lists of headers that lie somewhere.
-/
import Derived.Test.YtladdbppkepphaaDoorGStr
namespace Go.Proofs.YtladdbppkepphaaDoor
open Go.RowKit

/-- A list of headers lies there, in a block that is none of S. -/
def Lies (w : World) (a : Option Addr) (l : List Fld) (S : Nat → Prop) : Prop :=
  l = [] ∨ ∃ b off, a = some ⟨b, off, none⟩ ∧ b < w.heap.size ∧ ¬ S b ∧ ∀ i f, l[i]? = some f → w.cell? ⟨b, off + i * 2, none⟩ = some (.string f.1) ∧ w.cell? ⟨b, off + i * 2 + 1, none⟩ = some (.string f.2)
theorem Lies.keeps {w w' : World} {a : Option Addr} {l : List Fld} {S : Nat → Prop} (h : Lies w a l S) (hk : Keeps S w w') : Lies w' a l S := by
  rcases h with h | ⟨b, off, e, hb, hS, hc⟩
  · exact .inl h
  · refine .inr ⟨b, off, e, Nat.lt_of_lt_of_le hb hk.size, hS, fun i f hi => ?_⟩
    obtain ⟨h0, h1⟩ := hc i f hi
    exact ⟨(hk.cell (p := ⟨b, off + i * 2, none⟩) hb hS).trans h0, (hk.cell (p := ⟨b, off + i * 2 + 1, none⟩) hb hS).trans h1⟩
theorem Lies.quiet {w w' : World} {a : Option Addr} {l : List Fld} {S : Nat → Prop} (h : Lies w a l S) (hk : Keeps nobody w w') : Lies w' a l S := by
  rcases h with h | ⟨b, off, e, hb, hS, hc⟩
  · exact .inl h
  · refine .inr ⟨b, off, e, Nat.lt_of_lt_of_le hb hk.size, hS, fun i f hi => ?_⟩
    obtain ⟨h0, h1⟩ := hc i f hi
    exact ⟨(hk.cell (p := ⟨b, off + i * 2, none⟩) hb id).trans h0, (hk.cell (p := ⟨b, off + i * 2 + 1, none⟩) hb id).trans h1⟩
theorem Lies.at {w : World} {a : Option Addr} {l : List Fld} {S : Nat → Prop} (h : Lies w a l S) (j : Nat) (hj : j < l.length) : ∃ b off, a = some ⟨b, off, none⟩ ∧ b < w.heap.size ∧ ¬ S b ∧ w.cell? ⟨b, off + j * 2, none⟩ = some (.string (l[j]'hj).1) ∧ w.cell? ⟨b, off + j * 2 + 1, none⟩ = some (.string (l[j]'hj).2) := by
  rcases h with rfl | ⟨b, off, e, hb, hS, hc⟩
  · simp at hj
  · exact ⟨b, off, e, hb, hS, hc j _ (List.getElem?_eq_getElem hj)⟩
/-- A header in a box of its own. -/
def Fx (w : World) (b : Nat) (x y : ByteArray) : Prop := w.heap[b]? = some (.cells #[.string x, .string y] 39 (0, 0))
theorem Fx.lt {w : World} {b : Nat} {x y : ByteArray} (h : Fx w b x y) : b < w.heap.size := (Array.getElem?_eq_some_iff.1 h).1
theorem Fx.cells {w : World} {b : Nat} {x y : ByteArray} (h : Fx w b x y) : w.cell? ⟨b, 0, none⟩ = some (.string x) ∧ w.cell? ⟨b, 1, none⟩ = some (.string y) ∧ ∀ o, w.frozen? ⟨b, o, none⟩ = false := by
  unfold Fx at h
  refine ⟨?_, ?_, fun o => ?_⟩ <;> simp [World.cell?, World.frozen?, h]
theorem Fx.keeps {S : Nat → Prop} {w w' : World} {b : Nat} {x y : ByteArray} (h : Fx w b x y) (hk : Keeps S w w') (hS : ¬ S b) : Fx w' b x y := by
  unfold Fx
  rw [hk.block b h.lt hS]
  exact h
theorem Fx.quiet {w w' : World} {b : Nat} {x y : ByteArray} (h : Fx w b x y) (hk : Keeps nobody w w') : Fx w' b x y := h.keeps hk id
theorem fx_new (w : World) (x y : ByteArray) : Fx (w.alloc (.cells #[.string x, .string y] 39)) w.heap.size x y := heap_alloc_new w _
/-- A list that a call owns lies there. -/
theorem row_lies {w : World} {B n c : Nat} {x : Option Addr} {l : List Fld} (h : w.ownsRow B 39 2 (.slice x n c) l.length (fcells l)) {S : Nat → Prop} (hS : ∀ k, (Value.slice x n c).ownBlock = some k → ¬ S k) : Lies w x l S := by
  by_cases h0 : l = []
  · exact .inl h0
  · rcases h.2 with ⟨h1, h2⟩ | ⟨rb, cap, cur, h1, _⟩
    · exact (h0 (List.eq_nil_of_length_eq_zero h2)).elim
    · simp only [Value.slice.injEq] at h1
      obtain ⟨rfl, rfl, rfl⟩ := h1
      refine .inr ⟨rb, 0, rfl, (h.lt rb rfl).2, hS rb rfl, fun i f hi => ?_⟩
      obtain ⟨hi', rfl⟩ := List.getElem?_eq_some_iff.1 hi
      simpa using row_cells h i hi'
theorem Lies.mono {w : World} {a : Option Addr} {l : List Fld} {S S' : Nat → Prop} (h : Lies w a l S) (hS : ∀ k, k < w.heap.size → S' k → S k) : Lies w a l S' := by
  rcases h with h | ⟨b, off, e, hb, hn, hc⟩
  · exact .inl h
  · exact .inr ⟨b, off, e, hb, fun e2 => hn (hS b hb e2), hc⟩
theorem Lies.prefix {w : World} {a : Option Addr} {l m : List Fld} {S : Nat → Prop} (h : Lies w a (l ++ m) S) : Lies w a l S := by
  rcases h with h | ⟨b, off, e, hb, hS, hc⟩
  · exact .inl (List.append_eq_nil_iff.1 h).1
  · refine .inr ⟨b, off, e, hb, hS, fun i f hi => hc i f ?_⟩
    rw [List.getElem?_append_left (List.getElem?_eq_some_iff.1 hi).1]
    exact hi
end Go.Proofs.YtladdbppkepphaaDoor
