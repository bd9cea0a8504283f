/-
  TablePlays: the thing that is done, in a box beside the three.
-/
import Derived.Test.YtlfkomdkimphnaaDoorPNil
namespace Go.Proofs.YtlfkomdkimphnaaDoor
open Go.RowKit

def obox (o : Opr) : Obj := .cells #[.int .i64 o.1, .int .i64 o.2.1, .string o.2.2.1, .string o.2.2.2] 47 (0, 0)
structure PB (W w : World) (g : Nat) (v : Value) (size : Nat) (l : List Fld) (rg : Nat) (rv : Value) (rsize : Nat) (rl : List Fld) (kb : Nat) (fv wv : Value) (fs ws : List PL) (bx : Nat) (o : Opr) : Prop where
  p : Play W w g v size l rg rv rsize rl kb fv wv fs ws
  blk : w.heap[bx]? = some (obox o)
  off : ∀ k, tfoot g v k ∨ tfoot rg rv k ∨ kfoot kb fv wv fs ws k → k ≠ bx
  new : W.heap.size ≤ bx
section
variable {W w w' : World} {g : Nat} {v v' : Value} {size size' : Nat} {l l' : List Fld} {rg : Nat} {rv rv' : Value} {rsize rsize' : Nat} {rl rl' : List Fld} {kb : Nat} {fv wv : Value} {fs ws : List PL} {bx : Nat} {o : Opr}
theorem PB.lt (h : PB W w g v size l rg rv rsize rl kb fv wv fs ws bx o) : bx < w.heap.size := (Array.getElem?_eq_some_iff.1 h.blk).1
theorem PB.foot (h : PB W w g v size l rg rv rsize rl kb fv wv fs ws bx o) : ∀ k, tfoot g v k ∨ tfoot rg rv k ∨ kfoot kb fv wv fs ws k → k < w.heap.size := by
  rintro k (e | e | e)
  · exact h.p.good.tab.footlt k e
  · exact h.p.ref.footlt k e
  · exact h.p.book.footlt k e
theorem PB.begin (h : Play W w g v size l rg rv rsize rl kb fv wv fs ws) (o : Opr) : PB W (w.alloc (obox o)) g v size l rg rv rsize rl kb fv wv fs ws w.heap.size o := by
  refine ⟨h.quiet (keeps_alloc w _), heap_alloc_new w _, ?_, h.good.below.size⟩
  rintro k (e | e | e) rfl
  · exact Nat.lt_irrefl _ (h.good.tab.footlt _ e)
  · exact Nat.lt_irrefl _ (h.ref.footlt _ e)
  · exact Nat.lt_irrefl _ (h.book.footlt _ e)
theorem PB.quiet (h : PB W w g v size l rg rv rsize rl kb fv wv fs ws bx o) (hk : Keeps nobody w w') : PB W w' g v size l rg rv rsize rl kb fv wv fs ws bx o :=
  ⟨h.p.quiet hk, by rw [hk.block bx h.lt id]; exact h.blk, h.off, h.new⟩
theorem PB.acted (h : PB W w g v size l rg rv rsize rl kb fv wv fs ws bx o) (hg : Good W w' g v' size' l') (hk : Keeps (tfoot g v) w w') (hf : ∀ k, tfoot g v' k → tfoot g v k ∨ w.heap.size ≤ k) : PB W w' g v' size' l' rg rv rsize rl kb fv wv fs ws bx o := by
  refine ⟨h.p.acted hg hk hf, by rw [hk.block bx h.lt fun e => h.off bx (.inl e) rfl]; exact h.blk, ?_, h.new⟩
  rintro k (e | e)
  · rcases hf k e with e | e
    · exact h.off k (.inl e)
    · have := h.lt
      omega
  · exact h.off k (.inr e)
theorem PB.racted (h : PB W w g v size l rg rv rsize rl kb fv wv fs ws bx o) (ha : RActed rg rv rsize' rl' w w') : ∃ rv', PB W w' g v size l rg rv' rsize' rl' kb fv wv fs ws bx o := by
  obtain ⟨rv', hr, hk, hf⟩ := ha
  refine ⟨rv', h.p.racted hr hk hf, by rw [hk.block bx h.lt fun e => h.off bx (.inr (.inl e)) rfl]; exact h.blk, ?_, h.new⟩
  rintro k (e | e | e)
  · exact h.off k (.inl e)
  · rcases hf k e with e | e
    · exact h.off k (.inr (.inl e))
    · have := h.lt
      omega
  · exact h.off k (.inr (.inr e))
theorem PB.cells (h : PB W w g v size l rg rv rsize rl kb fv wv fs ws bx o) : w.cell? ⟨bx, 0, none⟩ = some (.int .i64 o.1) ∧ w.cell? ⟨bx, 1, none⟩ = some (.int .i64 o.2.1) ∧ w.cell? ⟨bx, 2, none⟩ = some (.string o.2.2.1) ∧ w.cell? ⟨bx, 3, none⟩ = some (.string o.2.2.2) := by
  refine ⟨?_, ?_, ?_, ?_⟩ <;> simp [World.cell?, h.blk, obox]
end
end Go.Proofs.YtlfkomdkimphnaaDoor
