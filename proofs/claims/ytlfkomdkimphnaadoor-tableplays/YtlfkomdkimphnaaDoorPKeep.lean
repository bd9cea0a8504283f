/-
  TablePlays: a list is kept, beside the thing that is done.
-/
import Derived.Test.YtlfkomdkimphnaaDoorPRes
namespace Go.Proofs.YtlfkomdkimphnaaDoor
open Go.RowKit

/-- A header in a box of its own. -/
def Bx (w : World) (b : Nat) (x y : ByteArray) : Prop := w.heap[b]? = some (.cells #[.string x, .string y] 28 (0, 0))
theorem Bx.cells {w : World} {b : Nat} {x y : ByteArray} (h : Bx w b x y) : w.cell? ⟨b, 0, none⟩ = some (.string x) ∧ w.cell? ⟨b, 1, none⟩ = some (.string y) := by
  unfold Bx at h
  constructor <;> simp [World.cell?, h]
theorem Bx.lt {w : World} {b : Nat} {x y : ByteArray} (h : Bx w b x y) : b < w.heap.size := (Array.getElem?_eq_some_iff.1 h).1
theorem Bx.quiet {w w' : World} {b : Nat} {x y : ByteArray} (h : Bx w b x y) (hk : Keeps nobody w w') : Bx w' b x y := by
  unfold Bx
  rw [hk.block b h.lt id]
  exact h
theorem bx_new (w : World) (x y : ByteArray) : Bx (w.alloc (.cells #[.string x, .string y] 28)) w.heap.size x y := heap_alloc_new w _

section
variable {W wc w6 w7 : World} {g : Nat} {v : Value} {size : Nat} {l : List Fld} {rg : Nat} {rv : Value} {rsize : Nat} {rl : List Fld} {kb : Nat} {fv wv : Value} {fs ws : List PL} {bx : Nat} {o : Opr}
theorem kept_step (h : PB W wc g v size l rg rv rsize rl kb fv wv fs ws bx o) (k6 : Keeps nobody wc w6) (k7 : Keeps nobody w6 w7) (xa : Option Addr) (ca : Nat) (R : w7.ownsRow w6.heap.size 28 2 (.slice xa l.length ca) l.length (fcells l)) (hn : fs.length < 250) :
    Calls Tryd.prog 22 #[.pointer (some ⟨kb, 0, none⟩), .slice xa l.length ca] w7 fun e w' => e = .returned (.tuple #[]) ∧ ∃ fv' wv' cv, Hid (PB W w' g v size l rg rv rsize rl kb fv' wv' (fs ++ [(.slice xa l.length ca, l)]) (ws ++ [(cv, l)]) bx o) ∧ Hid (w'.ownsRow 0 28 2 (.slice xa l.length ca) l.length (fcells l)) ∧ Hid (∀ b x y, wc.heap.size ≤ b → Bx w7 b x y → Bx w' b x y) := by
  have h6 := h.quiet k6
  have h7 := h6.quiet k7
  have hl := h.p.good.tab.length
  have R0 : w7.ownsRow 0 28 2 (.slice xa l.length ca) l.length (fcells l) := by
    refine ⟨R.1, ?_⟩
    rcases R.2 with e | ⟨rb, cc, cur, e1, e2, e3, e4⟩
    · exact .inl e
    · exact .inr ⟨rb, cc, cur, e1, Nat.zero_le _, e3, e4⟩
  have hsame : fs.length = ws.length := by have := congrArg List.length h.p.same; simpa using this
  refine (fields_ok h7.p.book hsame hn xa ca l R0 hl).mono ?_
  rintro e w' ⟨rfl, fv', wv', cv, hb, hk, hf⟩
  have hw : ∀ k, kwrites kb fv wv k → kfoot kb fv wv fs ws k := by
    rintro k (e | e | e)
    · exact .inl e
    · exact .inr (.inl (.inl e))
    · exact .inr (.inr (.inl e))
  have hx : ∀ k, (Value.slice xa l.length ca).ownBlock = some k → w6.heap.size ≤ k := fun k e => (R.lt k e).1
  have hlt := h6.lt
  have hlt7 := h7.lt
  have hbx : w'.heap[bx]? = w7.heap[bx]? := hk.block bx h7.lt fun e => h.off bx (.inr (.inr (hw bx e))) rfl
  refine ⟨rfl, fv', wv', cv, ⟨h7.p.kept hx h6.foot h6.p.good.below.size hl hb hk hf, by rw [hbx]; exact h7.blk, ?_, h.new⟩, hb.f.rows (.slice xa l.length ca, l) (by simp), fun b x y hb1 hb2 => ?_⟩
  · rintro k (e | e | (e | (e | ⟨p, hp, e⟩) | (e | ⟨p, hp, e⟩)))
    · exact h.off k (.inl e)
    · exact h.off k (.inr (.inl e))
    · exact h.off k (.inr (.inr (.inl e)))
    · rcases (hf k).1 e with e | e
      · exact h.off k (.inr (.inr (.inr (.inl (.inl e)))))
      · omega
    · rcases List.mem_append.1 hp with hp | hp
      · exact h.off k (.inr (.inr (.inr (.inl (.inr ⟨p, hp, e⟩)))))
      · obtain rfl := List.mem_singleton.1 hp
        have := hx k e
        omega
    · rcases (hf k).2.1 e with e | e
      · exact h.off k (.inr (.inr (.inr (.inr (.inl e)))))
      · omega
    · rcases List.mem_append.1 hp with hp | hp
      · exact h.off k (.inr (.inr (.inr (.inr (.inr ⟨p, hp, e⟩)))))
      · obtain rfl := List.mem_singleton.1 hp
        have := (hf k).2.2 e
        omega
  · unfold Bx
    rw [hk.block b hb2.lt fun e => ?_]
    · exact hb2
    · have := h.foot b (.inr (.inr (hw b e)))
      omega
end
end Go.Proofs.YtlfkomdkimphnaaDoor
