/-
  TablePlays: a table, the reference's table, a book, each in memory of its own.
-/
import Derived.Test.YtlfkomdkimphnaaDoorBApart
import Derived.Test.YtlfkomdkimphnaaDoorRFind
import Derived.Test.YtlfkomdkimphnaaDoorTRes
namespace Go.Proofs.YtlfkomdkimphnaaDoor
open Go.RowKit

structure Play (W w : World) (g : Nat) (v : Value) (size : Nat) (l : List Fld) (rg : Nat) (rv : Value) (rsize : Nat) (rl : List Fld) (kb : Nat) (fv wv : Value) (fs ws : List PL) : Prop where
  good : Good W w g v size l
  ref : RTab w rg rv rsize rl
  book : Bk w kb fv wv fs ws
  rnew : ∀ k, tfoot rg rv k → W.heap.size ≤ k
  bnew : ∀ k, kfoot kb fv wv fs ws k → W.heap.size ≤ k
  gr : ∀ k, tfoot g v k → ¬ tfoot rg rv k
  gb : ∀ k, tfoot g v k → ¬ kfoot kb fv wv fs ws k
  rb : ∀ k, tfoot rg rv k → ¬ kfoot kb fv wv fs ws k
  same : fs.map Prod.snd = ws.map Prod.snd
  small : ∀ p ∈ fs, p.2.length ≤ 16
  apart : ∀ (i j : Nat) (p q : PL), fs[i]? = some p → fs[j]? = some q → i ≠ j → ∀ k, p.1.ownBlock = some k → q.1.ownBlock ≠ some k
section
variable {W w w' : World} {g : Nat} {v v' : Value} {size size' : Nat} {l l' : List Fld} {rg : Nat} {rv rv' : Value} {rsize rsize' : Nat} {rl rl' : List Fld} {kb : Nat} {fv wv : Value} {fs ws : List PL}
theorem Play.quiet (h : Play W w g v size l rg rv rsize rl kb fv wv fs ws) (hk : Keeps nobody w w') : Play W w' g v size l rg rv rsize rl kb fv wv fs ws :=
  ⟨h.good.quiet hk, h.ref.quiet hk, h.book.quiet hk, h.rnew, h.bnew, h.gr, h.gb, h.rb, h.same, h.small, h.apart⟩
/-- The table acts. -/
theorem Play.acted (h : Play W w g v size l rg rv rsize rl kb fv wv fs ws) (hg : Good W w' g v' size' l') (hk : Keeps (tfoot g v) w w') (hf : ∀ k, tfoot g v' k → tfoot g v k ∨ w.heap.size ≤ k) : Play W w' g v' size' l' rg rv rsize rl kb fv wv fs ws := by
  refine ⟨hg, h.ref.keeps hk fun k e e2 => h.gr k e2 e, h.book.keeps hk fun k e e2 => h.gb k e2 e, h.rnew, h.bnew, fun k e e2 => ?_, fun k e e2 => ?_, h.rb, h.same, h.small, h.apart⟩
  · rcases hf k e with e | e
    · exact h.gr k e e2
    · have := h.ref.footlt k e2
      omega
  · rcases hf k e with e | e
    · exact h.gb k e e2
    · have := h.book.footlt k e2
      omega
/-- The reference's table acts. -/
theorem Play.racted (h : Play W w g v size l rg rv rsize rl kb fv wv fs ws) (hr : RTab w' rg rv' rsize' rl') (hk : Keeps (tfoot rg rv) w w') (hf : ∀ k, tfoot rg rv' k → tfoot rg rv k ∨ w.heap.size ≤ k) : Play W w' g v size l rg rv' rsize' rl' kb fv wv fs ws := by
  refine ⟨⟨hk.below h.good.below h.rnew h.good.below.size, h.good.tab.keeps hk fun k e e2 => h.gr k e e2, h.good.new⟩, hr, h.book.keeps hk fun k e e2 => h.rb k e2 e, fun k e => ?_, h.bnew, fun k e e2 => ?_, h.gb, fun k e e2 => ?_, h.same, h.small, h.apart⟩
  · rcases hf k e with e | e
    · exact h.rnew k e
    · exact Nat.le_trans h.good.below.size e
  · rcases hf k e2 with e2 | e2
    · exact h.gr k e e2
    · have := h.good.tab.footlt k e
      omega
  · rcases hf k e with e | e
    · exact h.rb k e e2
    · have := h.book.footlt k e2
      omega
/-- A list is kept: it lies in memory that was new at w. -/
theorem Play.kept {xa : Option Addr} {ca : Nat} {m : List Fld} {B : Nat} {cv fv' wv' : Value} (h : Play W w g v size l rg rv rsize rl kb fv wv fs ws) (hx : ∀ k, (Value.slice xa m.length ca).ownBlock = some k → B ≤ k) (hlow : ∀ k, tfoot g v k ∨ tfoot rg rv k ∨ kfoot kb fv wv fs ws k → k < B) (hW : W.heap.size ≤ B) (hm : m.length ≤ 16)
    (hb : Bk w' kb fv' wv' (fs ++ [(.slice xa m.length ca, m)]) (ws ++ [(cv, m)])) (hk : Keeps (kwrites kb fv wv) w w') (hf : ∀ k, (fv'.ownBlock = some k → fv.ownBlock = some k ∨ w.heap.size ≤ k) ∧ (wv'.ownBlock = some k → wv.ownBlock = some k ∨ w.heap.size ≤ k) ∧ (cv.ownBlock = some k → w.heap.size ≤ k)) :
    Play W w' g v size l rg rv rsize rl kb fv' wv' (fs ++ [(.slice xa m.length ca, m)]) (ws ++ [(cv, m)]) := by
  have hw : ∀ k, kwrites kb fv wv k → kfoot kb fv wv fs ws k := by
    rintro k (e | e | e)
    · exact .inl e
    · exact .inr (.inl (.inl e))
    · exact .inr (.inr (.inl e))
  have hnew : ∀ k, kfoot kb fv' wv' (fs ++ [(.slice xa m.length ca, m)]) (ws ++ [(cv, m)]) k → kfoot kb fv wv fs ws k ∨ w.heap.size ≤ k ∨ (Value.slice xa m.length ca).ownBlock = some k := by
    rintro k (e | (e | ⟨p, hp, e⟩) | (e | ⟨p, hp, e⟩))
    · exact .inl (.inl e)
    · rcases (hf k).1 e with e | e
      · exact .inl (.inr (.inl (.inl e)))
      · exact .inr (.inl e)
    · rcases List.mem_append.1 hp with hp | hp
      · exact .inl (.inr (.inl (.inr ⟨p, hp, e⟩)))
      · obtain rfl := List.mem_singleton.1 hp
        exact .inr (.inr e)
    · rcases (hf k).2.1 e with e | e
      · exact .inl (.inr (.inr (.inl e)))
      · exact .inr (.inl e)
    · rcases List.mem_append.1 hp with hp | hp
      · exact .inl (.inr (.inr (.inr ⟨p, hp, e⟩)))
      · obtain rfl := List.mem_singleton.1 hp
        exact .inr (.inl ((hf k).2.2 e))
  refine ⟨⟨hk.below h.good.below (fun k e => h.bnew k (hw k e)) h.good.below.size, h.good.tab.keeps hk fun k e e2 => h.gb k e (hw k e2), h.good.new⟩, h.ref.keeps hk fun k e e2 => h.rb k e (hw k e2), hb, h.rnew, fun k e => ?_, h.gr, fun k e e2 => ?_, fun k e e2 => ?_, ?_, fun p hp => ?_, ?_⟩
  · rcases hnew k e with e | e | e
    · exact h.bnew k e
    · exact Nat.le_trans h.good.below.size e
    · exact Nat.le_trans hW (hx k e)
  · rcases hnew k e2 with e2 | e2 | e2
    · exact h.gb k e e2
    · have := h.good.tab.footlt k e
      omega
    · have h1 := hx k e2
      have h2 := hlow k (.inl e)
      omega
  · rcases hnew k e2 with e2 | e2 | e2
    · exact h.rb k e e2
    · have := h.ref.footlt k e
      omega
    · have h1 := hx k e2
      have h2 := hlow k (.inr (.inl e))
      omega
  · simp [h.same]
  · rcases List.mem_append.1 hp with hp | hp
    · exact h.small p hp
    · obtain rfl := List.mem_singleton.1 hp
      exact hm
  · have key : ∀ (i : Nat) (p : PL), (fs ++ [((.slice xa m.length ca : Value), m)])[i]? = some p → fs[i]? = some p ∨ (i = fs.length ∧ p = (.slice xa m.length ca, m)) := by
      intro i p hp
      rw [List.getElem?_append] at hp
      by_cases hi : i < fs.length
      · rw [if_pos hi] at hp
        exact .inl hp
      · rw [if_neg hi] at hp
        have := (List.getElem?_eq_some_iff.1 hp).1
        simp at this
        obtain rfl : i = fs.length := by omega
        simp at hp
        exact .inr ⟨rfl, hp.symm⟩
    intro i j p q hp hq hij k e e2
    rcases key i p hp with hp | ⟨rfl, rfl⟩
    · rcases key j q hq with hq | ⟨rfl, rfl⟩
      · exact h.apart i j p q hp hq hij k e e2
      · have h1 := hx k e2
        have h2 := hlow k (.inr (.inr (.inr (.inl (.inr ⟨p, List.mem_of_getElem? hp, e⟩)))))
        omega
    · rcases key j q hq with hq | ⟨rfl, rfl⟩
      · have h1 := hx k e
        have h2 := hlow k (.inr (.inr (.inr (.inl (.inr ⟨q, List.mem_of_getElem? hq, e2⟩)))))
        omega
      · exact hij rfl
end
end Go.Proofs.YtlfkomdkimphnaaDoor
