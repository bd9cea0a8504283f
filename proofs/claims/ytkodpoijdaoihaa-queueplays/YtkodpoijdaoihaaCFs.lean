/-
  bywashbook: lists that are written into.
-/
import Derived.Test.YtkodpoijdaoihaaCStill
namespace Go.Proofs.Ytkodpoijdaoihaa
open Go.RowKit

/-- The book's lists alone: none of two lies where the other one does. -/
structure Fs (w : World) (kb : Nat) (fv wv : Value) (fs : List PL) : Prop where
  blk : w.heap[kb]? = some (.cells #[fv, wv, .slice none 0 0, .slice none 0 0, .slice none 0 0, .slice none 0 0, .slice none 0 0, .slice none 0 0, .slice none 0 0, .slice none 0 0] 41 (0, 0))
  f : Lists w fv fs
  apart : ∀ (i j : Nat) (p q : PL), fs[i]? = some p → fs[j]? = some q → i ≠ j → ∀ k, p.1.ownBlock = some k → q.1.ownBlock ≠ some k
theorem Fs.lt {w : World} {kb : Nat} {fv wv : Value} {fs : List PL} (h : Fs w kb fv wv fs) : kb < w.heap.size := (Array.getElem?_eq_some_iff.1 h.blk).1
theorem Fs.cells {w : World} {kb : Nat} {fv wv : Value} {fs : List PL} (h : Fs w kb fv wv fs) : w.cell? ⟨kb, 0, none⟩ = some fv ∧ w.cell? ⟨kb, 8, none⟩ = some (.slice none 0 0) ∧ w.cell? ⟨kb, 2, none⟩ = some (.slice none 0 0) ∧ w.cell? ⟨kb, 6, none⟩ = some (.slice none 0 0) ∧ w.cell? ⟨kb, 4, none⟩ = some (.slice none 0 0) := by
  refine ⟨?_, ?_, ?_, ?_, ?_⟩ <;> simp [World.cell?, h.blk]
theorem Fs.quiet {w w' : World} {kb : Nat} {fv wv : Value} {fs : List PL} (h : Fs w kb fv wv fs) (hk : Keeps nobody w w') : Fs w' kb fv wv fs :=
  ⟨by rw [hk.block kb h.lt id]; exact h.blk, h.f.keeps hk fun _ _ => id, h.apart⟩
theorem keeps_set {w : World} (rb o : Nat) (x : Value) : Keeps (fun k => k = rb) w (w.setCell ⟨rb, o, none⟩ x) :=
  ⟨rfl, rfl, rfl, by simp, fun k _ hk => heap_setCell_other w ⟨rb, o, none⟩ k x hk⟩

theorem Fs.store {w : World} {kb : Nat} {fv wv : Value} {fs : List PL} (h : Fs w kb fv wv fs) {i rb cap : Nat} {l : List Int} (hi : fs[i]? = some (.slice (some ⟨rb, 0, none⟩) l.length cap, l)) (k : Nat) (a : Int) :
    Fs (w.setCell ⟨rb, k, none⟩ (.int .i64 a)) kb fv wv (fs.set i (.slice (some ⟨rb, 0, none⟩) l.length cap, l.set k a)) ∧ Keeps (fun k => k = rb) w (w.setCell ⟨rb, k, none⟩ (.int .i64 a)) := by
  have hrow := h.f.rows _ (List.mem_of_getElem? hi)
  have s2 := (hrow.stored k (.int .i64 a)).1
  rw [← icells_set] at s2
  have hK : Keeps (fun k => k = rb) w (w.setCell ⟨rb, k, none⟩ (.int .i64 a)) := keeps_set rb k (.int .i64 a)
  generalize (w.setCell ⟨rb, k, none⟩ (.int .i64 a)) = w2 at *
  have hkb : kb ≠ rb := by
    rintro rfl
    exact row_not hrow h.blk (by decide) rfl
  have hi' : i < fs.length := (List.getElem?_eq_some_iff.1 hi).1
  have hv : vals (fs.set i (.slice (some ⟨rb, 0, none⟩) l.length cap, l.set k a)) = vals fs := by
    apply List.ext_getElem?
    intro j
    simp only [vals, List.getElem?_map, List.getElem?_set]
    by_cases hj : i = j
    · subst hj; rw [hi]; simp [hi']
    · simp [hj]
  refine ⟨⟨by rw [hK.block kb h.lt hkb]; exact h.blk, ⟨?_, ?_⟩, ?_⟩, hK⟩
  · rw [hv, List.length_set]
    exact hK.row h.f.outer fun j hj e => by subst e; exact rows_other h.f.outer hrow (by decide) hj rfl
  · intro p hp
    obtain ⟨j, hj⟩ := List.mem_iff_getElem?.1 hp
    rw [List.getElem?_set] at hj
    by_cases hij : i = j
    · subst hij
      simp [hi'] at hj
      subst hj
      simpa using s2
    · rw [if_neg hij] at hj
      exact hK.row (h.f.rows p (List.mem_of_getElem? hj)) fun m hm e => by subst e; exact h.apart i j _ _ hi hj hij m rfl hm
  · intro s t p q hs ht hst m hm
    have key : ∀ (s : Nat) (p : PL), (fs.set i (.slice (some ⟨rb, 0, none⟩) l.length cap, l.set k a))[s]? = some p → ∃ p', fs[s]? = some p' ∧ p'.1 = p.1 := by
      intro s p hs
      rw [List.getElem?_set] at hs
      by_cases his : i = s
      · subst his
        simp [hi'] at hs
        subst hs
        exact ⟨_, hi, rfl⟩
      · rw [if_neg his] at hs
        exact ⟨p, hs, rfl⟩
    obtain ⟨p', hp', ep⟩ := key s p hs
    obtain ⟨q', hq', eq⟩ := key t q ht
    rw [← eq]
    exact h.apart s t p' q' hp' hq' hst m (by rw [ep]; exact hm)
end Go.Proofs.Ytkodpoijdaoihaa
