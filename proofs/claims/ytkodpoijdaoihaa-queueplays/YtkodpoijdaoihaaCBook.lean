/-
  A book as a thing; a list as a thing; a list is kept.
-/
import Derived.Test.YtkodpoijdaoihaaGThing
import Derived.Test.YtkodpoijdaoihaaCApart
import Derived.Test.YtkodpoijdaoihaaNLive
namespace Go.Proofs.Ytkodpoijdaoihaa
open Go.RowKit

/-- A book, its lists apart from each other. -/
structure Bkd (w : World) (kb : Nat) (fv wv : Value) (fs ws : List PL) : Prop where
  book : Bk w kb fv wv fs ws
  same : fs.map Prod.snd = ws.map Prod.snd
  small : ∀ p ∈ fs, p.2.length ≤ 150
  apart : ∀ (i j : Nat) (p q : PL), fs[i]? = some p → fs[j]? = some q → i ≠ j → ∀ k, p.1.ownBlock = some k → q.1.ownBlock ≠ some k
def bkT (kb : Nat) (fv wv : Value) (fs ws : List PL) : Thing := ⟨kfoot kb fv wv fs ws, fun w => Bkd w kb fv wv fs ws⟩
theorem bkT_ok (kb : Nat) (fv wv : Value) (fs ws : List PL) : (bkT kb fv wv fs ws).Ok :=
  ⟨fun h hk hS => ⟨h.book.keeps hk hS, h.same, h.small, h.apart⟩, fun h k e => h.book.footlt k e⟩

section
variable {W w w' : World} {a b : List Thing} {s t t' : Thing}
/-- One of them takes another one up. -/
theorem Hold.merge (h : Hold W w (s :: (a ++ t :: b))) (ok : t'.Ok) (inv : t'.inv w') (hk : Keeps t.foot w w') (hf : ∀ k, t'.foot k → s.foot k ∨ t.foot k ∨ w.heap.size ≤ k) : Hold W w' (a ++ t' :: b) := by
  have hs := List.pairwise_cons.1 h.apart
  have hp := List.pairwise_append.1 hs.2
  have hpc := List.pairwise_cons.1 hp.2.1
  have ms : s ∈ s :: (a ++ t :: b) := by simp
  have mt : t ∈ s :: (a ++ t :: b) := by simp
  have ma : ∀ r ∈ a, r ∈ s :: (a ++ t :: b) := fun r hr => by simp [hr]
  have mb : ∀ r ∈ b, r ∈ s :: (a ++ t :: b) := fun r hr => by simp [hr]
  have ea : ∀ r ∈ a, ∀ k, r.foot k → ¬ t.foot k := fun r hr => hp.2.2 r hr t (by simp)
  have eb : ∀ r ∈ b, ∀ k, r.foot k → ¬ t.foot k := fun r hr k e e2 => hpc.1 r hr k e2 e
  have es : ∀ r, r ∈ a ∨ r ∈ b → ∀ k, r.foot k → ¬ s.foot k := fun r hr k e e2 => by
    rcases hr with hr | hr
    · exact hs.1 r (by simp [hr]) k e2 e
    · exact hs.1 r (by simp [hr]) k e2 e
  have key : ∀ r, (r ∈ a ∨ r ∈ b) → ∀ k, r.foot k → ¬ t'.foot k := by
    intro r hr k e e2
    have hm : r ∈ s :: (a ++ t :: b) := by rcases hr with hr | hr; exact ma r hr; exact mb r hr
    rcases hf k e2 with e3 | e3 | e3
    · exact es r hr k e e3
    · rcases hr with hr | hr
      · exact ea r hr k e e3
      · exact eb r hr k e e3
    · have := h.lt hm k e
      omega
  refine ⟨hk.below h.below (h.new t mt) h.below.size, ?_, ?_, ?_, ?_⟩
  · intro r hr
    rcases List.mem_append.1 hr with hr | hr
    · exact h.ok r (ma r hr)
    · rcases List.mem_cons.1 hr with rfl | hr
      · exact ok
      · exact h.ok r (mb r hr)
  · intro r hr
    rcases List.mem_append.1 hr with hr | hr
    · exact (h.ok r (ma r hr)).keeps (h.inv r (ma r hr)) hk (ea r hr)
    · rcases List.mem_cons.1 hr with rfl | hr
      · exact inv
      · exact (h.ok r (mb r hr)).keeps (h.inv r (mb r hr)) hk (eb r hr)
  · intro r hr k e
    rcases List.mem_append.1 hr with hr | hr
    · exact h.new r (ma r hr) k e
    · rcases List.mem_cons.1 hr with rfl | hr
      · rcases hf k e with e | e | e
        · exact h.new s ms k e
        · exact h.new t mt k e
        · exact Nat.le_trans h.below.size e
      · exact h.new r (mb r hr) k e
  · refine List.pairwise_append.2 ⟨hp.1, List.pairwise_cons.2 ⟨fun r hr k e e2 => key r (.inr hr) k e2 e, hpc.2⟩, fun r hr q hq => ?_⟩
    rcases List.mem_cons.1 hq with rfl | hq
    · exact key r (.inl hr)
    · exact hp.2.2 r hr q (List.mem_cons_of_mem _ hq)
end

/-- A list is kept. -/
theorem keep_list {W w : World} {a b : List Thing} {xa : Option Addr} {ca : Nat} {m : List Int} {kb : Nat} {fv wv : Value} {fs ws : List PL} (h : Hold W w (rowT (.slice xa m.length ca) m :: (a ++ bkT kb fv wv fs ws :: b))) (hm : m.length ≤ 150) (hn : fs.length < 250) :
    Calls Try.prog 15 #[.pointer (some ⟨kb, 0, none⟩), .slice xa m.length ca] w fun e w' => e = .returned (.tuple #[]) ∧ Hid (∃ fv' wv' cv, Hold W w' (a ++ bkT kb fv' wv' (fs ++ [(.slice xa m.length ca, m)]) (ws ++ [(cv, m)]) :: b)) := by
  have hr : w.ownsRow 0 3 1 (.slice xa m.length ca) m.length (icells m) := h.inv (rowT (.slice xa m.length ca) m) (by simp)
  have hB : Bkd w kb fv wv fs ws := h.inv (bkT kb fv wv fs ws) (by simp)
  have hd : ∀ k, (Value.slice xa m.length ca).ownBlock = some k → ¬ kfoot kb fv wv fs ws k := (List.pairwise_cons.1 h.apart).1 (bkT kb fv wv fs ws) (by simp)
  have hsame : fs.length = ws.length := by have := congrArg List.length hB.same; simpa using this
  refine (ints_ok hB.book hsame hn xa ca m hr hm).mono ?_
  rintro e w' ⟨rfl, fv', wv', cv, hb, hk, hf⟩
  have hw : ∀ k, kwrites kb fv wv k → kfoot kb fv wv fs ws k := by
    rintro k (e | e | e)
    · exact .inl e
    · exact .inr (.inl (.inl e))
    · exact .inr (.inr (.inl e))
  refine ⟨rfl, fv', wv', cv, h.merge (bkT_ok _ _ _ _ _) ⟨hb, by simp [hB.same], fun p hp => ?_, ?_⟩ (hk.mono fun k _ e => hw k e) ?_⟩
  · rcases List.mem_append.1 hp with hp | hp
    · exact hB.small p hp
    · obtain rfl := List.mem_singleton.1 hp
      exact hm
  · have key : ∀ (i : Nat) (p : PL), (fs ++ [((.slice xa m.length ca : Value), m)])[i]? = some p → fs[i]? = some p ∨ (i = fs.length ∧ p = (.slice xa m.length ca, m)) := by
      intro i p hp
      rw [List.getElem?_append] at hp
      by_cases hi : i < fs.length
      · rw [if_pos hi] at hp
        exact .inl hp
      · rw [if_neg hi] at hp
        have := (List.getElem?_eq_some_iff.1 hp).1
        simp at this
        obtain rfl : i = fs.length := by omega
        simp at hp
        exact .inr ⟨rfl, hp.symm⟩
    intro i j p q hp hq hij k e e2
    rcases key i p hp with hp | ⟨rfl, rfl⟩
    · rcases key j q hq with hq | ⟨rfl, rfl⟩
      · exact hB.apart i j p q hp hq hij k e e2
      · exact hd k e2 (.inr (.inl (.inr ⟨p, List.mem_of_getElem? hp, e⟩)))
    · rcases key j q hq with hq | ⟨rfl, rfl⟩
      · exact hd k e (.inr (.inl (.inr ⟨q, List.mem_of_getElem? hq, e2⟩)))
      · exact hij rfl
  · rintro k (e | (e | ⟨p, hp, e⟩) | (e | ⟨p, hp, e⟩))
    · exact .inr (.inl (.inl e))
    · rcases (hf k).1 e with e | e
      · exact .inr (.inl (.inr (.inl (.inl e))))
      · exact .inr (.inr e)
    · rcases List.mem_append.1 hp with hp | hp
      · exact .inr (.inl (.inr (.inl (.inr ⟨p, hp, e⟩))))
      · obtain rfl := List.mem_singleton.1 hp
        exact .inl e
    · rcases (hf k).2.1 e with e | e
      · exact .inr (.inl (.inr (.inr (.inl e))))
      · exact .inr (.inr e)
    · rcases List.mem_append.1 hp with hp | hp
      · exact .inr (.inl (.inr (.inr (.inr ⟨p, hp, e⟩))))
      · obtain rfl := List.mem_singleton.1 hp
        exact .inr (.inr ((hf k).2.2 e))
/-- At the end: none shares memory with another one. -/
theorem book_apart {W w : World} {ts : List Thing} {kb : Nat} {fv wv : Value} {fs ws : List PL} (h : Hold W w ts) (hm : bkT kb fv wv fs ws ∈ ts) (hn : fs.length ≤ 250) :
    Calls Try.prog 17 #[.pointer (some ⟨kb, 0, none⟩)] w fun e w' => e = .returned (.bool true) ∧ Below W.heap.size W w' := by
  have hB : Bkd w kb fv wv fs ws := h.inv _ hm
  refine (apart_ok hB.book hB.same hn hB.small hB.apart (B := W.heap.size) (fun k e => h.new _ hm k (.inr (.inl e)))).mono ?_
  rintro e w' ⟨rfl, hk⟩
  exact ⟨rfl, hk.below h.below (fun k e => e) h.below.size⟩
/-- A new book. -/
theorem new_book (w : World) : Bkd (w.alloc (.cells #[.slice none 0 0, .slice none 0 0, .slice none 0 0, .slice none 0 0, .slice none 0 0, .slice none 0 0, .slice none 0 0, .slice none 0 0, .slice none 0 0, .slice none 0 0] 41)) w.heap.size (.slice none 0 0) (.slice none 0 0) [] [] :=
  ⟨⟨heap_alloc_new w _, ⟨World.ownsRow_nil _ _ _ _, (fun p hp => by cases hp)⟩, ⟨World.ownsRow_nil _ _ _ _, (fun p hp => by cases hp)⟩, fun k e => by simp [Value.ownBlock] at e⟩, rfl, (fun p hp => by cases hp), (fun i j p q hp => by simp at hp)⟩
theorem new_book_foot (w : World) : ∀ k, kfoot w.heap.size (.slice none 0 0) (.slice none 0 0) [] [] k → w.heap.size ≤ k := by
  rintro k (e | (e | ⟨p, hp, e⟩) | (e | ⟨p, hp, e⟩))
  · omega
  · simp [Value.ownBlock] at e
  · cases hp
  · simp [Value.ownBlock] at e
  · cases hp
end Go.Proofs.Ytkodpoijdaoihaa
