/-
  A queue, and a list of numbers of the statement's own beside it.
-/
import Derived.Test.YtkodpoijdaoihaaNLive
import Derived.Test.YtkodpoijdaoihaaGInts
namespace Go.Proofs.Ytkodpoijdaoihaa
open Go.RowKit

section
variable {W w : World} {g : Nat} {most : Int} {l m : List Int} {x : Option Addr} {n c : Nat} {ts : List Thing}
theorem HQ.num (h : HQ W w g most l (numT x n c m :: ts)) : numR.Own 3 0 w (.slice x n c) m := by
  obtain ⟨v, h⟩ := h
  exact h.inv (numT x n c m) (by simp)
theorem HQ.newnum (h : HQ W w g most l ts) : HQ W w g most l (numT none 0 0 [] :: ts) := by
  obtain ⟨v, h⟩ := h
  exact ⟨v, (Recs.newrow (R := numR) h 3).swap⟩
/-- One more behind it. -/
theorem q_more (h : HQ W w g most l (numT x m.length c m :: ts)) (hm : m.length ≤ 100000) (id : Int) :
    ∃ x' c' w', (Builtin.append_ #[32, 32] 32 #[.slice x m.length c, .slice (some ⟨w.heap.size, 0, none⟩) 1 1]).run Try.prog (w.alloc (.cells #[.int .i64 id] 3)) = .ok (.slice x' (m.length + 1) c') w' ∧ Hid (HQ W w' g most l (numT x' (m.length + 1) c' (m ++ [id]) :: ts)) := by
  obtain ⟨v, h⟩ := h
  obtain ⟨x', n', c', w', r, H⟩ := Recs.app_lit (P := Try.prog) (R := numR) (ts := [quT g v most l]) (us := ts) 32 32 3 _ 8 Try.underlying32 infoInt rfl h id #[.int .i64 id] rfl (by omega) (by decide)
  obtain ⟨hn, H⟩ := H.out
  rw [List.length_append] at hn
  have hn' : n' = m.length + 1 := hn
  subst hn'
  exact ⟨x', c', w', r, v, H⟩
theorem num_one {w0 : World} (h : Hold W w0 ts) (id : Int) : Hold W (w0.alloc (.cells #[.int .i64 id] 3)) (numT (some ⟨w0.heap.size, 0, none⟩) 1 1 [id] :: ts) := by
  refine h.add (keeps_alloc _ _) (Recs.rowT_ok) ?_ fun k e => by cases e; exact Nat.le_refl _
  exact ⟨rfl, .inr ⟨w0.heap.size, 1, #[.int .i64 id], rfl, Nat.zero_le _, heap_alloc_new w0 _, Nat.le_refl _, by decide, rfl, rfl⟩⟩
/-- One ahead of it: append([]int{id}, it...). -/
theorem q_ahead (h : HQ W w g most l (numT x m.length c m :: ts)) (hm : m.length ≤ 100000) (id : Int) :
    ∃ x' c' w', (Builtin.append_ #[32, 32] 32 #[.slice (some ⟨w.heap.size, 0, none⟩) 1 1, .slice x m.length c]).run Try.prog (w.alloc (.cells #[.int .i64 id] 3)) = .ok (.slice x' (m.length + 1) c') w' ∧ Hid (HQ W w' g most l (numT x' (m.length + 1) c' (id :: m) :: ts)) := by
  obtain ⟨v, h⟩ := h
  have H1 := num_one h id
  have hl : numR.Lies (w.alloc (.cells #[.int .i64 id] 3)) x m nobody := Recs.own_lies (H1.inv (numT x m.length c m) (by simp)) fun _ _ e => e
  obtain ⟨x', n', c', w', r, H⟩ := Recs.app (P := Try.prog) (R := numR) (ts := []) (us := quT g v most l :: numT x m.length c m :: ts) 32 32 3 _ 8 Try.underlying32 infoInt rfl H1 hl c (by simp; omega) (by decide)
  obtain ⟨hn, H⟩ := H.out
  have hn' : n' = m.length + 1 := by rw [hn]; simp
  subst hn'
  refine ⟨x', c', w', r, v, ?_⟩
  exact Hold.swap (H.sub (List.Sublist.cons_cons _ (List.Sublist.cons_cons _ (List.Sublist.cons _ (List.Sublist.refl _)))))
end
theorem put_mem {l : List Int} {id : Int} {most : Int} (h : ¬ id ∈ l) (h2 : (l.length : Int) < most) : putQ most l id = l ++ [id] := put_yes (may_yes h h2)
theorem nodup_more {l : List Int} {id : Int} (h : l.Nodup) (hm : ¬ id ∈ l) : (l ++ [id]).Nodup := by
  refine List.nodup_append.2 ⟨h, by simp, fun a ha b hb e => ?_⟩
  obtain rfl := List.mem_singleton.1 hb
  exact hm (e ▸ ha)
theorem place_last {l : List Int} {id : Int} (h : l.Nodup) (hm : ¬ id ∈ l) : placeQ (l ++ [id]) id = (l.length : Int) := place_at (nodup_more h hm) (by simp)
theorem place_front {l : List Int} {id : Int} (h : l.Nodup) (hm : ¬ id ∈ l) : placeQ (id :: l) id = 0 := place_at (i := 0) (List.nodup_cons.2 ⟨hm, h⟩) rfl
theorem drop_next {l : List Int} {j : Nat} {id : Int} (h : l[j]? = some id) : l.drop j = id :: l.drop (j + 1) := by
  have hj := (List.getElem?_eq_some_iff.1 h)
  rw [List.drop_eq_getElem_cons hj.1, hj.2]
theorem drop_gone {l : List Int} {j : Nat} {id : Int} (hn : l.Nodup) (h : l[j]? = some id) : ¬ id ∈ l.drop (j + 1) := by
  have := (List.Sublist.nodup (List.drop_sublist j l) hn)
  rw [drop_next h] at this
  exact (List.nodup_cons.1 this).1
/-- Where a list of numbers lies that came in, as a later world has it. -/
def AtI (w : World) (b off : Nat) (l : List Int) : Prop := ∀ i x, l[i]? = some x → w.cell? ⟨b, off + i, none⟩ = some (.int .i64 x)
theorem Ints.at {W : World} {a : Option Addr} {l : List Int} (h : Ints W a l) : ∃ b off, (l = [] ∨ a = some ⟨b, off, none⟩) ∧ ∀ w, Below W.heap.size W w → AtI w b off l := by
  rcases h.1 with rfl | ⟨b, off, e, hb, hc⟩
  · exact ⟨0, 0, .inl rfl, fun w _ i x hi => by simp at hi⟩
  · exact ⟨b, off, .inr e, fun w hw i x hi => (World.cell?_of_block (hw.block _ hb)).trans (hc i x hi)⟩
end Go.Proofs.Ytkodpoijdaoihaa
