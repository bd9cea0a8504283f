/-
  QueuePlays' things: the list that the law keeps itself, what is done, the book.
-/
import Derived.Test.YtkodpoijdaoihaaNOpen
import Derived.Test.YtkodpoijdaoihaaCBook
namespace Go.Proofs.Ytkodpoijdaoihaa
open Go.RowKit

theorem num_cells (l : List Int) : numR.cells l = icells l := by
  induction l with
  | nil => rfl
  | cons x l ih => rw [Recs.cells_cons, ih]; rfl
theorem num_owns {w : World} {v : Value} {l : List Int} {B : Nat} (h : numR.Own 3 B w v l) : w.ownsRow B 3 1 v l.length (icells l) := by
  have h' : w.ownsRow B 3 numR.width v l.length (numR.cells l) := h
  rw [num_cells] at h'
  exact h'
/-- Where the law's own search stands behind i of them. -/
def atQ (L : List Int) (id : Int) (i : Nat) : Int := if id ∈ L.take i then placeQ L id else -1
theorem at_zero (L : List Int) (id : Int) : atQ L id 0 = -1 := by simp [atQ]
theorem at_hit {L : List Int} {id : Int} {i : Nat} (hn : L.Nodup) (hi : L[i]? = some id) : atQ L id (i + 1) = (i : Int) := by
  rw [atQ, if_pos, place_at hn hi]
  rw [List.take_add_one, hi]
  simp
theorem at_miss {L : List Int} {id x : Int} {i : Nat} (hi : L[i]? = some x) (hx : x ≠ id) : atQ L id (i + 1) = atQ L id i := by
  have e : (id ∈ L.take (i + 1)) ↔ id ∈ L.take i := by
    rw [List.take_add_one, hi]
    simp
    intro h
    exact absurd h.symm hx
  simp only [atQ, e]
theorem at_end {L : List Int} {id : Int} {i : Nat} (h : i = L.length) : atQ L id i = placeQ L id := by
  rw [atQ, h, List.take_length]
  split
  · rfl
  · rename_i h
    exact (place_out h).symm
section
variable {W w w' : World} {g : Nat} {most : Int} {l L : List Int} {ts us : List Thing} {t : Thing}
theorem HQ.sub (h : HQ W w g most l ts) (hs : List.Sublist us ts) : HQ W w g most l us := by
  obtain ⟨v, h⟩ := h
  exact ⟨v, h.sub (List.Sublist.cons_cons _ hs)⟩
theorem HQ.join (h : HQ W w g most l ts) (H : Hold w w' [t]) : HQ W w' g most l (t :: ts) := by
  obtain ⟨v, h⟩ := h
  exact ⟨v, (Hold.join h H).swap⟩
theorem HQ.op (h : HQ W w g most l ts) (cs : Array Value) (T : TypeId) : HQ W (w.alloc (.cells cs T)) g most l (recT w.heap.size cs T :: ts) := by
  obtain ⟨v, h⟩ := h
  exact ⟨v, (h.newrec cs T).swap⟩
theorem HQ.opcells {ob : Nat} {kd id : Int} {T : TypeId} (h : HQ W w g most l ts) (hm : recT ob #[.int .i64 kd, .int .i64 id] T ∈ ts) : w.cell? ⟨ob, 0, none⟩ = some (.int .i64 kd) ∧ w.cell? ⟨ob, 1, none⟩ = some (.int .i64 id) ∧ ob < w.heap.size := by
  obtain ⟨v, h⟩ := h
  obtain ⟨h1, _, h3⟩ := h.cellsOf (List.mem_cons_of_mem _ hm)
  exact ⟨h1 0, h1 1, h3⟩
theorem HQ.own {x : Option Addr} {n c : Nat} (h : HQ W w g most l ts) (hm : numT x n c L ∈ ts) : numR.Own 3 0 w (.slice x n c) L := by
  obtain ⟨v, h⟩ := h
  exact h.inv _ (List.mem_cons_of_mem _ hm)
theorem HQ.lies {x : Option Addr} {n c : Nat} (h : HQ W w g most l ts) (hm : numT x n c L ∈ ts) : numR.Lies w x L nobody := Recs.own_lies (h.own hm) fun _ _ e => e
/-- The slices of a list that a call owns. -/
theorem slice_front (rb n c i : Nat) (hi : i ≤ c) (W : World) : (Instr.slice 32 (.slice (some ⟨rb, 0, none⟩) n c) none (some (.int .i64 (i : Int))) none).run Try.prog W = .ok (.slice (some ⟨rb, 0, none⟩) i c) W := by
  rw [run_slice_h (w := W) 32 _ _ _ under_ints .i64 _ (by omega) (by omega), elem_ints, size_int]
  simp [Result.andThen, sliced, Addr.add_mid]
theorem slice_back (rb n c k : Nat) (hk : k ≤ n) (W : World) : (Instr.slice 32 (.slice (some ⟨rb, 0, none⟩) n c) (some (.int .i64 (k : Int))) none none).run Try.prog W = .ok (.slice (some ⟨rb, if c = k then 0 else k, none⟩) (n - k) (c - k)) W := by
  rw [run_slice_l W 32 _ _ _ under_ints .i64 _ (by omega) (by omega), elem_ints, size_int]
  by_cases h : c = k
  · simp [Result.andThen, sliced, h]
  · simp [Result.andThen, sliced, h, Addr.add_mid]
theorem front_lies {rb n c i : Nat} (h : numR.Own 3 0 w (.slice (some ⟨rb, 0, none⟩) n c) L) : numR.Lies w (some ⟨rb, 0, none⟩) (L.take i) nobody := by
  refine Recs.Lies.prefix (m := L.drop i) ?_
  rw [List.take_append_drop]
  exact Recs.own_lies h fun _ _ e => e
theorem back_lies {rb n c k : Nat} (h : numR.Own 3 0 w (.slice (some ⟨rb, 0, none⟩) n c) L) : numR.Lies w (some ⟨rb, if c = k then 0 else k, none⟩) (L.drop k) nobody := by
  by_cases h0 : L.drop k = []
  · exact .inl h0
  · have hk : k < L.length := by
      refine Nat.lt_of_not_le fun e => h0 (List.drop_eq_nil_of_le e)
    obtain ⟨_, e, _, hb, hc, _⟩ := own_some h (by omega)
    cases e
    rw [if_neg (by omega)]
    refine .inr ⟨rb, k, rfl, hb, id, fun i x hi j v hj => ?_⟩
    rw [List.getElem?_drop] at hi
    have := Recs.own_cell h (k + i) j x v hi hj
    rwa [show (k + i) * numR.width + j = k + (i * numR.width + j) by show (k + i) * 1 + j = k + (i * 1 + j); omega] at this
/-- Both in one: where what is left lies. -/
theorem back_at (rb n c k m c' : Nat) (L : List Int) (hk : k + m = n) (hc : k + c' = c) : ∃ off, (∀ W, (Instr.slice 32 (.slice (some ⟨rb, 0, none⟩) n c) (some (.int .i64 (k : Int))) none none).run Try.prog W = .ok (.slice (some ⟨rb, off, none⟩) m c') W) ∧ ∀ w, numR.Own 3 0 w (.slice (some ⟨rb, 0, none⟩) n c) L → numR.Lies w (some ⟨rb, off, none⟩) (L.drop k) nobody := by
  refine ⟨_, fun W => ?_, fun w h => back_lies (k := k) h⟩
  rw [slice_back rb n c k (by omega) W, show n - k = m by omega, show c - k = c' by omega]
/-- A new book beside it, and an empty list. -/
theorem t_start (H : HQ W w g most [] []) : HQ W (w.alloc (.cells #[.slice none 0 0, .slice none 0 0, .slice none 0 0, .slice none 0 0, .slice none 0 0, .slice none 0 0, .slice none 0 0, .slice none 0 0, .slice none 0 0, .slice none 0 0] 41)) g most [] [numT none 0 0 [], bkT w.heap.size (.slice none 0 0) (.slice none 0 0) [] []] := by
  obtain ⟨v, H⟩ := H
  refine HQ.newnum ⟨v, Hold.swap (H.add (keeps_alloc _ _) (bkT_ok _ _ _ _ _) (new_book w) (new_book_foot w))⟩
variable {kb : Nat} {fv wv : Value} {fs ws : List PL} {x xa : Option Addr} {n c ca : Nat}
theorem t_keep (H : HQ W w g most l (rowT (.slice xa l.length ca) l :: [numT x n c l, bkT kb fv wv fs ws])) (hm : l.length ≤ 150) (hn : fs.length < 250) : Calls Try.prog 15 #[.pointer (some ⟨kb, 0, none⟩), .slice xa l.length ca] w fun e w' => e = .returned (.tuple #[]) ∧ Hid (∃ fv' wv' cv, HQ W w' g most l [numT x n c l, bkT kb fv' wv' (fs ++ [(.slice xa l.length ca, l)]) (ws ++ [(cv, l)])]) := by
  obtain ⟨v, H⟩ := H
  refine (keep_list (a := [quT g v most l, numT x n c l]) (b := []) H.swap hm hn).mono ?_
  rintro e w' ⟨he, fv', wv', cv, h⟩
  exact ⟨he, fv', wv', cv, v, h⟩
theorem t_same {ws' : List PL} (H : HQ W w g most l [numT x n c l, bkT kb fv wv (fs ++ [(.slice xa l.length ca, l)]) ws']) (hm : l.length ≤ 150) : Calls Try.prog 16 #[.slice xa l.length ca, .slice x n c] w fun e w' => e = .returned (.bool true) ∧ Hid (HQ W w' g most l [numT x n c l, bkT kb fv wv (fs ++ [(.slice xa l.length ca, l)]) ws']) := by
  have H' := H
  obtain ⟨v, h⟩ := H'
  have hB : Bkd w kb fv wv (fs ++ [(.slice xa l.length ca, l)]) ws' := h.inv _ (List.mem_cons_of_mem _ (List.mem_cons_of_mem _ (List.mem_singleton.2 rfl)))
  have hr : w.ownsRow 0 3 1 (.slice xa l.length ca) l.length (icells l) := hB.book.f.rows (.slice xa l.length ca, l) (by simp)
  refine (same_ok hr (num_owns (H.own (by simp))) (by omega)).mono ?_
  rintro e w' ⟨he, hk⟩
  exact ⟨he, H.quiet hk⟩
theorem t_apart (H : HQ W w g most l [numT x n c L, bkT kb fv wv fs ws]) (hn : fs.length ≤ 250) : Calls Try.prog 17 #[.pointer (some ⟨kb, 0, none⟩)] w fun e w' => e = .returned (.bool true) ∧ Below W.heap.size W w' := by
  obtain ⟨v, H⟩ := H
  exact book_apart (kb := kb) (fv := fv) (wv := wv) (fs := fs) (ws := ws) H (List.mem_cons_of_mem _ (List.mem_cons_of_mem _ (List.mem_singleton.2 rfl))) hn
end
end Go.Proofs.Ytkodpoijdaoihaa
