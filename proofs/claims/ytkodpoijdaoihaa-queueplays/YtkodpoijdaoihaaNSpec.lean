/-
  Package queue without the program: a list of ids; what a call says and leaves.
-/
import Derived.Test.YtkodpoijdaoihaaGMem
import Derived.Lib.Slices
namespace Go.Proofs.Ytkodpoijdaoihaa
open Go.RowKit

/-- Which place an id has; -1: none. -/
def placeQ (l : List Int) (id : Int) : Int := Lib.idxOf l id
/-- May one be put in? -/
def mayQ (most : Int) (l : List Int) (id : Int) : Int := if id ∈ l then 1 else if most ≤ (l.length : Int) then 13 else 0
def putQ (most : Int) (l : List Int) (id : Int) : List Int := if mayQ most l id = 0 then l ++ [id] else l
def backQ (most : Int) (l : List Int) (id : Int) : List Int := if mayQ most l id = 0 then id :: l else l
def cutQ (l : List Int) (id : Int) : List Int := l.erase id
theorem may_in {most : Int} {l : List Int} {id : Int} (h : id ∈ l) : mayQ most l id = 1 := by rw [mayQ, if_pos h]
theorem may_full {most : Int} {l : List Int} {id : Int} (h : ¬ id ∈ l) (h2 : most ≤ (l.length : Int)) : mayQ most l id = 13 := by rw [mayQ, if_neg h, if_pos h2]
theorem may_yes {most : Int} {l : List Int} {id : Int} (h : ¬ id ∈ l) (h2 : (l.length : Int) < most) : mayQ most l id = 0 := by rw [mayQ, if_neg h, if_neg (by omega)]
theorem put_yes {most : Int} {l : List Int} {id : Int} (h : mayQ most l id = 0) : putQ most l id = l ++ [id] := by rw [putQ, if_pos h]
theorem put_no {most : Int} {l : List Int} {id : Int} (h : mayQ most l id ≠ 0) : putQ most l id = l := by rw [putQ, if_neg h]
theorem back_yes {most : Int} {l : List Int} {id : Int} (h : mayQ most l id = 0) : backQ most l id = id :: l := by rw [backQ, if_pos h]
theorem back_no {most : Int} {l : List Int} {id : Int} (h : mayQ most l id ≠ 0) : backQ most l id = l := by rw [backQ, if_neg h]
theorem idxFrom_in : ∀ (l : List Int) (id : Int) (k : Nat), id ∈ l → ∃ i : Nat, Lib.idxFrom l id k = ((k + i : Nat) : Int) ∧ i < l.length ∧ l[i]? = some id ∧ l.take i ++ l.drop (i + 1) = l.erase id
  | [], _, _, h => by cases h
  | x :: l, id, k, h => by
    by_cases e : x = id
    · exact ⟨0, by simp [Lib.idxFrom, e], by simp, by simp [e], by simp [e]⟩
    · have hm : id ∈ l := by
        rcases List.mem_cons.1 h with h | h
        · exact absurd h.symm e
        · exact h
      obtain ⟨i, h1, h2, h3, h4⟩ := idxFrom_in l id (k + 1) hm
      refine ⟨i + 1, by simp only [Lib.idxFrom, if_neg e, h1]; congr 1; omega, by simpa using h2, by simpa using h3, ?_⟩
      have e2 : (x == id) = false := by simpa using e
      rw [List.erase_cons_tail (by simpa using e), ← h4]
      rfl
theorem place_in {l : List Int} {id : Int} (h : id ∈ l) : ∃ i : Nat, placeQ l id = (i : Int) ∧ i < l.length ∧ l[i]? = some id ∧ l.take i ++ l.drop (i + 1) = l.erase id := by
  obtain ⟨i, h1, h2⟩ := idxFrom_in l id 0 h
  exact ⟨i, by rw [placeQ, Lib.idxOf, h1, Nat.zero_add], h2⟩
theorem place_out {l : List Int} {id : Int} (h : ¬ id ∈ l) : placeQ l id = -1 := by
  have := Lib.idxOf_miss l l.length id fun j hj e => h (by
    rw [List.getD_eq_getElem?_getD, List.getElem?_eq_getElem hj] at e
    exact e ▸ List.getElem_mem hj)
  rwa [List.take_length] at this
theorem place_pos {l : List Int} {id : Int} : 0 ≤ placeQ l id ↔ id ∈ l := by
  by_cases h : id ∈ l
  · obtain ⟨i, h1, _⟩ := place_in h
    simp only [h, iff_true]
    omega
  · have := place_out h
    simp only [h, iff_false]
    omega
/-- Where an id stands but once. -/
theorem place_at {l : List Int} {id : Int} {i : Nat} (hn : l.Nodup) (h : l[i]? = some id) : placeQ l id = (i : Int) := by
  obtain ⟨j, h1, h2, h3, _⟩ := place_in (List.mem_of_getElem? h)
  rw [h1]
  congr 1
  have hi := (List.getElem?_eq_some_iff.1 h).1
  rw [List.getElem?_eq_getElem h2] at h3
  rw [List.getElem?_eq_getElem hi] at h
  have e : l[j]'h2 = l[i]'hi := (Option.some.inj h3).trans (Option.some.inj h).symm
  rcases Nat.lt_trichotomy j i with c | c | c
  · exact absurd e (List.pairwise_iff_getElem.1 hn j i h2 hi c)
  · exact c
  · exact absurd e.symm (List.pairwise_iff_getElem.1 hn i j hi h2 c)
theorem put_nodup {most : Int} {l : List Int} {id : Int} (h : l.Nodup) : (putQ most l id).Nodup := by
  unfold putQ
  split
  · rename_i e
    have hm : ¬ id ∈ l := fun hi => by rw [may_in hi] at e; omega
    refine List.nodup_append.2 ⟨h, by simp, ?_⟩
    intro a ha b hb
    obtain rfl := List.mem_singleton.1 hb
    exact fun e => hm (e ▸ ha)
  · exact h
theorem back_nodup {most : Int} {l : List Int} {id : Int} (h : l.Nodup) : (backQ most l id).Nodup := by
  unfold backQ
  split
  · rename_i e
    exact List.nodup_cons.2 ⟨fun hi => by rw [may_in hi] at e; omega, h⟩
  · exact h
theorem put_len {most : Int} {l : List Int} {id : Int} : (putQ most l id).length ≤ l.length + 1 := by
  unfold putQ
  split <;> simp
theorem back_len {most : Int} {l : List Int} {id : Int} : (backQ most l id).length ≤ l.length + 1 := by
  unfold backQ
  split <;> simp
theorem cut_len {l : List Int} {id : Int} : (cutQ l id).length ≤ l.length := by unfold cutQ; exact List.length_erase_le
end Go.Proofs.Ytkodpoijdaoihaa
