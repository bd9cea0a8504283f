/-
  PumpFits: what stands ahead of its walk.
-/
import Derived.Test.YtocpjajafocdaaaMAt
namespace Go.Proofs.Ytocpjajafocdaaa
open Go.RowKit

/-- Numbers rise. -/
def Rises (l : List Pt) (j : Nat) : Prop := ∀ x p q, x < j → l[x]? = some p → l[x + 1]? = some q → p.id < q.id
theorem rises_all {l : List Pt} (h : Rises l l.length) {j : Nat} {p q : Pt} (hj : l[j]? = some p) (hq : q ∈ l.drop (j + 1)) : p.id < q.id := by
  obtain ⟨t, ht, rfl⟩ := List.mem_iff_getElem.1 hq
  rw [List.length_drop] at ht
  rw [List.getElem_drop]
  have key : ∀ t (ht : j + 1 + t < l.length), p.id < (l[j + 1 + t]'ht).id := by
    intro t
    induction t with
    | zero =>
      intro ht
      exact h j p _ (by omega) hj (List.getElem?_eq_getElem (by omega))
    | succ t ih =>
      intro ht
      have h1 := ih (by omega)
      have h2 := h (j + 1 + t) (l[j + 1 + t]'(by omega)) (l[j + 1 + (t + 1)]'ht) (by omega) (List.getElem?_eq_getElem (by omega)) (List.getElem?_eq_getElem (by omega))
      omega
  exact key t (by omega)
theorem fits_step (most i : Int) (f : Bool) (rest pl pd n m : Int) (hm : leastI (rest - n) most (pl - n) (pd - n) = m) (h : 0 < m) (hn : 0 ≤ n) :
    goL most i f (rest - n) (pl - n) (pd - n) = ⟨i, m, f && decide (pd - (n + m) = 0)⟩ :: goL most i f (rest - (n + m)) (pl - (n + m)) (pd - (n + m)) ∧ m ≤ max most 0 ∧ n + m ≤ pd ∧ 1 ≤ most ∧
    ((n + m = min (min pd pl) rest ∧ goes most rest pl pd = n + m ∧ goL most i f (rest - (n + m)) (pl - (n + m)) (pd - (n + m)) = []) ∨
      (n + m ≠ min (min pd pl) rest ∧ 0 < leastI (rest - (n + m)) most (pl - (n + m)) (pd - (n + m)) ∧ pd - (n + m) ≠ 0)) := by
  have hle := least_le (rest - n) most (pl - n) (pd - n)
  have e := go_step most i f (rest - n) (pl - n) (pd - n) m hm h
  simp only [Int.sub_sub] at e
  rw [hm] at hle
  refine ⟨e, by omega, by omega, by omega, ?_⟩
  by_cases hb : n + m = min (min pd pl) rest
  · left
    refine ⟨hb, ?_, ?_⟩
    · unfold goes
      rw [if_pos (by omega)]
      omega
    · apply go_none
      rw [least_pos]
      omega
  · right
    unfold leastI at hm
    refine ⟨hb, ?_, by omega⟩
    rw [least_pos]
    omega
theorem drop_head {α : Type} {G : List α} {k : Nat} {s : α} {r : List α} (h : G.drop k = s :: r) : G[k]? = some s ∧ G.drop (k + 1) = r ∧ k < G.length := by
  have h1 : k < G.length := by
    by_cases hk : k < G.length
    · exact hk
    · rw [List.drop_eq_nil_of_le (by omega)] at h
      cases h
  rw [List.drop_eq_getElem_cons h1] at h
  simp only [List.cons.injEq] at h
  exact ⟨by rw [List.getElem?_eq_getElem h1, h.1], h.2, h1⟩
/-- The next slice is another part's, if there is one. -/
theorem fits_next {most rest : Int} {l : List Pt} (hr : Rises l l.length) {j : Nat} {p : Pt} (hj : l[j]? = some p) {G : List Sl} {k : Nat} (h : G.drop k = planL most rest (l.drop (j + 1))) {s : Sl} (hs : G[k]? = some s) : (s.id == p.id) = false := by
  obtain ⟨hk, rfl⟩ := List.getElem?_eq_some_iff.1 hs
  have hm : G[k] ∈ planL most rest (l.drop (j + 1)) := by
    rw [← h, List.drop_eq_getElem_cons hk]
    exact List.mem_cons_self
  obtain ⟨_, q, hq, e⟩ := plan_each _ _ _ _ hm
  have := rises_all hr hj hq
  rw [e]
  simp
  omega
end Go.Proofs.Ytocpjajafocdaaa
