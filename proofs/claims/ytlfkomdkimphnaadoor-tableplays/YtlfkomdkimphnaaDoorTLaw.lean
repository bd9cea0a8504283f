/-
  Plain facts on tables' lists; what the statements' loops need.
-/
import Derived.Test.YtlfkomdkimphnaaDoorTOpen
namespace Go.Proofs.YtlfkomdkimphnaaDoor
open Go.RowKit

/-- So many added, one behind the other. -/
def adds (size : Nat) (l : List Fld) : List Fld := l.foldl (fun acc f => addL size f acc) []
theorem adds_nil (size : Nat) : adds size [] = [] := rfl
theorem adds_snoc (size : Nat) (l : List Fld) (f : Fld) : adds size (l ++ [f]) = addL size f (adds size l) := by simp [adds]
theorem adds_take (size : Nat) (l : List Fld) (j : Nat) (h : j < l.length) : adds size (l.take (j + 1)) = addL size (l[j]'h) (adds size (l.take j)) := by
  rw [List.take_succ_eq_append_getElem h, adds_snoc]
theorem adds_fits (size : Nat) (l : List Fld) : sum (adds size l) ≤ size := by
  by_cases h : l = []
  · subst h; simp [adds, sum]
  · rw [← List.dropLast_concat_getLast h, adds_snoc]; exact addL_fits _ _ _

theorem findAt_first (f : Fld) (l : List Fld) : ∀ (i nm j : Nat), l[j]? = some f → (∀ k, k < j → l[k]? ≠ some f) → findAt f i nm l = (i + j + 1, true) := by
  induction l with
  | nil => intro i nm j h; simp at h
  | cons g l ih =>
    intro i nm j h hn
    cases j with
    | zero =>
      simp at h
      subst h
      simp [findAt]
    | succ j =>
      have hg : g ≠ f := fun e => hn 0 (by omega) (by simp [e])
      simp only [findAt, if_neg hg]
      rw [ih (i + 1) _ j (by simpa using h) (fun k hk => by simpa using hn (k + 1) (by omega))]
      congr 1
      omega
theorem always_apart : ∀ i, i < 16 → ∀ k, k < i → always[k]? ≠ always[i]? := by decide +kernel
theorem always_named : ∀ i, i < 16 → ∀ f, always[i]? = some f → f.1 ≠ ⟨#[]⟩ := by
  have h : ∀ f ∈ always, f.1 ≠ ⟨#[]⟩ := by decide +kernel
  intro i _ f hf
  exact h f (List.mem_of_getElem? hf)
theorem find_always (l : List Fld) (i : Nat) (hi : i < 16) (f : Fld) (hf : always[i]? = some f) : find l f = (i + 1, true) := by
  unfold find
  have h := findAt_first f (always ++ l) 0 0 i (by rw [List.getElem?_append_left (by rw [always_length]; exact hi)]; exact hf) (fun k hk => by
    rw [List.getElem?_append_left (by rw [always_length]; omega), ← hf]
    exact always_apart i hi k hk)
  rw [h]
  simp

theorem isEmpty_ne {b : ByteArray} (h : b ≠ ⟨#[]⟩) : b.toList.isEmpty = false := by
  rw [ByteArray.toList_eq]
  obtain ⟨⟨x⟩⟩ := b
  cases x with
  | nil => exact absurd rfl h
  | cons _ _ => rfl

theorem Flds.len {W : World} {a : Option Addr} {l : List Fld} (h : Flds W a l) : l.length ≤ 140737488355328 := h.2.1
theorem Flds.size {W : World} {a : Option Addr} {l : List Fld} (h : Flds W a l) (j : Nat) (hj : j < l.length) : (l[j]'hj).1.size ≤ 140737488355328 ∧ (l[j]'hj).2.size ≤ 140737488355328 := h.2.2 _ (List.getElem_mem hj)
theorem Flds.addr {W : World} {a : Option Addr} {l : List Fld} (h : Flds W a l) (hl : 0 < l.length) : ∃ b off, a = some ⟨b, off, none⟩ ∧ b < W.heap.size ∧ ∀ (w : World) (i : Nat) (hi : i < l.length), Below W.heap.size W w → w.cell? ⟨b, off + i * 2, none⟩ = some (.string (l[i]'hi).1) ∧ w.cell? ⟨b, off + i * 2 + 1, none⟩ = some (.string (l[i]'hi).2) := by
  rcases h.1 with rfl | ⟨b, off, rfl, hb, hc⟩
  · simp at hl
  · refine ⟨b, off, rfl, hb, fun w i hi hB => ?_⟩
    obtain ⟨c0, c1⟩ := hc i _ (List.getElem?_eq_getElem hi)
    exact ⟨(hB.cell (p := ⟨b, off + i * 2, none⟩) hb).trans c0, (hB.cell (p := ⟨b, off + i * 2 + 1, none⟩) hb).trans c1⟩
end Go.Proofs.YtlfkomdkimphnaaDoor
