/-
  Lists of records that a call owns: a cell of one is written.
-/
import Derived.Test.YtocpjajafocdaaaGRow
namespace Go.Proofs.Ytocpjajafocdaaa
open Go.RowKit
section
variable {α : Type} {R : Recs α} {w w' W : World} {a : Option Addr} {l m : List α} {e : TypeId} {B rb n c : Nat} {v : Value} {x : Option Addr}
theorem Recs.cells_set (l : List α) (i j : Nat) (y y' : α) (u : Value) (hi : l[i]? = some y) (hy : R.of y' = (R.of y).set j u) (hj : j < R.width) : (R.cells l).set (i * R.width + j) u = R.cells (l.set i y') := by
  induction l generalizing i with
  | nil => simp at hi
  | cons x l ih =>
    rw [R.cells_cons]
    cases i with
    | zero =>
      simp at hi
      subst hi
      rw [Nat.zero_mul, Nat.zero_add, List.set_append_left _ _ (by rw [R.len]; exact hj), List.set_cons_zero, R.cells_cons, hy]
    | succ i =>
      have e : (i + 1) * R.width + j - R.width = i * R.width + j := by rw [Nat.add_mul]; omega
      rw [List.set_append_right _ _ (by rw [R.len, Nat.add_mul]; omega), R.len, e, List.set_cons_succ, R.cells_cons, ih i (by simpa using hi)]
/-- A cell of a record in it is written. -/
theorem Recs.rowset {ts us : List Thing} (h : Hold W w (ts ++ R.rowT e (.slice (some ⟨rb, 0, none⟩) n c) l :: us)) (i j : Nat) (y y' : α) (u : Value) (hi : l[i]? = some y) (hy : R.of y' = (R.of y).set j u) (hj : j < R.width) :
    Hold W (w.setCell ⟨rb, i * R.width + j, none⟩ u) (ts ++ R.rowT e (.slice (some ⟨rb, 0, none⟩) n c) (l.set i y') :: us) := by
  have ho : R.Own e 0 w (.slice (some ⟨rb, 0, none⟩) n c) l := h.inv (R.rowT e (.slice (some ⟨rb, 0, none⟩) n c) l) (by simp)
  have hn := own_len ho
  subst hn
  have hs := World.ownsRow.stored ho (i * R.width + j) u
  refine h.act ⟨R.rowT_ok, ?_, (Keeps.refl (fun k => (Value.slice (some ⟨rb, 0, none⟩) l.length c).ownBlock = some k) w).setCell (p := ⟨rb, i * R.width + j, none⟩) (.inl rfl) u, fun _ e => .inl e⟩
  show R.Own e 0 (w.setCell ⟨rb, i * R.width + j, none⟩ u) (.slice (some ⟨rb, 0, none⟩) l.length c) (l.set i y')
  have h2 := hs.1
  rw [Recs.cells_set l i j y y' u hi hy hj] at h2
  unfold Recs.Own
  rw [List.length_set]
  exact h2
end
end Go.Proofs.Ytocpjajafocdaaa
