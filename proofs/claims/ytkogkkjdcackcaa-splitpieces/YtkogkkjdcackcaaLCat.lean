/-
  Frames one behind the other; where a list of frames lies.
-/
import Derived.Test.YtkogkkjdcackcaaLHoldsW
import Derived.Test.YtkogkkjdcackcaaLOpen
namespace Go.Proofs.Ytkogkkjdcackcaa
open Go.RowKit

/-- The bytes of frames, one behind the other. -/
def catA : List Frm → ByteArray
  | [] => ⟨#[]⟩
  | f :: l => putA f ++ catA l
theorem catA_snoc (l : List Frm) (f : Frm) : catA (l ++ [f]) = catA l ++ putA f := by
  induction l with
  | nil => simp only [List.nil_append, catA, none_append, append_none']
  | cons g l ih => simp only [List.cons_append, catA, ih, ByteArray.append_assoc]
theorem catA_take (l : List Frm) (j : Nat) (f : Frm) (h : l[j]? = some f) : catA (l.take (j + 1)) = catA (l.take j) ++ putA f := by
  rw [List.take_add_one, h]
  exact catA_snoc _ _
theorem drop_at (l : List Frm) (j : Nat) (f : Frm) (h : l[j]? = some f) : l.drop j = f :: l.drop (j + 1) := by
  obtain ⟨hj, rfl⟩ := List.getElem?_eq_some_iff.1 h
  exact List.drop_eq_getElem_cons hj
/-- Frames that may be, of few bytes. -/
def Few (m : Nat) (l : List Frm) : Prop := ∀ f ∈ l, right f ∧ f.body.size ≤ m
theorem catA_size (m : Nat) (l : List Frm) (h : Few m l) : (catA l).size ≤ (m + 9) * l.length := by
  induction l with
  | nil => rw [catA]; exact Nat.zero_le _
  | cons f l ih =>
    have h1 := h f (by simp)
    have h2 := ih fun g hg => h g (by simp [hg])
    rw [catA, ByteArray.size_append, put_size f h1.1, List.length_cons, Nat.mul_succ]
    omega
theorem Few.take_snoc {m : Nat} {l : List Frm} {j : Nat} {f : Frm} (h : Few m (l.take j)) (hf : l[j]? = some f) (hr : right f) (hs : f.body.size ≤ m) : Few m (l.take (j + 1)) := by
  rw [List.take_add_one, hf]
  intro g hg
  rcases List.mem_append.1 hg with h1 | h1
  · exact h g h1
  · simp at h1
    subst h1
    exact ⟨hr, hs⟩
/-- Where the frames lie, as a later world has it. -/
def At (w : World) (b off : Nat) (l : List Frm) : Prop := ∀ i f, l[i]? = some f → w.cell? ⟨b, off + i * 4, none⟩ = some (.int .i64 f.kind) ∧ w.cell? ⟨b, off + i * 4 + 1, none⟩ = some (.int .i64 f.flags) ∧ w.cell? ⟨b, off + i * 4 + 2, none⟩ = some (.int .i64 f.id) ∧ w.cell? ⟨b, off + i * 4 + 3, none⟩ = some (.string f.body)
theorem below_cell {W w : World} (h : Below W.heap.size W w) {p : Addr} (hp : p.block < W.heap.size) : w.cell? p = W.cell? p := World.cell?_of_block (h.block _ hp)
theorem at_of {W : World} {b off : Nat} {l : List Frm} (hb : b < W.heap.size) (hc : ∀ i f, l[i]? = some f → ∀ j v, (frcells f)[j]? = some v → W.cell? ⟨b, off + (i * 4 + j), none⟩ = some v) (w : World) (hw : Below W.heap.size W w) : At w b off l := fun i f hi => by
  have hk : ∀ n, w.cell? ⟨b, n, none⟩ = W.cell? ⟨b, n, none⟩ := fun n => below_cell hw hb
  exact ⟨(hk _).trans (hc i f hi 0 _ rfl), (hk _).trans (hc i f hi 1 _ rfl), (hk _).trans (hc i f hi 2 _ rfl), (hk _).trans (hc i f hi 3 _ rfl)⟩
end Go.Proofs.Ytkogkkjdcackcaa
