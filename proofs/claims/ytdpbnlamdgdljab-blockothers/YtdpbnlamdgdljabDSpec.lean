/-
  Frames in memory: lists of them, and where they lie; bywashbook.SameFrames.
-/
import Derived.Test.YtdpbnlamdgdljabRSpec
namespace Go.Proofs.Ytdpbnlamdgdljab
open Go.RowKit

def qpair (f : Frm) : List Value := [.int .i64 f.kind, .int .i64 f.flags, .int .i64 f.id, .string f.body]
def qcells (l : List Frm) : List Value := l.flatMap qpair
theorem qcells_nil : qcells [] = [] := rfl
theorem qcells_cons (f : Frm) (l : List Frm) : qcells (f :: l) = .int .i64 f.kind :: .int .i64 f.flags :: .int .i64 f.id :: .string f.body :: qcells l := rfl
theorem qcells_append (l m : List Frm) : qcells (l ++ m) = qcells l ++ qcells m := by simp [qcells]
theorem qcells_length (l : List Frm) : (qcells l).length = l.length * 4 := by
  induction l with
  | nil => rfl
  | cons f l ih => rw [qcells_cons]; simp [ih]; omega
theorem qcells_at (l : List Frm) (i : Nat) (f : Frm) (h : l[i]? = some f) : (qcells l)[i * 4]? = some (.int .i64 f.kind) ∧ (qcells l)[i * 4 + 1]? = some (.int .i64 f.flags) ∧ (qcells l)[i * 4 + 2]? = some (.int .i64 f.id) ∧ (qcells l)[i * 4 + 3]? = some (.string f.body) := by
  induction l generalizing i with
  | nil => simp at h
  | cons g l ih =>
    cases i with
    | zero => simp at h; subst h; exact ⟨rfl, rfl, rfl, rfl⟩
    | succ i =>
      have := ih i (by simpa using h)
      rw [qcells_cons, show (i + 1) * 4 = i * 4 + 1 + 1 + 1 + 1 by omega, show i * 4 + 1 + 1 + 1 + 1 + 1 = (i * 4 + 1) + 1 + 1 + 1 + 1 by omega, show i * 4 + 1 + 1 + 1 + 1 + 2 = (i * 4 + 2) + 1 + 1 + 1 + 1 by omega, show i * 4 + 1 + 1 + 1 + 1 + 3 = (i * 4 + 3) + 1 + 1 + 1 + 1 by omega]
      simpa using this
theorem qcells_one (l : List Frm) : ∀ v ∈ qcells l, v.oneCell' = true := by
  intro v hv
  obtain ⟨f, _, hf⟩ := List.mem_flatMap.1 hv
  simp [qpair] at hf
  rcases hf with rfl | rfl | rfl | rfl <;> rfl
theorem qcells_take (l : List Frm) (k : Nat) : (qcells l).take (k * 4) = qcells (l.take k) := by
  induction l generalizing k with
  | nil => simp [qcells]
  | cons f l ih =>
    cases k with
    | zero => simp [qcells]
    | succ k =>
      rw [qcells_cons, show (k + 1) * 4 = k * 4 + 1 + 1 + 1 + 1 by omega]
      simp [qcells_cons, ih k]
theorem infoQ : (Try.prog.info? 23).map (fun i => (i.zero, i.size, i.bytes)) = some (some (.agg #[.int .i64 0, .int .i64 0, .int .i64 0, .string ⟨#[]⟩]), 4, 40) := by kernel_rfl
theorem qrow_cells {w : World} {base n cap rb : Nat} {l : List Frm} (h : w.ownsRow base 23 4 (.slice (some ⟨rb, 0, none⟩) n cap) l.length (qcells l)) (i : Nat) (hi : i < l.length) : w.cell? ⟨rb, i * 4, none⟩ = some (.int .i64 (l[i]'hi).kind) ∧ w.cell? ⟨rb, i * 4 + 1, none⟩ = some (.int .i64 (l[i]'hi).flags) ∧ w.cell? ⟨rb, i * 4 + 2, none⟩ = some (.int .i64 (l[i]'hi).id) ∧ w.cell? ⟨rb, i * 4 + 3, none⟩ = some (.string (l[i]'hi).body) := by
  obtain ⟨g0, g1, g2, g3⟩ := qcells_at l i _ (List.getElem?_eq_getElem hi)
  have h0 := h.cells (g := rb) rfl (i * 4) _ g0
  have h1 := h.cells (g := rb) rfl (i * 4 + 1) _ g1
  have h2 := h.cells (g := rb) rfl (i * 4 + 2) _ g2
  have h3 := h.cells (g := rb) rfl (i * 4 + 3) _ g3
  rw [Addr.add_mid] at h0 h1 h2 h3
  simp only [Nat.zero_add] at h0 h1 h2 h3
  exact ⟨h0, h1, h2, h3⟩
/-- A list of frames lies there, in a block that is none of S. -/
def QLies (w : World) (a : Option Addr) (l : List Frm) (S : Nat → Prop) : Prop :=
  l = [] ∨ ∃ b off, a = some ⟨b, off, none⟩ ∧ b < w.heap.size ∧ ¬ S b ∧ ∀ i f, l[i]? = some f → w.cell? ⟨b, off + i * 4, none⟩ = some (.int .i64 f.kind) ∧ w.cell? ⟨b, off + i * 4 + 1, none⟩ = some (.int .i64 f.flags) ∧ w.cell? ⟨b, off + i * 4 + 2, none⟩ = some (.int .i64 f.id) ∧ w.cell? ⟨b, off + i * 4 + 3, none⟩ = some (.string f.body)
theorem QLies.quiet {w w' : World} {a : Option Addr} {l : List Frm} {S : Nat → Prop} (h : QLies w a l S) (hk : Keeps nobody w w') : QLies w' a l S := by
  rcases h with h | ⟨b, off, e, hb, hS, hc⟩
  · exact .inl h
  · refine .inr ⟨b, off, e, Nat.lt_of_lt_of_le hb hk.size, hS, fun i f hi => ?_⟩
    obtain ⟨h0, h1, h2, h3⟩ := hc i f hi
    exact ⟨(hk.cell (p := ⟨b, off + i * 4, none⟩) hb id).trans h0, (hk.cell (p := ⟨b, off + i * 4 + 1, none⟩) hb id).trans h1, (hk.cell (p := ⟨b, off + i * 4 + 2, none⟩) hb id).trans h2, (hk.cell (p := ⟨b, off + i * 4 + 3, none⟩) hb id).trans h3⟩
theorem QLies.at {w : World} {a : Option Addr} {l : List Frm} {S : Nat → Prop} (h : QLies w a l S) (j : Nat) (hj : j < l.length) : ∃ b off, a = some ⟨b, off, none⟩ ∧ b < w.heap.size ∧ ¬ S b ∧ w.cell? ⟨b, off + j * 4, none⟩ = some (.int .i64 (l[j]'hj).kind) ∧ w.cell? ⟨b, off + j * 4 + 1, none⟩ = some (.int .i64 (l[j]'hj).flags) ∧ w.cell? ⟨b, off + j * 4 + 2, none⟩ = some (.int .i64 (l[j]'hj).id) ∧ w.cell? ⟨b, off + j * 4 + 3, none⟩ = some (.string (l[j]'hj).body) := by
  rcases h with rfl | ⟨b, off, e, hb, hS, hc⟩
  · simp at hj
  · exact ⟨b, off, e, hb, hS, hc j _ (List.getElem?_eq_getElem hj)⟩
/-- A list that a call owns lies there. -/
theorem qrow_lies {w : World} {B n c : Nat} {x : Option Addr} {l : List Frm} (h : w.ownsRow B 23 4 (.slice x n c) l.length (qcells l)) {S : Nat → Prop} (hS : ∀ k, (Value.slice x n c).ownBlock = some k → ¬ S k) : QLies w x l S := by
  by_cases h0 : l = []
  · exact .inl h0
  · rcases h.2 with ⟨h1, h2⟩ | ⟨rb, cap, cur, h1, _⟩
    · exact (h0 (List.eq_nil_of_length_eq_zero h2)).elim
    · simp only [Value.slice.injEq] at h1
      obtain ⟨rfl, rfl, rfl⟩ := h1
      refine .inr ⟨rb, 0, rfl, (h.lt rb rfl).2, hS rb rfl, fun i f hi => ?_⟩
      obtain ⟨hi', rfl⟩ := List.getElem?_eq_some_iff.1 hi
      simpa using qrow_cells h i hi'
end Go.Proofs.Ytdpbnlamdgdljab
