/-
  Settings in memory: lists that lie somewhere.
-/
import Derived.Test.YtendndokgpppiaaZSpec
namespace Go.Proofs.Ytendndokgpppiaa.Pf
open Go.RowKit

def ppair (f : Pf) : List Value := [.int .i64 f.1, .int .i64 f.2]
def pcells (l : List Pf) : List Value := l.flatMap ppair
theorem pcells_nil : pcells [] = [] := rfl
theorem pcells_cons (f : Pf) (l : List Pf) : pcells (f :: l) = .int .i64 f.1 :: .int .i64 f.2 :: pcells l := rfl
theorem pcells_append (l m : List Pf) : pcells (l ++ m) = pcells l ++ pcells m := by simp [pcells]
theorem pcells_length (l : List Pf) : (pcells l).length = l.length * 2 := by
  induction l with
  | nil => rfl
  | cons f l ih => rw [pcells_cons]; simp [ih]; omega
theorem pcells_at0 (l : List Pf) (i : Nat) (f : Pf) (h : l[i]? = some f) : (pcells l)[i * 2]? = some (.int .i64 f.1) := by
  induction l generalizing i with
  | nil => simp at h
  | cons g l ih =>
    cases i with
    | zero => simp at h; subst h; rfl
    | succ i => rw [pcells_cons, show (i + 1) * 2 = i * 2 + 1 + 1 by omega]; simpa using ih i (by simpa using h)
theorem pcells_at1 (l : List Pf) (i : Nat) (f : Pf) (h : l[i]? = some f) : (pcells l)[i * 2 + 1]? = some (.int .i64 f.2) := by
  induction l generalizing i with
  | nil => simp at h
  | cons g l ih =>
    cases i with
    | zero => simp at h; subst h; rfl
    | succ i => rw [pcells_cons, show (i + 1) * 2 + 1 = i * 2 + 1 + 1 + 1 by omega]; simpa using ih i (by simpa using h)
theorem pcells_one (l : List Pf) : ∀ v ∈ pcells l, v.oneCell' = true := by
  induction l with
  | nil => simp [pcells]
  | cons f l ih =>
    intro v hv
    rw [pcells_cons] at hv
    simp at hv
    rcases hv with rfl | rfl | hv
    · rfl
    · rfl
    · exact ih v hv
theorem pcells_take (l : List Pf) (k : Nat) : (pcells l).take (k * 2) = pcells (l.take k) := by
  induction l generalizing k with
  | nil => simp [pcells]
  | cons f l ih =>
    cases k with
    | zero => simp [pcells]
    | succ k =>
      rw [pcells_cons, show (k + 1) * 2 = k * 2 + 1 + 1 by omega]
      simp [pcells_cons, ih k]
theorem infoP : (Try.prog.info? 88).map (fun i => (i.zero, i.size, i.bytes)) = some (some (.agg #[.int .i64 0, .int .i64 0]), 2, 16) := by kernel_rfl
theorem prow_cells {w : World} {base n cap rb : Nat} {l : List Pf} (h : w.ownsRow base 88 2 (.slice (some ⟨rb, 0, none⟩) n cap) l.length (pcells l)) (i : Nat) (hi : i < l.length) : w.cell? ⟨rb, i * 2, none⟩ = some (.int .i64 (l[i]'hi).1) ∧ w.cell? ⟨rb, i * 2 + 1, none⟩ = some (.int .i64 (l[i]'hi).2) := by
  have hg : l[i]? = some (l[i]'hi) := List.getElem?_eq_getElem hi
  have h0 := h.cells (g := rb) rfl (i * 2) _ (pcells_at0 l i _ hg)
  have h1 := h.cells (g := rb) rfl (i * 2 + 1) _ (pcells_at1 l i _ hg)
  rw [Addr.add_mid] at h0 h1
  simp only [Nat.zero_add] at h0 h1
  exact ⟨h0, h1⟩
/-- A list of headers lies there, in a block that is none of S. -/
def PLies (w : World) (a : Option Addr) (l : List Pf) (S : Nat → Prop) : Prop :=
  l = [] ∨ ∃ b off, a = some ⟨b, off, none⟩ ∧ b < w.heap.size ∧ ¬ S b ∧ ∀ i f, l[i]? = some f → w.cell? ⟨b, off + i * 2, none⟩ = some (.int .i64 f.1) ∧ w.cell? ⟨b, off + i * 2 + 1, none⟩ = some (.int .i64 f.2)
theorem PLies.keeps {w w' : World} {a : Option Addr} {l : List Pf} {S : Nat → Prop} (h : PLies w a l S) (hk : Keeps S w w') : PLies w' a l S := by
  rcases h with h | ⟨b, off, e, hb, hS, hc⟩
  · exact .inl h
  · refine .inr ⟨b, off, e, Nat.lt_of_lt_of_le hb hk.size, hS, fun i f hi => ?_⟩
    obtain ⟨h0, h1⟩ := hc i f hi
    exact ⟨(hk.cell (p := ⟨b, off + i * 2, none⟩) hb hS).trans h0, (hk.cell (p := ⟨b, off + i * 2 + 1, none⟩) hb hS).trans h1⟩
theorem PLies.quiet {w w' : World} {a : Option Addr} {l : List Pf} {S : Nat → Prop} (h : PLies w a l S) (hk : Keeps nobody w w') : PLies w' a l S := by
  rcases h with h | ⟨b, off, e, hb, hS, hc⟩
  · exact .inl h
  · refine .inr ⟨b, off, e, Nat.lt_of_lt_of_le hb hk.size, hS, fun i f hi => ?_⟩
    obtain ⟨h0, h1⟩ := hc i f hi
    exact ⟨(hk.cell (p := ⟨b, off + i * 2, none⟩) hb id).trans h0, (hk.cell (p := ⟨b, off + i * 2 + 1, none⟩) hb id).trans h1⟩
theorem PLies.at {w : World} {a : Option Addr} {l : List Pf} {S : Nat → Prop} (h : PLies w a l S) (j : Nat) (hj : j < l.length) : ∃ b off, a = some ⟨b, off, none⟩ ∧ b < w.heap.size ∧ ¬ S b ∧ w.cell? ⟨b, off + j * 2, none⟩ = some (.int .i64 (l[j]'hj).1) ∧ w.cell? ⟨b, off + j * 2 + 1, none⟩ = some (.int .i64 (l[j]'hj).2) := by
  rcases h with rfl | ⟨b, off, e, hb, hS, hc⟩
  · simp at hj
  · exact ⟨b, off, e, hb, hS, hc j _ (List.getElem?_eq_getElem hj)⟩
/-- A header in a box of its own. -/
def Px (w : World) (b : Nat) (x y : Int) : Prop := w.heap[b]? = some (.cells #[.int .i64 x, .int .i64 y] 88 (0, 0))
theorem Px.lt {w : World} {b : Nat} {x y : Int} (h : Px w b x y) : b < w.heap.size := (Array.getElem?_eq_some_iff.1 h).1
theorem Px.cells {w : World} {b : Nat} {x y : Int} (h : Px w b x y) : w.cell? ⟨b, 0, none⟩ = some (.int .i64 x) ∧ w.cell? ⟨b, 1, none⟩ = some (.int .i64 y) ∧ ∀ o, w.frozen? ⟨b, o, none⟩ = false := by
  unfold Px at h
  refine ⟨?_, ?_, fun o => ?_⟩ <;> simp [World.cell?, World.frozen?, h]
theorem Px.keeps {S : Nat → Prop} {w w' : World} {b : Nat} {x y : Int} (h : Px w b x y) (hk : Keeps S w w') (hS : ¬ S b) : Px w' b x y := by
  unfold Px
  rw [hk.block b h.lt hS]
  exact h
theorem Px.quiet {w w' : World} {b : Nat} {x y : Int} (h : Px w b x y) (hk : Keeps nobody w w') : Px w' b x y := h.keeps hk id
theorem px_new (w : World) (x y : Int) : Px (w.alloc (.cells #[.int .i64 x, .int .i64 y] 88)) w.heap.size x y := heap_alloc_new w _
/-- A list that a call owns lies there. -/
theorem prow_lies {w : World} {B n c : Nat} {x : Option Addr} {l : List Pf} (h : w.ownsRow B 88 2 (.slice x n c) l.length (pcells l)) {S : Nat → Prop} (hS : ∀ k, (Value.slice x n c).ownBlock = some k → ¬ S k) : PLies w x l S := by
  by_cases h0 : l = []
  · exact .inl h0
  · rcases h.2 with ⟨h1, h2⟩ | ⟨rb, cap, cur, h1, _⟩
    · exact (h0 (List.eq_nil_of_length_eq_zero h2)).elim
    · simp only [Value.slice.injEq] at h1
      obtain ⟨rfl, rfl, rfl⟩ := h1
      refine .inr ⟨rb, 0, rfl, (h.lt rb rfl).2, hS rb rfl, fun i f hi => ?_⟩
      obtain ⟨hi', rfl⟩ := List.getElem?_eq_some_iff.1 hi
      simpa using prow_cells h i hi'
theorem PLies.mono {w : World} {a : Option Addr} {l : List Pf} {S S' : Nat → Prop} (h : PLies w a l S) (hS : ∀ k, k < w.heap.size → S' k → S k) : PLies w a l S' := by
  rcases h with h | ⟨b, off, e, hb, hn, hc⟩
  · exact .inl h
  · exact .inr ⟨b, off, e, hb, fun e2 => hn (hS b hb e2), hc⟩
theorem PLies.prefix {w : World} {a : Option Addr} {l m : List Pf} {S : Nat → Prop} (h : PLies w a (l ++ m) S) : PLies w a l S := by
  rcases h with h | ⟨b, off, e, hb, hS, hc⟩
  · exact .inl (List.append_eq_nil_iff.1 h).1
  · refine .inr ⟨b, off, e, hb, hS, fun i f hi => hc i f ?_⟩
    rw [List.getElem?_append_left (List.getElem?_eq_some_iff.1 hi).1]
    exact hi
end Go.Proofs.Ytendndokgpppiaa.Pf
