/-
  Frames in memory: lists of them, and where they lie; bywashbook.SameFrames.
-/
import Derived.Test.YtdpbnlamdgdljaaRSpec
namespace Go.Proofs.Ytdpbnlamdgdljaa
open Go.RowKit

def qpair (f : Frm) : List Value := [.int .i64 f.kind, .int .i64 f.flags, .int .i64 f.id, .string f.body]
def qcells (l : List Frm) : List Value := l.flatMap qpair
theorem qcells_nil : qcells [] = [] := rfl
theorem qcells_cons (f : Frm) (l : List Frm) : qcells (f :: l) = .int .i64 f.kind :: .int .i64 f.flags :: .int .i64 f.id :: .string f.body :: qcells l := rfl
theorem qcells_append (l m : List Frm) : qcells (l ++ m) = qcells l ++ qcells m := by simp [qcells]
theorem qcells_length (l : List Frm) : (qcells l).length = l.length * 4 := by
  induction l with
  | nil => rfl
  | cons f l ih => rw [qcells_cons]; simp [ih]; omega
theorem qcells_at (l : List Frm) (i : Nat) (f : Frm) (h : l[i]? = some f) : (qcells l)[i * 4]? = some (.int .i64 f.kind) ∧ (qcells l)[i * 4 + 1]? = some (.int .i64 f.flags) ∧ (qcells l)[i * 4 + 2]? = some (.int .i64 f.id) ∧ (qcells l)[i * 4 + 3]? = some (.string f.body) := by
  induction l generalizing i with
  | nil => simp at h
  | cons g l ih =>
    cases i with
    | zero => simp at h; subst h; exact ⟨rfl, rfl, rfl, rfl⟩
    | succ i =>
      have := ih i (by simpa using h)
      rw [qcells_cons, show (i + 1) * 4 = i * 4 + 1 + 1 + 1 + 1 by omega, show i * 4 + 1 + 1 + 1 + 1 + 1 = (i * 4 + 1) + 1 + 1 + 1 + 1 by omega, show i * 4 + 1 + 1 + 1 + 1 + 2 = (i * 4 + 2) + 1 + 1 + 1 + 1 by omega, show i * 4 + 1 + 1 + 1 + 1 + 3 = (i * 4 + 3) + 1 + 1 + 1 + 1 by omega]
      simpa using this
theorem qcells_one (l : List Frm) : ∀ v ∈ qcells l, v.oneCell' = true := by
  intro v hv
  obtain ⟨f, _, hf⟩ := List.mem_flatMap.1 hv
  simp [qpair] at hf
  rcases hf with rfl | rfl | rfl | rfl <;> rfl
theorem qcells_take (l : List Frm) (k : Nat) : (qcells l).take (k * 4) = qcells (l.take k) := by
  induction l generalizing k with
  | nil => simp [qcells]
  | cons f l ih =>
    cases k with
    | zero => simp [qcells]
    | succ k =>
      rw [qcells_cons, show (k + 1) * 4 = k * 4 + 1 + 1 + 1 + 1 by omega]
      simp [qcells_cons, ih k]
theorem infoQ : (Try.prog.info? 39).map (fun i => (i.zero, i.size, i.bytes)) = some (some (.agg #[.int .i64 0, .int .i64 0, .int .i64 0, .string ⟨#[]⟩]), 4, 40) := by kernel_rfl
theorem qrow_cells {w : World} {base n cap rb : Nat} {l : List Frm} (h : w.ownsRow base 39 4 (.slice (some ⟨rb, 0, none⟩) n cap) l.length (qcells l)) (i : Nat) (hi : i < l.length) : w.cell? ⟨rb, i * 4, none⟩ = some (.int .i64 (l[i]'hi).kind) ∧ w.cell? ⟨rb, i * 4 + 1, none⟩ = some (.int .i64 (l[i]'hi).flags) ∧ w.cell? ⟨rb, i * 4 + 2, none⟩ = some (.int .i64 (l[i]'hi).id) ∧ w.cell? ⟨rb, i * 4 + 3, none⟩ = some (.string (l[i]'hi).body) := by
  obtain ⟨g0, g1, g2, g3⟩ := qcells_at l i _ (List.getElem?_eq_getElem hi)
  have h0 := h.cells (g := rb) rfl (i * 4) _ g0
  have h1 := h.cells (g := rb) rfl (i * 4 + 1) _ g1
  have h2 := h.cells (g := rb) rfl (i * 4 + 2) _ g2
  have h3 := h.cells (g := rb) rfl (i * 4 + 3) _ g3
  rw [Addr.add_mid] at h0 h1 h2 h3
  simp only [Nat.zero_add] at h0 h1 h2 h3
  exact ⟨h0, h1, h2, h3⟩
/-- A list of frames lies there, in a block that is none of S. -/
def QLies (w : World) (a : Option Addr) (l : List Frm) (S : Nat → Prop) : Prop :=
  l = [] ∨ ∃ b off, a = some ⟨b, off, none⟩ ∧ b < w.heap.size ∧ ¬ S b ∧ ∀ i f, l[i]? = some f → w.cell? ⟨b, off + i * 4, none⟩ = some (.int .i64 f.kind) ∧ w.cell? ⟨b, off + i * 4 + 1, none⟩ = some (.int .i64 f.flags) ∧ w.cell? ⟨b, off + i * 4 + 2, none⟩ = some (.int .i64 f.id) ∧ w.cell? ⟨b, off + i * 4 + 3, none⟩ = some (.string f.body)
theorem QLies.quiet {w w' : World} {a : Option Addr} {l : List Frm} {S : Nat → Prop} (h : QLies w a l S) (hk : Keeps nobody w w') : QLies w' a l S := by
  rcases h with h | ⟨b, off, e, hb, hS, hc⟩
  · exact .inl h
  · refine .inr ⟨b, off, e, Nat.lt_of_lt_of_le hb hk.size, hS, fun i f hi => ?_⟩
    obtain ⟨h0, h1, h2, h3⟩ := hc i f hi
    exact ⟨(hk.cell (p := ⟨b, off + i * 4, none⟩) hb id).trans h0, (hk.cell (p := ⟨b, off + i * 4 + 1, none⟩) hb id).trans h1, (hk.cell (p := ⟨b, off + i * 4 + 2, none⟩) hb id).trans h2, (hk.cell (p := ⟨b, off + i * 4 + 3, none⟩) hb id).trans h3⟩
theorem QLies.at {w : World} {a : Option Addr} {l : List Frm} {S : Nat → Prop} (h : QLies w a l S) (j : Nat) (hj : j < l.length) : ∃ b off, a = some ⟨b, off, none⟩ ∧ b < w.heap.size ∧ ¬ S b ∧ w.cell? ⟨b, off + j * 4, none⟩ = some (.int .i64 (l[j]'hj).kind) ∧ w.cell? ⟨b, off + j * 4 + 1, none⟩ = some (.int .i64 (l[j]'hj).flags) ∧ w.cell? ⟨b, off + j * 4 + 2, none⟩ = some (.int .i64 (l[j]'hj).id) ∧ w.cell? ⟨b, off + j * 4 + 3, none⟩ = some (.string (l[j]'hj).body) := by
  rcases h with rfl | ⟨b, off, e, hb, hS, hc⟩
  · simp at hj
  · exact ⟨b, off, e, hb, hS, hc j _ (List.getElem?_eq_getElem hj)⟩
/-- A list that a call owns lies there. -/
theorem qrow_lies {w : World} {B n c : Nat} {x : Option Addr} {l : List Frm} (h : w.ownsRow B 39 4 (.slice x n c) l.length (qcells l)) {S : Nat → Prop} (hS : ∀ k, (Value.slice x n c).ownBlock = some k → ¬ S k) : QLies w x l S := by
  by_cases h0 : l = []
  · exact .inl h0
  · rcases h.2 with ⟨h1, h2⟩ | ⟨rb, cap, cur, h1, _⟩
    · exact (h0 (List.eq_nil_of_length_eq_zero h2)).elim
    · simp only [Value.slice.injEq] at h1
      obtain ⟨rfl, rfl, rfl⟩ := h1
      refine .inr ⟨rb, 0, rfl, (h.lt rb rfl).2, hS rb rfl, fun i f hi => ?_⟩
      obtain ⟨hi', rfl⟩ := List.getElem?_eq_some_iff.1 hi
      simpa using qrow_cells h i hi'
set_option maxRecDepth 100000 in
set_option maxHeartbeats 2000000 in
theorem qsame_lies {w : World} {a1 a2 : Option Addr} (c1 c2 : Nat) {l : List Frm} {S1 S2 : Nat → Prop} (h1 : QLies w a1 l S1) (h2 : QLies w a2 l S2) (hl : l.length ≤ 1000000) : Calls Try.prog 13 #[.slice a1 l.length c1, .slice a2 l.length c2] w fun e w' => e = .returned (.bool true) ∧ Keeps nobody w w' := by
  by_cases h0 : l.length = 0
  · obtain rfl : l = [] := List.eq_nil_of_length_eq_zero h0
    clear h1 h2
    go_enter Try.func13, Try.ntmps13
    go_wp2
    go_loopg [5] 0 (fun k i wr => i = .int .i64 0 ∧ wr = w)
    case atStart => exact ⟨rfl, rfl⟩
    case round =>
      obtain ⟨rfl, rfl⟩ := hrel
      go_wp2
      go_ret
      exact ⟨rfl, Keeps.refl _ _⟩
  · rcases h1 with rfl | ⟨r1, o1, rfl, hr1, _, hc1⟩
    · exact (h0 rfl).elim
    rcases h2 with rfl | ⟨r2, o2, rfl, hr2, _, hc2⟩
    · exact (h0 rfl).elim
    have H1 := hid hc1
    have H2 := hid hc2
    clear hc1 hc2
    go_enter Try.func13, Try.ntmps13
    go_wp2
    go_loopg [5] l.length (fun k i wr => ∃ j : Nat, i = .int .i64 j ∧ k + j = l.length ∧ Keeps nobody w wr)
    case atStart => exact ⟨0, rfl, rfl, Keeps.refl _ _⟩
    case round =>
      obtain ⟨j, rfl, hk, hK⟩ := hrel
      by_cases hj : j < l.length
      · obtain ⟨d0, d1, d2, d3⟩ := H1.out j _ (List.getElem?_eq_getElem hj)
        obtain ⟨e0, e1, e2, e3⟩ := H2.out j _ (List.getElem?_eq_getElem hj)
        rw [← hK.cell (p := ⟨r1, o1 + j * 4, none⟩) hr1 id] at d0
        rw [← hK.cell (p := ⟨r1, o1 + j * 4 + 1, none⟩) hr1 id] at d1
        rw [← hK.cell (p := ⟨r1, o1 + j * 4 + 2, none⟩) hr1 id] at d2
        rw [← hK.cell (p := ⟨r1, o1 + j * 4 + 3, none⟩) hr1 id] at d3
        rw [← hK.cell (p := ⟨r2, o2 + j * 4, none⟩) hr2 id] at e0
        rw [← hK.cell (p := ⟨r2, o2 + j * 4 + 1, none⟩) hr2 id] at e1
        rw [← hK.cell (p := ⟨r2, o2 + j * 4 + 2, none⟩) hr2 id] at e2
        rw [← hK.cell (p := ⟨r2, o2 + j * 4 + 3, none⟩) hr2 id] at e3
        generalize l[j]'hj = x at *
        obtain ⟨xa, xb, xc, xd⟩ := x
        simp only at d0 d1 d2 d3 e0 e1 e2 e3
        have z1 : (xd.toList == xd.toList) = true := beq_list_of_eq rfl
        have HK := hid hk
        clear hk
        go_wp2
        go_region
        go_wp2
        have hk := HK.out
        go_roundg (gk - 1)
        case measure => omega
        case rel => exact ⟨j + 1, by simp, by omega, hK.drew⟩
      · clear H1 H2
        go_wp2
        go_ret
        exact ⟨rfl, hK⟩
end Go.Proofs.Ytdpbnlamdgdljaa
