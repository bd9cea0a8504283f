/-
  Lists of records, each of so many cells: where they lie, what a call owns of them, append.
-/
import Derived.Test.YtendndokgpppiaaGApp
import Derived.Test.YtendndokgpppiaaGRec
namespace Go.Proofs.Ytendndokgpppiaa
open Go.RowKit

/-- What a record's cells are. -/
structure Recs (α : Type) where
  of : α → List Value
  width : Nat
  pos : 0 < width
  len : ∀ x, (of x).length = width
  one : ∀ x, ∀ v ∈ of x, v.oneCell' = true
section
variable {α : Type} (R : Recs α)
def Recs.cells (l : List α) : List Value := l.flatMap R.of
theorem Recs.cells_nil : R.cells [] = [] := rfl
theorem Recs.cells_cons (x : α) (l : List α) : R.cells (x :: l) = R.of x ++ R.cells l := by simp [Recs.cells]
theorem Recs.cells_append (l m : List α) : R.cells (l ++ m) = R.cells l ++ R.cells m := by simp [Recs.cells]
theorem Recs.cells_length (l : List α) : (R.cells l).length = l.length * R.width := by
  induction l with
  | nil => simp [Recs.cells]
  | cons x l ih => rw [R.cells_cons, List.length_append, R.len, ih, List.length_cons, Nat.add_mul]; omega
theorem Recs.cells_at (l : List α) (i j : Nat) (x : α) (v : Value) (h : l[i]? = some x) (hj : (R.of x)[j]? = some v) : (R.cells l)[i * R.width + j]? = some v := by
  induction l generalizing i with
  | nil => simp at h
  | cons y l ih =>
    rw [R.cells_cons]
    cases i with
    | zero =>
      simp at h
      subst h
      rw [Nat.zero_mul, Nat.zero_add, List.getElem?_append_left (List.getElem?_eq_some_iff.1 hj).1]
      exact hj
    | succ i =>
      have e : (i + 1) * R.width + j - R.width = i * R.width + j := by rw [Nat.add_mul]; omega
      rw [List.getElem?_append_right (by rw [R.len, Nat.add_mul]; omega), R.len, e]
      exact ih i (by simpa using h)
theorem Recs.cells_one (l : List α) : ∀ v ∈ R.cells l, v.oneCell' = true := by
  intro v hv
  obtain ⟨x, _, hx⟩ := List.mem_flatMap.1 hv
  exact R.one x v hx
/-- A list of records lies there, in a block that is none of S. -/
def Recs.Lies (w : World) (a : Option Addr) (l : List α) (S : Nat → Prop) : Prop :=
  l = [] ∨ ∃ b off, a = some ⟨b, off, none⟩ ∧ b < w.heap.size ∧ ¬ S b ∧ ∀ i x, l[i]? = some x → ∀ j v, (R.of x)[j]? = some v → w.cell? ⟨b, off + (i * R.width + j), none⟩ = some v
variable {R} {w w' W : World} {a : Option Addr} {l m : List α} {S S' : Nat → Prop}
theorem Recs.Lies.keeps (h : R.Lies w a l S) (hk : Keeps S w w') : R.Lies w' a l S := by
  rcases h with h | ⟨b, off, e, hb, hS, hc⟩
  · exact .inl h
  · exact .inr ⟨b, off, e, Nat.lt_of_lt_of_le hb hk.size, hS, fun i x hi j v hj => (hk.cell (p := ⟨b, off + (i * R.width + j), none⟩) hb hS).trans (hc i x hi j v hj)⟩
theorem Recs.Lies.quiet (h : R.Lies w a l S) (hk : Keeps nobody w w') : R.Lies w' a l S := by
  rcases h with h | ⟨b, off, e, hb, hS, hc⟩
  · exact .inl h
  · exact .inr ⟨b, off, e, Nat.lt_of_lt_of_le hb hk.size, hS, fun i x hi j v hj => (hk.cell (p := ⟨b, off + (i * R.width + j), none⟩) hb id).trans (hc i x hi j v hj)⟩
theorem Recs.Lies.mono (h : R.Lies w a l S) (hS : ∀ k, k < w.heap.size → S' k → S k) : R.Lies w a l S' := by
  rcases h with h | ⟨b, off, e, hb, hn, hc⟩
  · exact .inl h
  · exact .inr ⟨b, off, e, hb, fun e2 => hn (hS b hb e2), hc⟩
theorem Recs.Lies.prefix (h : R.Lies w a (l ++ m) S) : R.Lies w a l S := by
  rcases h with h | ⟨b, off, e, hb, hS, hc⟩
  · exact .inl (List.append_eq_nil_iff.1 h).1
  · refine .inr ⟨b, off, e, hb, hS, fun i x hi => hc i x ?_⟩
    rw [List.getElem?_append_left (List.getElem?_eq_some_iff.1 hi).1]
    exact hi
/-- The block and the place, where the list is empty too; what later worlds have there. -/
theorem Recs.Lies.at (h : R.Lies w a l S) : ∃ b off, (l = [] ∨ a = some ⟨b, off, none⟩) ∧ ∀ w', Keeps S w w' → ∀ i x, l[i]? = some x → ∀ j v, (R.of x)[j]? = some v → w'.cell? ⟨b, off + (i * R.width + j), none⟩ = some v := by
  rcases h with rfl | ⟨b, off, e, hb, hS, hc⟩
  · exact ⟨0, 0, .inl rfl, fun w' _ i x hi => by simp at hi⟩
  · exact ⟨b, off, .inr e, fun w' hk i x hi j v hj => (hk.cell (p := ⟨b, off + (i * R.width + j), none⟩) hb hS).trans (hc i x hi j v hj)⟩
theorem Recs.Lies.src {b off : Nat} (h : R.Lies w (some ⟨b, off, none⟩) l S) : ∀ j u, (R.cells l)[j]? = some u → w.cell? ((⟨b, off, none⟩ : Addr).add j) = some u := by
  rcases h with rfl | ⟨b2, off2, e, hb, _, hc⟩
  · intro j u hu; simp [Recs.cells] at hu
  simp only [Option.some.injEq, Addr.mk.injEq] at e
  obtain ⟨rfl, rfl, _⟩ := e
  intro j u hu
  have hj : j < (R.cells l).length := (List.getElem?_eq_some_iff.1 hu).1
  rw [R.cells_length] at hj
  have hp := R.pos
  have hj2 : j / R.width < l.length := (Nat.div_lt_iff_lt_mul hp).2 hj
  have hm : j % R.width < R.width := Nat.mod_lt _ hp
  have ej : j = j / R.width * R.width + j % R.width := by rw [Nat.mul_comm]; exact (Nat.div_add_mod j R.width).symm
  have hx := List.getElem?_eq_getElem hj2
  have hv : (R.of (l[j / R.width]'hj2))[j % R.width]? = some ((R.of (l[j / R.width]'hj2))[j % R.width]'(by rw [R.len]; exact hm)) := List.getElem?_eq_getElem _
  have h1 := R.cells_at l _ _ _ _ hx hv
  have h2 := hc _ _ hx _ _ hv
  rw [← ej] at h1 h2
  rw [Addr.add_mid, h2, ← h1, hu]
variable {e : TypeId} {B rb n c : Nat} {v : Value} {x : Option Addr}
/-- What a call owns. -/
abbrev Recs.Own (R : Recs α) (e : TypeId) (B : Nat) (w : World) (v : Value) (l : List α) : Prop := w.ownsRow B e R.width v l.length (R.cells l)
/-- It, as a thing. -/
def Recs.rowT (R : Recs α) (e : TypeId) (v : Value) (l : List α) : Thing := ⟨fun k => v.ownBlock = some k, fun w => R.Own e 0 w v l⟩
theorem Recs.rowT_ok : (R.rowT e v l).Ok := ⟨fun h hk hS => hk.row h hS, fun h k e => (World.ownsRow.lt h k e).2⟩
theorem own_low {size : Nat} {xs : List Value} (h : w.ownsRow B e size v n xs) : w.ownsRow 0 e size v n xs := by
  refine ⟨h.1, ?_⟩
  rcases h.2 with e | ⟨rb, cc, cur, e1, e2, e3, e4⟩
  · exact .inl e
  · exact .inr ⟨rb, cc, cur, e1, Nat.zero_le _, e3, e4⟩
/-- It has its length; a block, if it is not empty. -/
theorem own_len {size k : Nat} {xs : List Value} (h : w.ownsRow B e size (.slice x n c) k xs) : n = k := by
  rcases h.2 with ⟨h1, h2⟩ | ⟨rb, cap, cur, h1, _⟩
  · simp only [Value.slice.injEq] at h1
    omega
  · simp only [Value.slice.injEq] at h1
    exact h1.2.1
theorem own_some {size k : Nat} {xs : List Value} (h : w.ownsRow B e size (.slice x n c) k xs) (hk : 0 < k) : ∃ rb, x = some ⟨rb, 0, none⟩ ∧ B ≤ rb ∧ rb < w.heap.size ∧ k ≤ c ∧ c ≤ maxLen := by
  rcases h.2 with ⟨h1, h2⟩ | ⟨rb, cap, cur, h1, h2, h3, h4, h5, _⟩
  · omega
  · simp only [Value.slice.injEq] at h1
    obtain ⟨rfl, _, rfl⟩ := h1
    exact ⟨rb, rfl, h2, (Array.getElem?_eq_some_iff.1 h3).1, h4, h5⟩
theorem Recs.own_cell (h : R.Own e B w (.slice (some ⟨rb, 0, none⟩) n c) l) (i j : Nat) (y : α) (u : Value) (hi : l[i]? = some y) (hj : (R.of y)[j]? = some u) : w.cell? ⟨rb, i * R.width + j, none⟩ = some u := by
  have h0 := World.ownsRow.cells (g := rb) h rfl (i * R.width + j) _ (R.cells_at l i j y u hi hj)
  rw [Addr.add_mid] at h0
  simpa only [Nat.zero_add] using h0
theorem Recs.own_lies (h : R.Own e B w (.slice x n c) l) (hS : ∀ k, (Value.slice x n c).ownBlock = some k → ¬ S k) : R.Lies w x l S := by
  by_cases h0 : l = []
  · exact .inl h0
  · have hl : 0 < l.length := List.length_pos_iff.2 h0
    obtain ⟨rb, rfl, _, hb, _⟩ := own_some h hl
    refine .inr ⟨rb, 0, rfl, hb, hS rb rfl, fun i y hi j u hj => ?_⟩
    rw [Nat.zero_add]
    exact Recs.own_cell h i j y u hi hj
theorem Recs.lit_lies (cs : Array Value) (T : TypeId) (h : cs.toList = R.cells l) (hS : ∀ k, S k → k < w.heap.size) : R.Lies (w.alloc (.cells cs T)) (some ⟨w.heap.size, 0, none⟩) l S := by
  refine .inr ⟨w.heap.size, 0, rfl, by simp, fun e => Nat.lt_irrefl _ (hS _ e), fun i y hi j u hj => ?_⟩
  have h1 := R.cells_at l i j y u hi hj
  rw [← h, Array.getElem?_toList] at h1
  rw [Nat.zero_add]
  have h2 := heap_alloc_new w (.cells cs T)
  unfold World.cell?
  rw [h2]
  exact h1
/-- append to it of what lies wherever. -/
theorem Recs.app {P : Program} (t ty e : TypeId) (z : Value) (bytes : Nat) (ht : P.underlying t = some (.slice e)) (hI : (P.info? e).map (fun i => (i.zero, i.size, i.bytes)) = some (some z, R.width, bytes)) (hzs : z.cells.size = R.width)
    {ts us : List Thing} {v : Value} (h : Hold W w (ts ++ R.rowT e v l :: us)) (hm : R.Lies w a m S) (c : Nat) (h1 : l.length + m.length ≤ 1000000000) (h2 : bytes ≤ 1000) :
    ∃ x n' c' w', (Builtin.append_ #[t, t] ty #[v, .slice a m.length c]).run P w = .ok (.slice x n' c') w' ∧ Hid (n' = (l ++ m).length ∧ Hold W w' (ts ++ R.rowT e (.slice x n' c') (l ++ m) :: us)) := by
  obtain ⟨i5, hi5, hz0, hz1, hz2⟩ := info_parts hI
  have ho : R.Own e 0 w v l := h.inv (R.rowT e v l) (by simp)
  have hbytes : (l.length + m.length) * bytes ≤ 140737488355328 := Nat.le_trans (Nat.mul_le_mul h1 h2) (by decide)
  rcases hm with rfl | ⟨b, off, rfl, hb, hS, hc⟩
  · have hr := run_append_zero (P := P) t ty e i5 R.width ht hi5 ho a c
    obtain ⟨x, n', c', rfl⟩ := row_slice ho
    have hn := own_len ho
    exact ⟨x, n', c', w, hr, hid ⟨by rw [List.append_nil]; exact hn, by rw [List.append_nil]; exact h⟩⟩
  · have hm' : R.Lies w (some ⟨b, off, none⟩) m S := .inr ⟨b, off, rfl, hb, hS, hc⟩
    obtain ⟨v', w', r1, r2, r3, r4⟩ := run_append_new (P := P) t ty e i5 z R.width bytes ht hi5 hz0 hz1 hz2 hzs R.pos ho ⟨b, off, none⟩ m.length c (R.cells m) (R.cells_length m) hm'.src (R.cells_one m) (by unfold maxLen; omega) hbytes (Nat.zero_le _)
    rw [← R.cells_append, ← List.length_append] at r2
    obtain ⟨x, n', c', rfl⟩ := row_slice r2
    have hn := own_len r2
    refine ⟨x, n', c', w', r1, hid ⟨hn, h.act ⟨R.rowT_ok, r2, (Keeps.refl _ _).grown r3 fun k e => .inl e, r4⟩⟩⟩
/-- append to it of a record that is written there. -/
theorem Recs.app_lit {P : Program} (t ty e : TypeId) (z : Value) (bytes : Nat) (ht : P.underlying t = some (.slice e)) (hI : (P.info? e).map (fun i => (i.zero, i.size, i.bytes)) = some (some z, R.width, bytes)) (hzs : z.cells.size = R.width)
    {ts us : List Thing} {v : Value} (h : Hold W w (ts ++ R.rowT e v l :: us)) (y : α) (cs : Array Value) (hcs : cs.toList = R.of y) (h1 : l.length ≤ 900000000) (h2 : bytes ≤ 1000) :
    ∃ x n' c' w', (Builtin.append_ #[t, t] ty #[v, .slice (some ⟨w.heap.size, 0, none⟩) 1 1]).run P (w.alloc (.cells cs e)) = .ok (.slice x n' c') w' ∧ Hid (n' = (l ++ [y]).length ∧ Hold W w' (ts ++ R.rowT e (.slice x n' c') (l ++ [y]) :: us)) := by
  have hL : R.Lies (w.alloc (.cells cs e)) (some ⟨w.heap.size, 0, none⟩) [y] nobody := Recs.lit_lies cs e (by rw [hcs, R.cells_cons, R.cells_nil, List.append_nil]) (fun _ h => h.elim)
  exact Recs.app t ty e z bytes ht hI hzs (h.quiet (keeps_alloc w _)) hL 1 (by simp; omega) h2
theorem Recs.newrow {ts : List Thing} (h : Hold W w ts) (e : TypeId) : Hold W w (R.rowT e (.slice none 0 0) [] :: ts) :=
  h.add (Keeps.refl _ _) R.rowT_ok (World.ownsRow_nil _ _ _ _) fun k e => by cases e
end
end Go.Proofs.Ytendndokgpppiaa
