/-
  Lists of strings, of what is done, that came in, opened.
-/
import Derived.Test.YtfgbijhmhanpeaaGDoor
namespace Go.Proofs.Ytfgbijhmhanpeaa
open Go.ChangeShapes Go.WideShapes Go.ChangeAt Go.RowKit

theorem cellsInt : Try.prog.cellsOf 3 = 1 := by kernel_rfl

/-- A list of strings that came in: where they lie. -/
def Strs (W : World) (a : Option Addr) (l : List ByteArray) : Prop :=
  (l = [] ∨ ∃ b off, a = some ⟨b, off, none⟩ ∧ b < W.heap.size ∧ ∀ i x, l[i]? = some x → W.cell? ⟨b, off + i, none⟩ = some (.string x)) ∧ l.length ≤ 140737488355328 ∧ ∀ x ∈ l, x.size ≤ 140737488355328
set_option maxRecDepth 100000 in
theorem open_Str {H : Type} {enc : TypeId × Value → H} {W : World} {a : Option Addr} {len cap : Nat} {d : DataW H} {ps : List MemPlace}
    (h : DataW.Trod enc Try.prog W 0 (fun _ => true) true 39 (.slice a len cap) d ps) (hw : ∀ n ∈ d.weights Try.prog 39, n ≤ 140737488355328) : ∃ l : List ByteArray, len = l.length ∧ Strs W a l := by
  obtain ⟨fuel, hf⟩ := h
  rcases Deep.open_slice Try.underlying39 hf with ⟨hcs, _⟩ | ⟨a', len', cap', m, n, D, Pl, hcs, _, hl, hm, hz, hx, hel⟩
  · simp [Value.cells] at hcs
    obtain ⟨rfl, rfl, rfl⟩ := hcs
    exact ⟨[], rfl, .inl rfl, by simp, by simp⟩
  · simp [Value.cells] at hcs
    obtain ⟨rfl, rfl, rfl⟩ := hcs
    simp only [if_true] at hz
    subst hz
    simp only [Prod.mk.injEq] at hx
    have each : ∀ i, i < len → ∃ f : ByteArray, W.cell? (a'.add i) = some (.string f) ∧ D i = .lit (.string f.data.toList) := by
      intro i hi
      obtain ⟨cs', h1, h2⟩ := hel i (by omega)
      rw [cellsStr] at h1
      obtain ⟨hlen, _, hcell⟩ := World.cells?_some h1
      obtain ⟨f, e1, d1, _⟩ := DataW.trod_string Try.underlying9 h2
      subst e1
      have e := hcell 0 (by decide)
      rw [Deep.add_add, Nat.mul_one, Nat.add_zero] at e
      exact ⟨f, by rw [e]; rfl, congrArg Prod.fst d1⟩
    obtain ⟨q, hq⟩ := Deep.choose_lt each
    refine ⟨(List.range len).map q, by simp, ?_, ?_, ?_⟩
    · by_cases h0 : len = 0
      · left; subst h0; rfl
      · right
        have hc0 := (hq 0 (by omega)).1
        obtain ⟨b, off, rfl, hb⟩ := addr_of_cell hc0 (by rw [hc0]; simp)
        refine ⟨b, off, rfl, hb, fun i f hi => ?_⟩
        have hil : i < len := by
          have := (List.getElem?_eq_some_iff.1 hi).1
          simpa using this
        have hf2 : q i = f := by simpa [hil] using hi
        have e := (hq i hil).1
        rw [Addr.add_mid, hf2] at e
        exact e
    · have hb : Try.prog.bytesOf 9 = 16 := by kernel_rfl
      have h2 := hw ((len + (m - len)) * 16) (by rw [hx.1]; simp [DataW.weights, Try.underlying39, hb])
      simp
      omega
    · intro f hf2
      obtain ⟨i, hi, rfl⟩ := List.mem_map.1 hf2
      have hil := List.mem_range.1 hi
      have hd := (hq i hil).2
      apply hw
      rw [hx.1]
      simp only [DataW.weights, Try.underlying39]
      refine List.mem_cons_of_mem _ (List.mem_append.2 (.inl ?_))
      refine weights_all_mem (d := D i) (List.mem_map.2 ⟨i, hi, rfl⟩) _ ?_
      rw [hd]
      simp [DataW.weights]

/-- What is done. -/
structure Doing where
  kind : Int
  s : ByteArray
instance : Inhabited Doing := ⟨⟨0, ⟨#[]⟩⟩⟩
def docells (f : Doing) : List Value := [.int .i64 f.kind, .string f.s]
theorem cellsOp : Try.prog.cellsOf 34 = 2 := by kernel_rfl
section
variable {H : Type} {enc : TypeId × Value → H} {w : World} {base : Nat} {spare : Nat → Bool} {held : Bool}
set_option maxRecDepth 100000 in
theorem open_two {fuel : Nat} {cs : List Value} {x : DataW H × List MemPlace} (h : DataW.trod enc Try.prog w base spare held fuel 34 cs = some x) :
    ∃ f : Doing, cs = docells f ∧ x = (.agg [.lit (.int .i64 f.kind), .lit (.string f.s.data.toList)], []) := by
  obtain ⟨xs, n, _, hx, hl, hxl, hf⟩ := DataW.trod_struct Try.underlying34 h
  rw [cellsOp] at hl
  match xs, hxl, cs, hl with
  | [y0, y1], _, [v0, v1], _ =>
    have g0 := hf 0 _ rfl
    have g1 := hf 1 _ rfl
    simp [cellsStr, cellsInt] at g0 g1
    obtain ⟨a, e0, d0, _⟩ := DataW.trod_int Try.underlying3 g0
    obtain ⟨d, e1, d1, _⟩ := DataW.trod_string Try.underlying9 g1
    simp at e0 e1
    subst e0 e1 d0 d1
    exact ⟨⟨a, d⟩, rfl, by simpa using hx⟩
end
set_option maxRecDepth 100000 in
theorem weights_two {H : Type} (f : Doing) : DataW.weights (H := H) Try.prog 34 (.agg [.lit (.int .i64 f.kind), .lit (.string f.s.data.toList)]) = [f.s.size] := by
  simp [DataW.weights, Try.underlying34, DataW.weightsEach]
/-- A list of what is done that came in: where they lie, how great they may be. -/
def Ops (W : World) (a : Option Addr) (l : List Doing) : Prop :=
  (l = [] ∨ ∃ b off, a = some ⟨b, off, none⟩ ∧ b < W.heap.size ∧ ∀ i f, l[i]? = some f → ∀ j v, (docells f)[j]? = some v → W.cell? ⟨b, off + (i * 2 + j), none⟩ = some v) ∧
  l.length ≤ 140737488355328 ∧ ∀ f ∈ l, f.s.size ≤ 140737488355328
set_option maxRecDepth 100000 in
theorem open_Ops {H : Type} {enc : TypeId × Value → H} {W : World} {a : Option Addr} {len cap : Nat} {d : DataW H} {ps : List MemPlace}
    (h : DataW.Trod enc Try.prog W 0 (fun _ => true) true 22 (.slice a len cap) d ps) (hw : ∀ n ∈ d.weights Try.prog 22, n ≤ 140737488355328) : ∃ l : List Doing, len = l.length ∧ Ops W a l := by
  obtain ⟨fuel, hf⟩ := h
  rcases Deep.open_slice Try.underlying22 hf with ⟨hcs, _⟩ | ⟨a', len', cap', m, n, D, Pl, hcs, _, hl, hm, hz, hx, hel⟩
  · simp [Value.cells] at hcs
    obtain ⟨rfl, rfl, rfl⟩ := hcs
    exact ⟨[], rfl, .inl rfl, by simp, by simp⟩
  · simp [Value.cells] at hcs
    obtain ⟨rfl, rfl, rfl⟩ := hcs
    simp only [if_true] at hz
    subst hz
    simp only [Prod.mk.injEq] at hx
    have each : ∀ i, i < len → ∃ f : Doing, (∀ j v, (docells f)[j]? = some v → W.cell? (a'.add (i * 2 + j)) = some v) ∧ D i = .agg [.lit (.int .i64 f.kind), .lit (.string f.s.data.toList)] := by
      intro i hi
      obtain ⟨cs', h1, h2⟩ := hel i (by omega)
      rw [cellsOp] at h1
      obtain ⟨_, _, hcell⟩ := World.cells?_some h1
      obtain ⟨f, rfl, hd⟩ := open_two h2
      simp only [Prod.mk.injEq] at hd
      refine ⟨f, fun j v hj => ?_, hd.1⟩
      have hj4 : j < 2 := (List.getElem?_eq_some_iff.1 hj).1
      have e := hcell j hj4
      rw [Deep.add_add] at e
      rw [e]
      simpa using hj
    obtain ⟨q, hq⟩ := Deep.choose_lt each
    refine ⟨(List.range len).map q, by simp, ?_, ?_, ?_⟩
    · by_cases h0 : len = 0
      · left; subst h0; rfl
      · right
        have hc0 := (hq 0 (by omega)).1 0 _ rfl
        obtain ⟨b, off, rfl, hb⟩ := addr_of_cell hc0 (by rw [show 0 * 2 + 0 = 0 by omega] at hc0; rw [hc0]; simp)
        refine ⟨b, off, rfl, hb, fun i f hi j v hj => ?_⟩
        have hil : i < len := by
          have := (List.getElem?_eq_some_iff.1 hi).1
          simpa using this
        have hf2 : q i = f := by simpa [hil] using hi
        have e := (hq i hil).1 j v (by rw [hf2]; exact hj)
        rw [Addr.add_mid] at e
        exact e
    · have hb : Try.prog.bytesOf 34 = 24 := by kernel_rfl
      have h2 := hw ((len + (m - len)) * 24) (by rw [hx.1]; simp [DataW.weights, Try.underlying22, hb])
      simp
      omega
    · intro f hf2
      obtain ⟨i, hi, rfl⟩ := List.mem_map.1 hf2
      have hil := List.mem_range.1 hi
      have hd := (hq i hil).2
      apply hw
      rw [hx.1]
      simp only [DataW.weights, Try.underlying22]
      refine List.mem_cons_of_mem _ (List.mem_append.2 (.inl ?_))
      refine weights_all_mem (d := D i) (List.mem_map.2 ⟨i, hi, rfl⟩) _ ?_
      rw [hd, weights_two]
      simp
/-- Where a list of strings, of what is done, lies, as a later world has it. -/
def AtS (w : World) (b off : Nat) (l : List ByteArray) : Prop := ∀ i x, l[i]? = some x → w.cell? ⟨b, off + i, none⟩ = some (.string x)
def AtO (w : World) (b off : Nat) (l : List Doing) : Prop := ∀ i f, l[i]? = some f → w.cell? ⟨b, off + i * 2, none⟩ = some (.int .i64 f.kind) ∧ w.cell? ⟨b, off + i * 2 + 1, none⟩ = some (.string f.s)
theorem below_cell {W w : World} (h : Below W.heap.size W w) {p : Addr} (hp : p.block < W.heap.size) : w.cell? p = W.cell? p := World.cell?_of_block (h.block _ hp)
/-- The block and the place, where the list is empty too; what later worlds have there. -/
theorem Strs.at {W : World} {a : Option Addr} {l : List ByteArray} (h : Strs W a l) : ∃ b off, (l = [] ∨ a = some ⟨b, off, none⟩) ∧ ∀ w, Below W.heap.size W w → AtS w b off l := by
  rcases h.1 with rfl | ⟨b, off, e, hb, hc⟩
  · exact ⟨0, 0, .inl rfl, fun w _ i x hi => by simp at hi⟩
  · exact ⟨b, off, .inr e, fun w hw i x hi => (below_cell hw hb).trans (hc i x hi)⟩
theorem Ops.at {W : World} {a : Option Addr} {l : List Doing} (h : Ops W a l) : ∃ b off, (l = [] ∨ a = some ⟨b, off, none⟩) ∧ ∀ w, Below W.heap.size W w → AtO w b off l := by
  rcases h.1 with rfl | ⟨b, off, e, hb, hc⟩
  · exact ⟨0, 0, .inl rfl, fun w _ i x hi => by simp at hi⟩
  · exact ⟨b, off, .inr e, fun w hw i f hi => ⟨(below_cell hw hb).trans (hc i f hi 0 _ rfl), (below_cell hw hb).trans (hc i f hi 1 _ rfl)⟩⟩
end Go.Proofs.Ytfgbijhmhanpeaa
