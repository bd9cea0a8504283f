/-
  Frames, lists of frames, of numbers, of strings, that came in, opened.
-/
import Derived.Test.YtdpbnlamdgdljaaRSpec
import Derived.Test.YtdpbnlamdgdljaaGDoor
namespace Go.Proofs.Ytdpbnlamdgdljaa
open Go.ChangeShapes Go.WideShapes Go.ChangeAt Go.RowKit

theorem cellsInt : Try.prog.cellsOf 3 = 1 := by kernel_rfl
theorem cellsFrm : Try.prog.cellsOf 39 = 4 := by kernel_rfl

instance : Inhabited Frm := ⟨noF⟩
def frcells (f : Frm) : List Value := [.int .i64 f.kind, .int .i64 f.flags, .int .i64 f.id, .string f.body]
section
variable {H : Type} {enc : TypeId × Value → H} {w : World} {base : Nat} {spare : Nat → Bool} {held : Bool}
set_option maxRecDepth 100000 in
theorem open_four {fuel : Nat} {cs : List Value} {x : DataW H × List MemPlace} (h : DataW.trod enc Try.prog w base spare held fuel 39 cs = some x) :
    ∃ f : Frm, cs = frcells f ∧ x = (.agg [.lit (.int .i64 f.kind), .lit (.int .i64 f.flags), .lit (.int .i64 f.id), .lit (.string f.body.data.toList)], []) := by
  obtain ⟨xs, n, _, hx, hl, hxl, hf⟩ := DataW.trod_struct Try.underlying39 h
  rw [cellsFrm] at hl
  match xs, hxl, cs, hl with
  | [y0, y1, y2, y3], _, [v0, v1, v2, v3], _ =>
    have g0 := hf 0 _ rfl
    have g1 := hf 1 _ rfl
    have g2 := hf 2 _ rfl
    have g3 := hf 3 _ rfl
    simp [cellsStr, cellsInt] at g0 g1 g2 g3
    obtain ⟨a, e0, d0, _⟩ := DataW.trod_int Try.underlying3 g0
    obtain ⟨b, e1, d1, _⟩ := DataW.trod_int Try.underlying3 g1
    obtain ⟨c, e2, d2, _⟩ := DataW.trod_int Try.underlying3 g2
    obtain ⟨d, e3, d3, _⟩ := DataW.trod_string Try.underlying9 g3
    simp at e0 e1 e2 e3
    subst e0 e1 e2 e3 d0 d1 d2 d3
    exact ⟨⟨a, b, c, d⟩, rfl, by simpa using hx⟩
end
set_option maxRecDepth 100000 in
theorem weights_four {H : Type} (f : Frm) : DataW.weights (H := H) Try.prog 39 (.agg [.lit (.int .i64 f.kind), .lit (.int .i64 f.flags), .lit (.int .i64 f.id), .lit (.string f.body.data.toList)]) = [f.body.size] := by
  simp [DataW.weights, Try.underlying39, DataW.weightsEach]
set_option maxRecDepth 100000 in
theorem open_Frame {H : Type} {enc : TypeId × Value → H} {W : World} {r : Reach} {b0 : Nat} {v : Value} {d : DataW H} {ps : List MemPlace} (hok : Value.okWide Try.prog W r b0 39 v)
    (h : DataW.Trod enc Try.prog W 0 (fun _ => true) true 39 v d ps) (hw : ∀ n ∈ d.weights Try.prog 39, n ≤ 140737488355328) : ∃ f : Frm, v = frval f ∧ f.body.size ≤ 140737488355328 := by
  obtain ⟨cs, rfl, _⟩ := okWide_struct Try.underlying39 hok
  obtain ⟨m, hm⟩ := h
  obtain ⟨f, hc, hx⟩ := open_four hm
  simp only [Prod.mk.injEq] at hx
  rw [hx.1, weights_four] at hw
  refine ⟨f, ?_, hw _ (by simp)⟩
  have : cs.toList = frcells f := hc
  rw [← Array.toArray_toList (xs := cs), this]
  rfl
/-- A list of frames that came in: where they lie, how great they may be. -/
def Frs (W : World) (a : Option Addr) (l : List Frm) : Prop :=
  (l = [] ∨ ∃ b off, a = some ⟨b, off, none⟩ ∧ b < W.heap.size ∧ ∀ i f, l[i]? = some f → ∀ j v, (frcells f)[j]? = some v → W.cell? ⟨b, off + (i * 4 + j), none⟩ = some v) ∧
  l.length ≤ 140737488355328 ∧ ∀ f ∈ l, f.body.size ≤ 140737488355328
set_option maxRecDepth 100000 in
theorem open_Frames {H : Type} {enc : TypeId × Value → H} {W : World} {a : Option Addr} {len cap : Nat} {d : DataW H} {ps : List MemPlace}
    (h : DataW.Trod enc Try.prog W 0 (fun _ => true) true 23 (.slice a len cap) d ps) (hw : ∀ n ∈ d.weights Try.prog 23, n ≤ 140737488355328) : ∃ l : List Frm, len = l.length ∧ Frs W a l := by
  obtain ⟨fuel, hf⟩ := h
  rcases Deep.open_slice Try.underlying23 hf with ⟨hcs, _⟩ | ⟨a', len', cap', m, n, D, Pl, hcs, _, hl, hm, hz, hx, hel⟩
  · simp [Value.cells] at hcs
    obtain ⟨rfl, rfl, rfl⟩ := hcs
    exact ⟨[], rfl, .inl rfl, by simp, by simp⟩
  · simp [Value.cells] at hcs
    obtain ⟨rfl, rfl, rfl⟩ := hcs
    simp only [if_true] at hz
    subst hz
    simp only [Prod.mk.injEq] at hx
    have each : ∀ i, i < len → ∃ f : Frm, (∀ j v, (frcells f)[j]? = some v → W.cell? (a'.add (i * 4 + j)) = some v) ∧ D i = .agg [.lit (.int .i64 f.kind), .lit (.int .i64 f.flags), .lit (.int .i64 f.id), .lit (.string f.body.data.toList)] := by
      intro i hi
      obtain ⟨cs', h1, h2⟩ := hel i (by omega)
      rw [cellsFrm] at h1
      obtain ⟨_, _, hcell⟩ := World.cells?_some h1
      obtain ⟨f, rfl, hd⟩ := open_four h2
      simp only [Prod.mk.injEq] at hd
      refine ⟨f, fun j v hj => ?_, hd.1⟩
      have hj4 : j < 4 := (List.getElem?_eq_some_iff.1 hj).1
      have e := hcell j hj4
      rw [Deep.add_add] at e
      rw [e]
      simpa using hj
    obtain ⟨q, hq⟩ := Deep.choose_lt each
    refine ⟨(List.range len).map q, by simp, ?_, ?_, ?_⟩
    · by_cases h0 : len = 0
      · left; subst h0; rfl
      · right
        have hc0 := (hq 0 (by omega)).1 0 _ rfl
        obtain ⟨b, off, rfl, hb⟩ := addr_of_cell hc0 (by rw [show 0 * 4 + 0 = 0 by omega] at hc0; rw [hc0]; simp)
        refine ⟨b, off, rfl, hb, fun i f hi j v hj => ?_⟩
        have hil : i < len := by
          have := (List.getElem?_eq_some_iff.1 hi).1
          simpa using this
        have hf2 : q i = f := by simpa [hil] using hi
        have e := (hq i hil).1 j v (by rw [hf2]; exact hj)
        rw [Addr.add_mid] at e
        exact e
    · have hb : Try.prog.bytesOf 39 = 40 := by kernel_rfl
      have h2 := hw ((len + (m - len)) * 40) (by rw [hx.1]; simp [DataW.weights, Try.underlying23, hb])
      simp
      omega
    · intro f hf2
      obtain ⟨i, hi, rfl⟩ := List.mem_map.1 hf2
      have hil := List.mem_range.1 hi
      have hd := (hq i hil).2
      apply hw
      rw [hx.1]
      simp only [DataW.weights, Try.underlying23]
      refine List.mem_cons_of_mem _ (List.mem_append.2 (.inl ?_))
      refine weights_all_mem (d := D i) (List.mem_map.2 ⟨i, hi, rfl⟩) _ ?_
      rw [hd, weights_four]
      simp


/-- A list of numbers that came in: where they lie. -/
def Ints (W : World) (a : Option Addr) (l : List Int) : Prop :=
  (l = [] ∨ ∃ b off, a = some ⟨b, off, none⟩ ∧ b < W.heap.size ∧ ∀ i x, l[i]? = some x → W.cell? ⟨b, off + i, none⟩ = some (.int .i64 x)) ∧ l.length ≤ 140737488355328
set_option maxRecDepth 100000 in
theorem open_Int {H : Type} {enc : TypeId × Value → H} {W : World} {a : Option Addr} {len cap : Nat} {d : DataW H} {ps : List MemPlace}
    (h : DataW.Trod enc Try.prog W 0 (fun _ => true) true 81 (.slice a len cap) d ps) (hw : ∀ n ∈ d.weights Try.prog 81, n ≤ 140737488355328) : ∃ l : List Int, len = l.length ∧ Ints W a l := by
  obtain ⟨fuel, hf⟩ := h
  rcases Deep.open_slice Try.underlying81 hf with ⟨hcs, _⟩ | ⟨a', len', cap', m, n, D, Pl, hcs, _, hl, hm, hz, hx, hel⟩
  · simp [Value.cells] at hcs
    obtain ⟨rfl, rfl, rfl⟩ := hcs
    exact ⟨[], rfl, .inl rfl, by simp⟩
  · simp [Value.cells] at hcs
    obtain ⟨rfl, rfl, rfl⟩ := hcs
    simp only [if_true] at hz
    subst hz
    simp only [Prod.mk.injEq] at hx
    have each : ∀ i, i < len → ∃ f : Int, W.cell? (a'.add i) = some (.int .i64 f) ∧ D i = .lit (.int .i64 f) := by
      intro i hi
      obtain ⟨cs', h1, h2⟩ := hel i (by omega)
      rw [cellsInt] at h1
      obtain ⟨hlen, _, hcell⟩ := World.cells?_some h1
      obtain ⟨f, e1, d1, _⟩ := DataW.trod_int Try.underlying3 h2
      subst e1
      have e := hcell 0 (by decide)
      rw [Deep.add_add, Nat.mul_one, Nat.add_zero] at e
      exact ⟨f, by rw [e]; rfl, congrArg Prod.fst d1⟩
    obtain ⟨q, hq⟩ := Deep.choose_lt each
    refine ⟨(List.range len).map q, by simp, ?_, ?_⟩
    · by_cases h0 : len = 0
      · left; subst h0; rfl
      · right
        have hc0 := (hq 0 (by omega)).1
        obtain ⟨b, off, rfl, hb⟩ := addr_of_cell hc0 (by rw [hc0]; simp)
        refine ⟨b, off, rfl, hb, fun i f hi => ?_⟩
        have hil : i < len := by
          have := (List.getElem?_eq_some_iff.1 hi).1
          simpa using this
        have hf2 : q i = f := by simpa [hil] using hi
        have e := (hq i hil).1
        rw [Addr.add_mid, hf2] at e
        exact e
    · have hb : Try.prog.bytesOf 3 = 8 := by kernel_rfl
      have h2 := hw ((len + (m - len)) * 8) (by rw [hx.1]; simp [DataW.weights, Try.underlying81, hb])
      simp
      omega

/-- A list of strings that came in: where they lie. -/
def Strs (W : World) (a : Option Addr) (l : List ByteArray) : Prop :=
  (l = [] ∨ ∃ b off, a = some ⟨b, off, none⟩ ∧ b < W.heap.size ∧ ∀ i x, l[i]? = some x → W.cell? ⟨b, off + i, none⟩ = some (.string x)) ∧ l.length ≤ 140737488355328 ∧ ∀ x ∈ l, x.size ≤ 140737488355328
set_option maxRecDepth 100000 in
theorem open_Str {H : Type} {enc : TypeId × Value → H} {W : World} {a : Option Addr} {len cap : Nat} {d : DataW H} {ps : List MemPlace}
    (h : DataW.Trod enc Try.prog W 0 (fun _ => true) true 83 (.slice a len cap) d ps) (hw : ∀ n ∈ d.weights Try.prog 83, n ≤ 140737488355328) : ∃ l : List ByteArray, len = l.length ∧ Strs W a l := by
  obtain ⟨fuel, hf⟩ := h
  rcases Deep.open_slice Try.underlying83 hf with ⟨hcs, _⟩ | ⟨a', len', cap', m, n, D, Pl, hcs, _, hl, hm, hz, hx, hel⟩
  · simp [Value.cells] at hcs
    obtain ⟨rfl, rfl, rfl⟩ := hcs
    exact ⟨[], rfl, .inl rfl, by simp, by simp⟩
  · simp [Value.cells] at hcs
    obtain ⟨rfl, rfl, rfl⟩ := hcs
    simp only [if_true] at hz
    subst hz
    simp only [Prod.mk.injEq] at hx
    have each : ∀ i, i < len → ∃ f : ByteArray, W.cell? (a'.add i) = some (.string f) ∧ D i = .lit (.string f.data.toList) := by
      intro i hi
      obtain ⟨cs', h1, h2⟩ := hel i (by omega)
      rw [cellsStr] at h1
      obtain ⟨hlen, _, hcell⟩ := World.cells?_some h1
      obtain ⟨f, e1, d1, _⟩ := DataW.trod_string Try.underlying9 h2
      subst e1
      have e := hcell 0 (by decide)
      rw [Deep.add_add, Nat.mul_one, Nat.add_zero] at e
      exact ⟨f, by rw [e]; rfl, congrArg Prod.fst d1⟩
    obtain ⟨q, hq⟩ := Deep.choose_lt each
    refine ⟨(List.range len).map q, by simp, ?_, ?_, ?_⟩
    · by_cases h0 : len = 0
      · left; subst h0; rfl
      · right
        have hc0 := (hq 0 (by omega)).1
        obtain ⟨b, off, rfl, hb⟩ := addr_of_cell hc0 (by rw [hc0]; simp)
        refine ⟨b, off, rfl, hb, fun i f hi => ?_⟩
        have hil : i < len := by
          have := (List.getElem?_eq_some_iff.1 hi).1
          simpa using this
        have hf2 : q i = f := by simpa [hil] using hi
        have e := (hq i hil).1
        rw [Addr.add_mid, hf2] at e
        exact e
    · have hb : Try.prog.bytesOf 9 = 16 := by kernel_rfl
      have h2 := hw ((len + (m - len)) * 16) (by rw [hx.1]; simp [DataW.weights, Try.underlying83, hb])
      simp
      omega
    · intro f hf2
      obtain ⟨i, hi, rfl⟩ := List.mem_map.1 hf2
      have hil := List.mem_range.1 hi
      have hd := (hq i hil).2
      apply hw
      rw [hx.1]
      simp only [DataW.weights, Try.underlying83]
      refine List.mem_cons_of_mem _ (List.mem_append.2 (.inl ?_))
      refine weights_all_mem (d := D i) (List.mem_map.2 ⟨i, hi, rfl⟩) _ ?_
      rw [hd]
      simp [DataW.weights]
end Go.Proofs.Ytdpbnlamdgdljaa
