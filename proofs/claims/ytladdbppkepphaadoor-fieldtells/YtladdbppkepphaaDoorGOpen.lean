/-
  Headers, and lists of headers, that came in, opened.
-/
import Derived.Test.YtladdbppkepphaaDoorGLies
import Derived.LaidMore
import Derived.LaidHandle
import Derived.Carry
import Derived.SizedLaws
import Derived.Deep.Slices
import Derived.HandedShaped
import Derived.Deep.DeepHandedRow
namespace Go.Proofs.YtladdbppkepphaaDoor
open Go.ChangeShapes Go.WideShapes Go.ChangeAt Go.RowKit

theorem own : ownKnob Tryd.prog.godebug = none := by kernel_rfl
theorem laidOut : laidOutB Tryd.prog = true := by kernel_rfl
theorem cellsStr : Tryd.prog.cellsOf 9 = 1 := by kernel_rfl
theorem cellsFld : Tryd.prog.cellsOf 39 = 2 := by kernel_rfl

section
variable {H : Type} {enc : TypeId × Value → H} {w : World} {base : Nat} {spare : Nat → Bool} {held : Bool}
set_option maxRecDepth 100000 in
theorem open_pair {fuel : Nat} {cs : List Value} {x : DataW H × List MemPlace} (h : DataW.trod enc Tryd.prog w base spare held fuel 39 cs = some x) :
    ∃ f : Fld, cs = fpair f ∧ x = (.agg [.lit (.string f.1.data.toList), .lit (.string f.2.data.toList)], []) := by
  obtain ⟨xs, n, _, hx, hl, hxl, hf⟩ := DataW.trod_struct Tryd.underlying39 h
  rw [cellsFld] at hl
  match xs, hxl, cs, hl with
  | [y0, y1], _, [v0, v1], _ =>
    have g0 := hf 0 _ rfl
    have g1 := hf 1 _ rfl
    simp [cellsStr] at g0 g1
    obtain ⟨a, e0, d0, _⟩ := DataW.trod_string Tryd.underlying9 g0
    obtain ⟨b, e1, d1, _⟩ := DataW.trod_string Tryd.underlying9 g1
    simp at e0 e1
    subst e0 e1 d0 d1
    exact ⟨(a, b), rfl, by simpa using hx⟩
end
/-- A list of headers that came in: where they lie, how great they may be. -/
def Flds (W : World) (a : Option Addr) (l : List Fld) : Prop :=
  (l = [] ∨ ∃ b off, a = some ⟨b, off, none⟩ ∧ b < W.heap.size ∧ ∀ i f, l[i]? = some f → W.cell? ⟨b, off + i * 2, none⟩ = some (.string f.1) ∧ W.cell? ⟨b, off + i * 2 + 1, none⟩ = some (.string f.2)) ∧
  l.length ≤ 140737488355328 ∧ ∀ f ∈ l, f.1.size ≤ 140737488355328 ∧ f.2.size ≤ 140737488355328
theorem all_mem {l : List Nat} (h : l.all (· ≤ reachBytes) = true) (n : Nat) (hn : n ∈ l) : n ≤ 140737488355328 := by
  have := List.all_eq_true.1 h n hn
  have h2 : n ≤ reachBytes := by simpa using this
  have h3 : reachBytes ≤ 140737488355328 := by decide
  omega
set_option maxRecDepth 100000 in
theorem weights_pair {H : Type} (f : Fld) : DataW.weights (H := H) Tryd.prog 39 (.agg [.lit (.string f.1.data.toList), .lit (.string f.2.data.toList)]) = [f.1.size, f.2.size] := by
  simp [DataW.weights, Tryd.underlying39, DataW.weightsEach]
theorem weights_all_mem {H : Type} {P : Program} {e : TypeId} {d : DataW H} {ds : List (DataW H)} (h : d ∈ ds) : ∀ n ∈ d.weights P e, n ∈ DataW.weightsAll P e ds := by
  induction ds with
  | nil => simp at h
  | cons x ds ih =>
    intro n hn
    simp only [DataW.weightsAll, List.mem_append]
    rcases List.mem_cons.1 h with rfl | h
    · exact .inl hn
    · exact .inr (ih h n hn)
set_option maxRecDepth 100000 in
theorem open_field {H : Type} {enc : TypeId × Value → H} {W : World} {r : Reach} {b0 : Nat} {v : Value} {d : DataW H} {ps : List MemPlace} (hok : Value.okWide Tryd.prog W r b0 39 v)
    (h : DataW.Trod enc Tryd.prog W 0 (fun _ => true) true 39 v d ps) (hw : ∀ n ∈ d.weights Tryd.prog 39, n ≤ 140737488355328) : ∃ f : Fld, v = fval f ∧ f.1.size ≤ 140737488355328 ∧ f.2.size ≤ 140737488355328 := by
  obtain ⟨cs, rfl, _⟩ := okWide_struct Tryd.underlying39 hok
  obtain ⟨m, hm⟩ := h
  obtain ⟨f, hc, hx⟩ := open_pair hm
  simp only [Prod.mk.injEq] at hx
  rw [hx.1, weights_pair] at hw
  refine ⟨f, ?_, hw _ (by simp), hw _ (by simp)⟩
  have : cs.toList = fpair f := hc
  rw [← Array.toArray_toList (xs := cs), this]
  rfl
theorem addr_of_cell {w : World} {a : Addr} {v : Value} {j : Nat} (h : w.cell? (a.add j) = some v) (h0 : w.cell? (a.add 0) ≠ none) : ∃ b off, a = ⟨b, off, none⟩ ∧ b < w.heap.size := by
  obtain ⟨b, off, spot⟩ := a
  cases spot with
  | none =>
    refine ⟨b, off, rfl, ?_⟩
    rw [Addr.add_mid] at h
    exact World.block_lt_of_cell? w ⟨b, off + j, none⟩ h
  | some s =>
    exfalso
    have e : Addr.add ⟨b, off, some s⟩ 0 = ⟨b, off, some s⟩ := rfl
    rw [e] at h0
    apply h0
    unfold World.cell?
    split <;> simp
theorem Flds.len {W : World} {a : Option Addr} {l : List Fld} (h : Flds W a l) : l.length ≤ 140737488355328 := h.2.1
theorem Flds.size {W : World} {a : Option Addr} {l : List Fld} (h : Flds W a l) (j : Nat) (hj : j < l.length) : (l[j]'hj).1.size ≤ 140737488355328 ∧ (l[j]'hj).2.size ≤ 140737488355328 := h.2.2 _ (List.getElem_mem hj)
/-- With room behind it, or none. -/
def FldsC (W : World) (a : Option Addr) (cap : Nat) (l : List Fld) : Prop := Flds W a l ∧ l.length ≤ cap ∧ cap ≤ maxLen
set_option maxRecDepth 100000 in
theorem open_fields {H : Type} {enc : TypeId × Value → H} {W : World} {a : Option Addr} {len cap : Nat} {d : DataW H} {ps : List MemPlace}
    (h : DataW.Trod enc Tryd.prog W 0 (fun _ => true) true 22 (.slice a len cap) d ps) (hw : ∀ n ∈ d.weights Tryd.prog 22, n ≤ 140737488355328) : ∃ l : List Fld, len = l.length ∧ FldsC W a cap l := by
  obtain ⟨fuel, hf⟩ := h
  rcases Deep.open_slice Tryd.underlying22 hf with ⟨hcs, _⟩ | ⟨a', len', cap', m, n, D, Pl, hcs, _, hl, hm, hz, hx, hel⟩
  · simp [Value.cells] at hcs
    obtain ⟨rfl, rfl, rfl⟩ := hcs
    exact ⟨[], rfl, ⟨.inl rfl, by simp, by simp⟩, by simp, by simp [maxLen]⟩
  · simp [Value.cells] at hcs
    obtain ⟨rfl, rfl, rfl⟩ := hcs
    simp only [if_true] at hz
    subst hz
    simp only [Prod.mk.injEq] at hx
    have each : ∀ i, i < len → ∃ f : Fld, W.cell? (a'.add (i * 2)) = some (.string f.1) ∧ W.cell? (a'.add (i * 2 + 1)) = some (.string f.2) ∧ D i = .agg [.lit (.string f.1.data.toList), .lit (.string f.2.data.toList)] := by
      intro i hi
      obtain ⟨cs', h1, h2⟩ := hel i (by omega)
      rw [cellsFld] at h1
      obtain ⟨_, _, hcell⟩ := World.cells?_some h1
      obtain ⟨f, rfl, hd⟩ := open_pair h2
      have e0 := hcell 0 (by omega)
      have e1 := hcell 1 (by omega)
      rw [Deep.add_add] at e0 e1
      simp only [Prod.mk.injEq] at hd
      exact ⟨f, by simpa [fpair] using e0, by simpa [fpair] using e1, hd.1⟩
    obtain ⟨q, hq⟩ := Deep.choose_lt each
    refine ⟨(List.range len).map q, by simp, ⟨?_, ?_, ?_⟩, by simpa using hl, hm⟩
    · by_cases h0 : len = 0
      · left; subst h0; rfl
      · right
        have hc0 := (hq 0 (by omega)).1
        obtain ⟨b, off, rfl, hb⟩ := addr_of_cell hc0 (by rw [show 0 * 2 = 0 by omega] at hc0; rw [hc0]; simp)
        refine ⟨b, off, rfl, hb, fun i f hi => ?_⟩
        have hil : i < len := by
          have := (List.getElem?_eq_some_iff.1 hi).1
          simpa using this
        have hf2 : q i = f := by simpa [hil] using hi
        obtain ⟨e0, e1, _⟩ := hq i hil
        rw [Addr.add_mid, hf2] at e0 e1
        exact ⟨e0, by rw [Nat.add_assoc]; exact e1⟩
    · have hb : Tryd.prog.bytesOf 39 = 32 := by kernel_rfl
      have h2 := hw ((len + (m - len)) * 32) (by rw [hx.1]; simp [DataW.weights, Tryd.underlying22, hb])
      simp
      omega
    · intro f hf2
      obtain ⟨i, hi, rfl⟩ := List.mem_map.1 hf2
      have hil := List.mem_range.1 hi
      have hd := (hq i hil).2.2
      have h3 : ∀ n ∈ [(q i).1.size, (q i).2.size], n ≤ 140737488355328 := by
        intro n hn
        apply hw n
        rw [hx.1]
        simp only [DataW.weights, Tryd.underlying22]
        refine List.mem_cons_of_mem _ (List.mem_append.2 (.inl ?_))
        refine weights_all_mem (d := D i) (List.mem_map.2 ⟨i, hi, rfl⟩) n ?_
        rw [hd, weights_pair]
        exact hn
      exact ⟨h3 _ (by simp), h3 _ (by simp)⟩
theorem Flds.lies {W : World} {a : Option Addr} {l : List Fld} (h : Flds W a l) : Lies W a l nobody := by
  rcases h.1 with h | ⟨b, off, e, hb, hc⟩
  · exact .inl h
  · exact .inr ⟨b, off, e, hb, id, hc⟩
theorem below_of_keeps {w w' : World} (h : Keeps nobody w w') : Below w.heap.size w w' := ⟨h.os, h.tape, h.output, h.size, fun k hk => h.block k hk id⟩
end Go.Proofs.YtladdbppkepphaaDoor
