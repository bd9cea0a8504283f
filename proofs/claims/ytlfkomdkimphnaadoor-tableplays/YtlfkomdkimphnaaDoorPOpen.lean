/-
  A list of what is done, opened.
-/
import Derived.Test.YtlfkomdkimphnaaDoorTLaw
namespace Go.Proofs.YtlfkomdkimphnaaDoor
open Go.ChangeShapes Go.WideShapes Go.ChangeAt Go.RowKit

/-- What is done: its kind, its number, its header. -/
abbrev Opr : Type := Int × Int × Fld
theorem cellsOp : Tryd.prog.cellsOf 47 = 4 := by kernel_rfl
theorem cellsInt : Tryd.prog.cellsOf 3 = 1 := by kernel_rfl
abbrev Fit (n : Int) : Prop := -9223372036854775808 ≤ n ∧ n ≤ 9223372036854775807
def ocells (o : Opr) : List Value := [.int .i64 o.1, .int .i64 o.2.1, .string o.2.2.1, .string o.2.2.2]
theorem fit_of_wf {n : Int} (h : (Lit.int .i64 n).wf = true) : Fit n := by
  have e1 : IntKind.min .i64 = -9223372036854775808 := by decide
  have e2 : IntKind.max .i64 = 9223372036854775807 := by decide
  simp only [Lit.wf, Bool.and_eq_true, decide_eq_true_eq, e1, e2] at h
  exact h

section
variable {H : Type} {enc : TypeId × Value → H} {w : World} {base : Nat} {spare : Nat → Bool} {held : Bool}
theorem open_op {fuel : Nat} {cs : List Value} {x : DataW H × List MemPlace} (h : DataW.trod enc Tryd.prog w base spare held fuel 47 cs = some x) :
    ∃ o : Opr, cs = ocells o ∧ Fit o.1 ∧ Fit o.2.1 ∧ x.1 = .agg [.lit (.int .i64 o.1), .lit (.int .i64 o.2.1), .agg [.lit (.string o.2.2.1.data.toList), .lit (.string o.2.2.2.data.toList)]] := by
  obtain ⟨xs, n, _, hx, hl, hxl, hf⟩ := DataW.trod_struct Tryd.underlying47 h
  rw [cellsOp] at hl
  match xs, hxl, cs, hl with
  | [y0, y1, y2], _, [v0, v1, v2, v3], _ =>
    have g0 := hf 0 _ rfl
    have g1 := hf 1 _ rfl
    have g2 := hf 2 _ rfl
    simp [cellsInt, cellsFld] at g0 g1 g2
    obtain ⟨a, e0, d0, f0⟩ := DataW.trod_int Tryd.underlying3 g0
    obtain ⟨b, e1, d1, f1⟩ := DataW.trod_int Tryd.underlying3 g1
    obtain ⟨f, e2, d2⟩ := open_pair g2
    simp [fpair] at e0 e1 e2
    obtain ⟨e2, e3⟩ := e2
    subst e0 e1 e2 e3 d0 d1 d2
    exact ⟨(a, b, f), rfl, fit_of_wf f0, fit_of_wf f1, by rw [hx]; rfl⟩
end

/-- A list of what is done: where it lies, how great it may be. -/
def Oprs (W : World) (a : Option Addr) (l : List Opr) : Prop :=
  (l = [] ∨ ∃ b off, a = some ⟨b, off, none⟩ ∧ b < W.heap.size ∧ ∀ i o, l[i]? = some o → W.cell? ⟨b, off + i * 4, none⟩ = some (.int .i64 o.1) ∧ W.cell? ⟨b, off + i * 4 + 1, none⟩ = some (.int .i64 o.2.1) ∧ W.cell? ⟨b, off + i * 4 + 2, none⟩ = some (.string o.2.2.1) ∧ W.cell? ⟨b, off + i * 4 + 3, none⟩ = some (.string o.2.2.2)) ∧
  l.length ≤ 140737488355328 ∧ ∀ o ∈ l, (Fit o.1 ∧ Fit o.2.1) ∧ o.2.2.1.size ≤ 140737488355328 ∧ o.2.2.2.size ≤ 140737488355328
theorem weights_op {H : Type} (o : Opr) : DataW.weights (H := H) Tryd.prog 47 (.agg [.lit (.int .i64 o.1), .lit (.int .i64 o.2.1), .agg [.lit (.string o.2.2.1.data.toList), .lit (.string o.2.2.2.data.toList)]]) = [o.2.2.1.size, o.2.2.2.size] := by
  simp [DataW.weights, Tryd.underlying47, DataW.weightsEach]

theorem open_ops {H : Type} {enc : TypeId × Value → H} {W : World} {a : Option Addr} {len cap : Nat} {d : DataW H} {ps : List MemPlace}
    (h : DataW.Trod enc Tryd.prog W 0 (fun _ => true) true 22 (.slice a len cap) d ps) (hw : ∀ n ∈ d.weights Tryd.prog 22, n ≤ 140737488355328) : ∃ l : List Opr, len = l.length ∧ Oprs W a l := by
  obtain ⟨fuel, hf⟩ := h
  rcases Deep.open_slice Tryd.underlying22 hf with ⟨hcs, _⟩ | ⟨a', len', cap', m, n, D, Pl, hcs, _, hl, hm, hz, hx, hel⟩
  · simp [Value.cells] at hcs
    obtain ⟨rfl, rfl, rfl⟩ := hcs
    exact ⟨[], rfl, .inl rfl, by simp, by simp⟩
  · simp [Value.cells] at hcs
    obtain ⟨rfl, rfl, rfl⟩ := hcs
    simp only [if_true] at hz
    subst hz
    simp only [Prod.mk.injEq] at hx
    have each : ∀ i, i < len → ∃ o : Opr, (∀ j u, (ocells o)[j]? = some u → W.cell? (a'.add (i * 4 + j)) = some u) ∧ (Fit o.1 ∧ Fit o.2.1) ∧ D i = .agg [.lit (.int .i64 o.1), .lit (.int .i64 o.2.1), .agg [.lit (.string o.2.2.1.data.toList), .lit (.string o.2.2.2.data.toList)]] := by
      intro i hi
      obtain ⟨cs', h1, h2⟩ := hel i (by omega)
      rw [cellsOp] at h1
      obtain ⟨_, _, hcell⟩ := World.cells?_some h1
      obtain ⟨o, rfl, f0, f1, hd⟩ := open_op h2
      refine ⟨o, fun j u hj => ?_, ⟨f0, f1⟩, hd⟩
      have hj4 : j < 4 := by have := (List.getElem?_eq_some_iff.1 hj).1; simpa [ocells] using this
      have e0 := hcell j (by omega)
      rw [Deep.add_add] at e0
      rw [e0]
      exact hj
    obtain ⟨q, hq⟩ := Deep.choose_lt each
    refine ⟨(List.range len).map q, by simp, ?_, ?_, ?_⟩
    · by_cases h0 : len = 0
      · left; subst h0; rfl
      · right
        have hc0 := (hq 0 (by omega)).1 0 _ rfl
        obtain ⟨b, off, rfl, hb⟩ := addr_of_cell hc0 (by rw [show 0 * 4 + 0 = 0 by omega] at hc0; rw [hc0]; simp)
        refine ⟨b, off, rfl, hb, fun i f hi => ?_⟩
        have hil : i < len := by
          have := (List.getElem?_eq_some_iff.1 hi).1
          simpa using this
        have hf2 : q i = f := by simpa [hil] using hi
        have e := (hq i hil).1
        rw [hf2] at e
        have e0 := e 0 _ rfl
        have e1 := e 1 _ rfl
        have e2 := e 2 _ rfl
        have e3 := e 3 _ rfl
        rw [Addr.add_mid] at e0 e1 e2 e3
        refine ⟨e0, ?_, ?_, ?_⟩
        · rw [Nat.add_assoc]; exact e1
        · rw [Nat.add_assoc]; exact e2
        · rw [Nat.add_assoc]; exact e3
    · have hb : Tryd.prog.bytesOf 47 = 48 := by kernel_rfl
      have h2 := hw ((len + (m - len)) * 48) (by rw [hx.1]; simp [DataW.weights, Tryd.underlying22, hb])
      simp
      omega
    · intro f hf2
      obtain ⟨i, hi, rfl⟩ := List.mem_map.1 hf2
      have hil := List.mem_range.1 hi
      have hd := (hq i hil).2.2
      have h3 : ∀ n ∈ [(q i).2.2.1.size, (q i).2.2.2.size], n ≤ 140737488355328 := by
        intro n hn
        apply hw n
        rw [hx.1]
        simp only [DataW.weights, Tryd.underlying22]
        refine List.mem_cons_of_mem _ (List.mem_append.2 (.inl ?_))
        refine weights_all_mem (d := D i) (List.mem_map.2 ⟨i, hi, rfl⟩) n ?_
        rw [hd, weights_op]
        exact hn
      exact ⟨(hq i hil).2.1, h3 _ (by simp), h3 _ (by simp)⟩
end Go.Proofs.YtlfkomdkimphnaaDoor
