/-
  Lists of what is done (two numbers each) that came in, opened.
-/
import Derived.Test.YtkodpoijdaoihaaNRow
namespace Go.Proofs.Ytkodpoijdaoihaa
open Go.ChangeShapes Go.WideShapes Go.ChangeAt Go.RowKit

/-- A list of pairs lies there, in a block that is none of S. -/
def OLies (w : World) (a : Option Addr) (l : List (Int × Int)) (S : Nat → Prop) : Prop :=
  l = [] ∨ ∃ b off, a = some ⟨b, off, none⟩ ∧ b < w.heap.size ∧ ¬ S b ∧ ∀ i f, l[i]? = some f → w.cell? ⟨b, off + i * 2, none⟩ = some (.int .i64 f.1) ∧ w.cell? ⟨b, off + i * 2 + 1, none⟩ = some (.int .i64 f.2)
theorem OLies.keeps {w w' : World} {a : Option Addr} {l : List (Int × Int)} {S : Nat → Prop} (h : OLies w a l S) (hk : Keeps S w w') : OLies w' a l S := by
  rcases h with h | ⟨b, off, e, hb, hS, hc⟩
  · exact .inl h
  · refine .inr ⟨b, off, e, Nat.lt_of_lt_of_le hb hk.size, hS, fun i f hi => ?_⟩
    obtain ⟨h0, h1⟩ := hc i f hi
    exact ⟨(hk.cell (p := ⟨b, off + i * 2, none⟩) hb hS).trans h0, (hk.cell (p := ⟨b, off + i * 2 + 1, none⟩) hb hS).trans h1⟩
theorem OLies.quiet {w w' : World} {a : Option Addr} {l : List (Int × Int)} {S : Nat → Prop} (h : OLies w a l S) (hk : Keeps nobody w w') : OLies w' a l S := by
  rcases h with h | ⟨b, off, e, hb, hS, hc⟩
  · exact .inl h
  · refine .inr ⟨b, off, e, Nat.lt_of_lt_of_le hb hk.size, hS, fun i f hi => ?_⟩
    obtain ⟨h0, h1⟩ := hc i f hi
    exact ⟨(hk.cell (p := ⟨b, off + i * 2, none⟩) hb id).trans h0, (hk.cell (p := ⟨b, off + i * 2 + 1, none⟩) hb id).trans h1⟩
theorem OLies.at {w : World} {a : Option Addr} {l : List (Int × Int)} {S : Nat → Prop} (h : OLies w a l S) (j : Nat) (hj : j < l.length) : ∃ b off, a = some ⟨b, off, none⟩ ∧ b < w.heap.size ∧ ¬ S b ∧ w.cell? ⟨b, off + j * 2, none⟩ = some (.int .i64 (l[j]'hj).1) ∧ w.cell? ⟨b, off + j * 2 + 1, none⟩ = some (.int .i64 (l[j]'hj).2) := by
  rcases h with rfl | ⟨b, off, e, hb, hS, hc⟩
  · simp at hj
  · exact ⟨b, off, e, hb, hS, hc j _ (List.getElem?_eq_getElem hj)⟩
def opair (f : Int × Int) : List Value := [.int .i64 f.1, .int .i64 f.2]
theorem cellsOp : Try.prog.cellsOf 43 = 2 := by kernel_rfl

section
variable {H : Type} {enc : TypeId × Value → H} {w : World} {base : Nat} {spare : Nat → Bool} {held : Bool}
set_option maxRecDepth 100000 in
theorem oopen_pair {fuel : Nat} {cs : List Value} {x : DataW H × List MemPlace} (h : DataW.trod enc Try.prog w base spare held fuel 43 cs = some x) :
    ∃ f : (Int × Int), cs = opair f ∧ x = (.agg [.lit (.int .i64 f.1), .lit (.int .i64 f.2)], []) := by
  obtain ⟨xs, n, _, hx, hl, hxl, hf⟩ := DataW.trod_struct Try.underlying43 h
  rw [cellsOp] at hl
  match xs, hxl, cs, hl with
  | [y0, y1], _, [v0, v1], _ =>
    have g0 := hf 0 _ rfl
    have g1 := hf 1 _ rfl
    simp [cellsInt] at g0 g1
    obtain ⟨a, e0, d0, _⟩ := DataW.trod_int Try.underlying3 g0
    obtain ⟨b, e1, d1, _⟩ := DataW.trod_int Try.underlying3 g1
    simp at e0 e1
    subst e0 e1 d0 d1
    exact ⟨(a, b), rfl, by simpa using hx⟩
end
/-- A list of what is done that came in: where they lie, how many they may be. -/
def Ops (W : World) (a : Option Addr) (cap : Nat) (l : List (Int × Int)) : Prop := OLies W a l nobody ∧ l.length ≤ cap ∧ cap ≤ maxLen
set_option maxRecDepth 100000 in
theorem open_Ops {H : Type} {enc : TypeId × Value → H} {W : World} {a : Option Addr} {len cap : Nat} {d : DataW H} {ps : List MemPlace}
    (h : DataW.Trod enc Try.prog W 0 (fun _ => true) true 22 (.slice a len cap) d ps) (_ : ∀ n ∈ d.weights Try.prog 22, n ≤ 140737488355328) : ∃ l : List (Int × Int), len = l.length ∧ Ops W a cap l := by
  obtain ⟨fuel, hf⟩ := h
  rcases Deep.open_slice Try.underlying22 hf with ⟨hcs, _⟩ | ⟨a', len', cap', m, n, D, Pl, hcs, _, hl, hm, hz, hx, hel⟩
  · simp [Value.cells] at hcs
    obtain ⟨rfl, rfl, rfl⟩ := hcs
    exact ⟨[], rfl, .inl rfl, by simp, by simp [maxLen]⟩
  · simp [Value.cells] at hcs
    obtain ⟨rfl, rfl, rfl⟩ := hcs
    simp only [if_true] at hz
    subst hz
    simp only [Prod.mk.injEq] at hx
    have each : ∀ i, i < len → ∃ f : (Int × Int), W.cell? (a'.add (i * 2)) = some (.int .i64 f.1) ∧ W.cell? (a'.add (i * 2 + 1)) = some (.int .i64 f.2) ∧ D i = .agg [.lit (.int .i64 f.1), .lit (.int .i64 f.2)] := by
      intro i hi
      obtain ⟨cs', h1, h2⟩ := hel i (by omega)
      rw [cellsOp] at h1
      obtain ⟨_, _, hcell⟩ := World.cells?_some h1
      obtain ⟨f, rfl, hd⟩ := oopen_pair h2
      have e0 := hcell 0 (by omega)
      have e1 := hcell 1 (by omega)
      rw [Deep.add_add] at e0 e1
      simp only [Prod.mk.injEq] at hd
      exact ⟨f, by simpa [opair] using e0, by simpa [opair] using e1, hd.1⟩
    obtain ⟨q, hq⟩ := Deep.choose_lt each
    refine ⟨(List.range len).map q, by simp, ?_, by simpa using hl, hm⟩
    · by_cases h0 : len = 0
      · left; subst h0; rfl
      · right
        have hc0 := (hq 0 (by omega)).1
        obtain ⟨b, off, rfl, hb⟩ := addr_of_cell hc0 (by rw [show 0 * 2 = 0 by omega] at hc0; rw [hc0]; simp)
        refine ⟨b, off, rfl, hb, id, fun i f hi => ?_⟩
        have hil : i < len := by
          have := (List.getElem?_eq_some_iff.1 hi).1
          simpa using this
        have hf2 : q i = f := by simpa [hil] using hi
        obtain ⟨e0, e1, _⟩ := hq i hil
        rw [Addr.add_mid, hf2] at e0 e1
        exact ⟨e0, by rw [Nat.add_assoc]; exact e1⟩
end Go.Proofs.Ytkodpoijdaoihaa
