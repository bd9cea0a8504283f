/-
  Parts, lists of parts, that came in, opened.
-/
import Derived.Test.YtocpjajafocdaaaMMem
namespace Go.Proofs.Ytocpjajafocdaaa
open Go.ChangeShapes Go.WideShapes Go.ChangeAt Go.RowKit

theorem cellsInt : Try.prog.cellsOf 3 = 1 := by kernel_rfl
theorem cellsBool : Try.prog.cellsOf 4 = 1 := by kernel_rfl
theorem cellsPt : Try.prog.cellsOf 26 = 4 := by kernel_rfl

instance : Inhabited Pt := ⟨⟨0, 0, 0, false⟩⟩
/-- Its numbers are numbers of 64 bits. -/
def PtIn (p : Pt) : Prop := (-9223372036854775808 ≤ p.id ∧ p.id ≤ 9223372036854775807) ∧ (-9223372036854775808 ≤ p.left ∧ p.left ≤ 9223372036854775807) ∧ (-9223372036854775808 ≤ p.pend ∧ p.pend ≤ 9223372036854775807)
section
variable {H : Type} {enc : TypeId × Value → H} {w : World} {base : Nat} {spare : Nat → Bool} {held : Bool}
set_option maxRecDepth 100000 in
theorem open_pt {fuel : Nat} {cs : List Value} {x : DataW H × List MemPlace} (h : DataW.trod enc Try.prog w base spare held fuel 26 cs = some x) :
    ∃ p : Pt, cs = ptR.of p ∧ PtIn p ∧ x = (.agg [.lit (.int .i64 p.id), .lit (.int .i64 p.left), .lit (.int .i64 p.pend), .lit (.bool p.fin)], []) := by
  obtain ⟨xs, n, _, hx, hl, hxl, hf⟩ := DataW.trod_struct Try.underlying26 h
  rw [cellsPt] at hl
  match xs, hxl, cs, hl with
  | [y0, y1, y2, y3], _, [v0, v1, v2, v3], _ =>
    have g0 := hf 0 _ rfl
    have g1 := hf 1 _ rfl
    have g2 := hf 2 _ rfl
    have g3 := hf 3 _ rfl
    simp [cellsBool, cellsInt] at g0 g1 g2 g3
    obtain ⟨a, e0, d0, b0⟩ := DataW.trod_int Try.underlying3 g0
    obtain ⟨b, e1, d1, b1⟩ := DataW.trod_int Try.underlying3 g1
    obtain ⟨c, e2, d2, b2⟩ := DataW.trod_int Try.underlying3 g2
    obtain ⟨d, e3, d3⟩ := DataW.trod_bool Try.underlying4 g3
    simp at e0 e1 e2 e3
    subst e0 e1 e2 e3 d0 d1 d2 d3
    exact ⟨⟨a, b, c, d⟩, rfl, ⟨bounds_i64 b0, bounds_i64 b1, bounds_i64 b2⟩, by simpa using hx⟩
end
set_option maxRecDepth 100000 in
theorem open_Part {H : Type} {enc : TypeId × Value → H} {W : World} {r : Reach} {b0 : Nat} {v : Value} {d : DataW H} {ps : List MemPlace} (hok : Value.okWide Try.prog W r b0 26 v)
    (h : DataW.Trod enc Try.prog W 0 (fun _ => true) true 26 v d ps) : ∃ p : Pt, v = ptV p ∧ PtIn p := by
  obtain ⟨cs, rfl, _⟩ := okWide_struct Try.underlying26 hok
  obtain ⟨m, hm⟩ := h
  obtain ⟨p, hc, hb, _⟩ := open_pt hm
  refine ⟨p, ?_, hb⟩
  have : cs.toList = ptR.of p := hc
  rw [← Array.toArray_toList (xs := cs), this]
  rfl
/-- A list of parts that came in: where they lie, how great their numbers may be. -/
def Partss (W : World) (a : Option Addr) (l : List Pt) : Prop := ptR.Lies W a l nobody ∧ l.length ≤ 140737488355328 ∧ ∀ p ∈ l, PtIn p
set_option maxRecDepth 100000 in
theorem open_Parts {H : Type} {enc : TypeId × Value → H} {W : World} {a : Option Addr} {len cap : Nat} {d : DataW H} {ps : List MemPlace}
    (h : DataW.Trod enc Try.prog W 0 (fun _ => true) true 22 (.slice a len cap) d ps) (hw : ∀ n ∈ d.weights Try.prog 22, n ≤ 140737488355328) : ∃ l : List Pt, len = l.length ∧ Partss W a l := by
  obtain ⟨fuel, hf⟩ := h
  rcases Deep.open_slice Try.underlying22 hf with ⟨hcs, _⟩ | ⟨a', len', cap', m, n, D, Pl, hcs, _, hl, hm, hz, hx, hel⟩
  · simp [Value.cells] at hcs
    obtain ⟨rfl, rfl, rfl⟩ := hcs
    exact ⟨[], rfl, .inl rfl, by simp, by simp⟩
  · simp [Value.cells] at hcs
    obtain ⟨rfl, rfl, rfl⟩ := hcs
    simp only [if_true] at hz
    subst hz
    simp only [Prod.mk.injEq] at hx
    have each : ∀ i, i < len → ∃ p : Pt, (∀ j v, (ptR.of p)[j]? = some v → W.cell? (a'.add (i * 4 + j)) = some v) ∧ PtIn p := by
      intro i hi
      obtain ⟨cs', h1, h2⟩ := hel i (by omega)
      rw [cellsPt] at h1
      obtain ⟨_, _, hcell⟩ := World.cells?_some h1
      obtain ⟨p, rfl, hb, _⟩ := open_pt h2
      refine ⟨p, fun j v hj => ?_, hb⟩
      have hj4 : j < 4 := (List.getElem?_eq_some_iff.1 hj).1
      have e := hcell j hj4
      rw [Deep.add_add] at e
      rw [e]
      exact hj
    obtain ⟨q, hq⟩ := Deep.choose_lt each
    refine ⟨(List.range len).map q, by simp, ?_, ?_, ?_⟩
    · by_cases h0 : len = 0
      · left; subst h0; rfl
      · right
        have hc0 := (hq 0 (by omega)).1 0 _ rfl
        obtain ⟨b, off, rfl, hb⟩ := addr_of_cell hc0 (by rw [show 0 * 4 + 0 = 0 by omega] at hc0; rw [hc0]; simp)
        refine ⟨b, off, rfl, hb, id, fun i p hi j v hj => ?_⟩
        have hil : i < len := by
          have := (List.getElem?_eq_some_iff.1 hi).1
          simpa using this
        have hf2 : q i = p := by simpa [hil] using hi
        have e := (hq i hil).1 j v (by rw [hf2]; exact hj)
        rw [Addr.add_mid] at e
        exact e
    · have hb : Try.prog.bytesOf 26 = 32 := by kernel_rfl
      have h2 := hw ((len + (m - len)) * 32) (by rw [hx.1]; simp [DataW.weights, Try.underlying22, hb])
      simp
      omega
    · intro p hp
      obtain ⟨i, hi, rfl⟩ := List.mem_map.1 hp
      exact (hq i (List.mem_range.1 hi)).2
end Go.Proofs.Ytocpjajafocdaaa
