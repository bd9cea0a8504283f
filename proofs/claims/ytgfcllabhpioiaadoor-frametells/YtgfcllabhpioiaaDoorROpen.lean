/-
  What the rows' list of variables gives; frames, and lists of frames, that came in, opened.
-/
import Derived.Test.YtgfcllabhpioiaaDoorRAlive
import Derived.Test.YtgfcllabhpioiaaDoorGDoor
namespace Go.Proofs.YtgfcllabhpioiaaDoor
open Go.ChangeShapes Go.WideShapes Go.ChangeAt Go.RowKit

def laid1 : List (String × DataW Unit) := [("bywash/frame.names", Rows.laid_bywash_frame_names)]
theorem gNames : Tryd.prog.globalNamed "bywash/frame.names" = some 0 := by kernel_rfl
theorem tNames : (Tryd.prog.globals[0]?).map (·.type) = some 47 := by kernel_rfl
theorem cellsInt : Tryd.prog.cellsOf 3 = 1 := by kernel_rfl
theorem cellsFrm : Tryd.prog.cellsOf 23 = 4 := by kernel_rfl

instance : Inhabited Frm := ⟨noF⟩
def frcells (f : Frm) : List Value := [.int .i64 f.kind, .int .i64 f.flags, .int .i64 f.id, .string f.body]
section
variable {H : Type} {enc : TypeId × Value → H} {w : World} {base : Nat} {spare : Nat → Bool} {held : Bool}
set_option maxRecDepth 100000 in
theorem open_four {fuel : Nat} {cs : List Value} {x : DataW H × List MemPlace} (h : DataW.trod enc Tryd.prog w base spare held fuel 23 cs = some x) :
    ∃ f : Frm, cs = frcells f ∧ x = (.agg [.lit (.int .i64 f.kind), .lit (.int .i64 f.flags), .lit (.int .i64 f.id), .lit (.string f.body.data.toList)], []) := by
  obtain ⟨xs, n, _, hx, hl, hxl, hf⟩ := DataW.trod_struct Tryd.underlying23 h
  rw [cellsFrm] at hl
  match xs, hxl, cs, hl with
  | [y0, y1, y2, y3], _, [v0, v1, v2, v3], _ =>
    have g0 := hf 0 _ rfl
    have g1 := hf 1 _ rfl
    have g2 := hf 2 _ rfl
    have g3 := hf 3 _ rfl
    simp [cellsStr, cellsInt] at g0 g1 g2 g3
    obtain ⟨a, e0, d0, _⟩ := DataW.trod_int Tryd.underlying3 g0
    obtain ⟨b, e1, d1, _⟩ := DataW.trod_int Tryd.underlying3 g1
    obtain ⟨c, e2, d2, _⟩ := DataW.trod_int Tryd.underlying3 g2
    obtain ⟨d, e3, d3, _⟩ := DataW.trod_string Tryd.underlying9 g3
    simp at e0 e1 e2 e3
    subst e0 e1 e2 e3 d0 d1 d2 d3
    exact ⟨⟨a, b, c, d⟩, rfl, by simpa using hx⟩
end
set_option maxRecDepth 100000 in
theorem weights_four {H : Type} (f : Frm) : DataW.weights (H := H) Tryd.prog 23 (.agg [.lit (.int .i64 f.kind), .lit (.int .i64 f.flags), .lit (.int .i64 f.id), .lit (.string f.body.data.toList)]) = [f.body.size] := by
  simp [DataW.weights, Tryd.underlying23, DataW.weightsEach]
set_option maxRecDepth 100000 in
theorem open_Frame {H : Type} {enc : TypeId × Value → H} {W : World} {r : Reach} {b0 : Nat} {v : Value} {d : DataW H} {ps : List MemPlace} (hok : Value.okWide Tryd.prog W r b0 23 v)
    (h : DataW.Trod enc Tryd.prog W 0 (fun _ => true) true 23 v d ps) (hw : ∀ n ∈ d.weights Tryd.prog 23, n ≤ 140737488355328) : ∃ f : Frm, v = frval f ∧ f.body.size ≤ 140737488355328 := by
  obtain ⟨cs, rfl, _⟩ := okWide_struct Tryd.underlying23 hok
  obtain ⟨m, hm⟩ := h
  obtain ⟨f, hc, hx⟩ := open_four hm
  simp only [Prod.mk.injEq] at hx
  rw [hx.1, weights_four] at hw
  refine ⟨f, ?_, hw _ (by simp)⟩
  have : cs.toList = frcells f := hc
  rw [← Array.toArray_toList (xs := cs), this]
  rfl
/-- A list of frames that came in: where they lie, how great they may be. -/
def Frs (W : World) (a : Option Addr) (l : List Frm) : Prop :=
  (l = [] ∨ ∃ b off, a = some ⟨b, off, none⟩ ∧ b < W.heap.size ∧ ∀ i f, l[i]? = some f → ∀ j v, (frcells f)[j]? = some v → W.cell? ⟨b, off + (i * 4 + j), none⟩ = some v) ∧
  l.length ≤ 140737488355328 ∧ ∀ f ∈ l, f.body.size ≤ 140737488355328
set_option maxRecDepth 100000 in
theorem open_Frames {H : Type} {enc : TypeId × Value → H} {W : World} {a : Option Addr} {len cap : Nat} {d : DataW H} {ps : List MemPlace}
    (h : DataW.Trod enc Tryd.prog W 0 (fun _ => true) true 37 (.slice a len cap) d ps) (hw : ∀ n ∈ d.weights Tryd.prog 37, n ≤ 140737488355328) : ∃ l : List Frm, len = l.length ∧ Frs W a l := by
  obtain ⟨fuel, hf⟩ := h
  rcases Deep.open_slice Tryd.underlying37 hf with ⟨hcs, _⟩ | ⟨a', len', cap', m, n, D, Pl, hcs, _, hl, hm, hz, hx, hel⟩
  · simp [Value.cells] at hcs
    obtain ⟨rfl, rfl, rfl⟩ := hcs
    exact ⟨[], rfl, .inl rfl, by simp, by simp⟩
  · simp [Value.cells] at hcs
    obtain ⟨rfl, rfl, rfl⟩ := hcs
    simp only [if_true] at hz
    subst hz
    simp only [Prod.mk.injEq] at hx
    have each : ∀ i, i < len → ∃ f : Frm, (∀ j v, (frcells f)[j]? = some v → W.cell? (a'.add (i * 4 + j)) = some v) ∧ D i = .agg [.lit (.int .i64 f.kind), .lit (.int .i64 f.flags), .lit (.int .i64 f.id), .lit (.string f.body.data.toList)] := by
      intro i hi
      obtain ⟨cs', h1, h2⟩ := hel i (by omega)
      rw [cellsFrm] at h1
      obtain ⟨_, _, hcell⟩ := World.cells?_some h1
      obtain ⟨f, rfl, hd⟩ := open_four h2
      simp only [Prod.mk.injEq] at hd
      refine ⟨f, fun j v hj => ?_, hd.1⟩
      have hj4 : j < 4 := (List.getElem?_eq_some_iff.1 hj).1
      have e := hcell j hj4
      rw [Deep.add_add] at e
      rw [e]
      simpa using hj
    obtain ⟨q, hq⟩ := Deep.choose_lt each
    refine ⟨(List.range len).map q, by simp, ?_, ?_, ?_⟩
    · by_cases h0 : len = 0
      · left; subst h0; rfl
      · right
        have hc0 := (hq 0 (by omega)).1 0 _ rfl
        obtain ⟨b, off, rfl, hb⟩ := addr_of_cell hc0 (by rw [show 0 * 4 + 0 = 0 by omega] at hc0; rw [hc0]; simp)
        refine ⟨b, off, rfl, hb, fun i f hi j v hj => ?_⟩
        have hil : i < len := by
          have := (List.getElem?_eq_some_iff.1 hi).1
          simpa using this
        have hf2 : q i = f := by simpa [hil] using hi
        have e := (hq i hil).1 j v (by rw [hf2]; exact hj)
        rw [Addr.add_mid] at e
        exact e
    · have hb : Tryd.prog.bytesOf 23 = 40 := by kernel_rfl
      have h2 := hw ((len + (m - len)) * 40) (by rw [hx.1]; simp [DataW.weights, Tryd.underlying37, hb])
      simp
      omega
    · intro f hf2
      obtain ⟨i, hi, rfl⟩ := List.mem_map.1 hf2
      have hil := List.mem_range.1 hi
      have hd := (hq i hil).2
      apply hw
      rw [hx.1]
      simp only [DataW.weights, Tryd.underlying37]
      refine List.mem_cons_of_mem _ (List.mem_append.2 (.inl ?_))
      refine weights_all_mem (d := D i) (List.mem_map.2 ⟨i, hi, rfl⟩) _ ?_
      rw [hd, weights_four]
      simp

theorem laidNames_eq : (Rows.laid_bywash_frame_names : DataW Unit) = .agg (namesL.map fun s => .lit (.string s.data.toList)) := by
  unfold Rows.laid_bywash_frame_names namesL
  rfl
set_option maxRecDepth 100000 in
theorem env_of_laid {W : World} (h : laidMetH Tryd.prog laid1 W) : Env W := by
  have h' : laidMet Tryd.prog [("bywash/frame.names", Rows.laid_bywash_frame_names)] W := h
  obtain ⟨ps, ⟨g0, t0, cs0, f0, p0, q0, hg0, ht0, hv0, hd0, _, _⟩, _, _⟩ := h'
  obtain rfl := Option.some.inj (gNames.symm.trans hg0)
  obtain rfl := Option.some.inj (tNames.symm.trans ht0)
  obtain ⟨xs, m1, rfl, hx1, hlen, hn, hel⟩ := DataW.trod_array Tryd.underlying47 hd0
  rw [laidNames_eq] at hx1
  simp only [Prod.mk.injEq, DataW.agg.injEq] at hx1
  have key : ∀ i s, namesL[i]? = some s → W.cell? ⟨0, i, none⟩ = some (.string s) := by
    intro i s hi
    have hi10 : i < 10 := by have := (List.getElem?_eq_some_iff.1 hi).1; rwa [namesL_length] at this
    have hxi := hel i hi10
    rw [cellsStr] at hxi
    have hlt : i < xs.length := by omega
    rw [List.getElem?_eq_getElem hlt] at hxi
    obtain ⟨g, e1, e2, _⟩ := DataW.trod_string Tryd.underlying9 hxi
    have h3 : (xs.map (·.1))[i]? = some (.lit (.string g.data.toList)) := by simp [List.getElem?_eq_getElem hlt, e2]
    rw [← hx1.1, List.getElem?_map, hi] at h3
    obtain rfl : s = g := by
      obtain ⟨⟨x⟩⟩ := s
      obtain ⟨⟨y⟩⟩ := g
      simp at h3
      simp [h3]
    have c0 := World.var?_cell hg0 hv0 i
    have k0 : cs0.toList[i]? = some (.string s) := by
      have := congrArg (fun l => l[0]?) e1
      simpa [List.getElem?_take, List.getElem?_drop] using this
    rw [c0]
    simpa using k0
  refine ⟨?_, key⟩
  have h0 := key 0 _ rfl
  exact World.block_lt_of_cell? W ⟨0, 0, none⟩ h0
/-- The door's own heap meets the rows' list. -/
theorem door_met (os : Os) (args : Array Value) : laidMetH Tryd.prog laid1 ((World.doorLaid Tryd.prog 400 os).forCall (fun _ _ => 0) ⟨#[], args, []⟩).memory :=
  laidMet_of_run' 8 (by kernel_rfl) (by kernel_rfl)
end Go.Proofs.YtgfcllabhpioiaaDoor
