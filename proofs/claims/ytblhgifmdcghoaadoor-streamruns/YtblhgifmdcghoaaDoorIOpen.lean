/-
  What the rows' list of variables gives; lists of numbers that came in, opened.
-/
import Derived.Test.YtblhgifmdcghoaaDoorIName
namespace Go.Proofs.YtblhgifmdcghoaaDoor
open Go.ChangeShapes Go.WideShapes Go.ChangeAt Go.RowKit

def laid1 : List (String × DataW Unit) := [("bywash/stream.names", Rows.laid_bywash_stream_names)]
theorem gNames : Tryd.prog.globalNamed "bywash/stream.names" = some 0 := by kernel_rfl
theorem tNames : (Tryd.prog.globals[0]?).map (·.type) = some 34 := by kernel_rfl
theorem cellsInt : Tryd.prog.cellsOf 3 = 1 := by kernel_rfl

/-- A list of numbers that came in: where they lie. -/
def Ints (W : World) (a : Option Addr) (l : List Int) : Prop :=
  (l = [] ∨ ∃ b off, a = some ⟨b, off, none⟩ ∧ b < W.heap.size ∧ ∀ i x, l[i]? = some x → W.cell? ⟨b, off + i, none⟩ = some (.int .i64 x)) ∧ l.length ≤ 140737488355328
set_option maxRecDepth 100000 in
theorem open_Int {H : Type} {enc : TypeId × Value → H} {W : World} {a : Option Addr} {len cap : Nat} {d : DataW H} {ps : List MemPlace}
    (h : DataW.Trod enc Tryd.prog W 0 (fun _ => true) true 30 (.slice a len cap) d ps) (hw : ∀ n ∈ d.weights Tryd.prog 30, n ≤ 140737488355328) : ∃ l : List Int, len = l.length ∧ Ints W a l := by
  obtain ⟨fuel, hf⟩ := h
  rcases Deep.open_slice Tryd.underlying30 hf with ⟨hcs, _⟩ | ⟨a', len', cap', m, n, D, Pl, hcs, _, hl, hm, hz, hx, hel⟩
  · simp [Value.cells] at hcs
    obtain ⟨rfl, rfl, rfl⟩ := hcs
    exact ⟨[], rfl, .inl rfl, by simp⟩
  · simp [Value.cells] at hcs
    obtain ⟨rfl, rfl, rfl⟩ := hcs
    simp only [if_true] at hz
    subst hz
    simp only [Prod.mk.injEq] at hx
    have each : ∀ i, i < len → ∃ f : Int, W.cell? (a'.add i) = some (.int .i64 f) ∧ D i = .lit (.int .i64 f) := by
      intro i hi
      obtain ⟨cs', h1, h2⟩ := hel i (by omega)
      rw [cellsInt] at h1
      obtain ⟨hlen, _, hcell⟩ := World.cells?_some h1
      obtain ⟨f, e1, d1, _⟩ := DataW.trod_int Tryd.underlying3 h2
      subst e1
      have e := hcell 0 (by decide)
      rw [Deep.add_add, Nat.mul_one, Nat.add_zero] at e
      exact ⟨f, by rw [e]; rfl, congrArg Prod.fst d1⟩
    obtain ⟨q, hq⟩ := Deep.choose_lt each
    refine ⟨(List.range len).map q, by simp, ?_, ?_⟩
    · by_cases h0 : len = 0
      · left; subst h0; rfl
      · right
        have hc0 := (hq 0 (by omega)).1
        obtain ⟨b, off, rfl, hb⟩ := addr_of_cell hc0 (by rw [hc0]; simp)
        refine ⟨b, off, rfl, hb, fun i f hi => ?_⟩
        have hil : i < len := by
          have := (List.getElem?_eq_some_iff.1 hi).1
          simpa using this
        have hf2 : q i = f := by simpa [hil] using hi
        have e := (hq i hil).1
        rw [Addr.add_mid, hf2] at e
        exact e
    · have hb : Tryd.prog.bytesOf 3 = 8 := by kernel_rfl
      have h2 := hw ((len + (m - len)) * 8) (by rw [hx.1]; simp [DataW.weights, Tryd.underlying30, hb])
      simp
      omega

def AtI (w : World) (b off : Nat) (l : List Int) : Prop := ∀ i x, l[i]? = some x → w.cell? ⟨b, off + i, none⟩ = some (.int .i64 x)
theorem below_cell {W w : World} (h : Below W.heap.size W w) {p : Addr} (hp : p.block < W.heap.size) : w.cell? p = W.cell? p := World.cell?_of_block (h.block _ hp)
theorem Ints.at {W : World} {a : Option Addr} {l : List Int} (h : Ints W a l) : ∃ b off, (l = [] ∨ a = some ⟨b, off, none⟩) ∧ ∀ w, Below W.heap.size W w → AtI w b off l := by
  rcases h.1 with rfl | ⟨b, off, e, hb, hc⟩
  · exact ⟨0, 0, .inl rfl, fun w _ i x hi => by simp at hi⟩
  · exact ⟨b, off, .inr e, fun w hw i x hi => (below_cell hw hb).trans (hc i x hi)⟩
theorem laidNames_eq : (Rows.laid_bywash_stream_names : DataW Unit) = .agg (stateL.map fun s => .lit (.string s.data.toList)) := by
  unfold Rows.laid_bywash_stream_names stateL
  rfl
set_option maxRecDepth 100000 in
theorem env_of_laid {W : World} (h : laidMetH Tryd.prog laid1 W) : Env W := by
  have h' : laidMet Tryd.prog [("bywash/stream.names", Rows.laid_bywash_stream_names)] W := h
  obtain ⟨ps, ⟨g0, t0, cs0, f0, p0, q0, hg0, ht0, hv0, hd0, _, _⟩, _, _⟩ := h'
  obtain rfl := Option.some.inj (gNames.symm.trans hg0)
  obtain rfl := Option.some.inj (tNames.symm.trans ht0)
  obtain ⟨xs, m1, rfl, hx1, hlen, hn, hel⟩ := DataW.trod_array Tryd.underlying34 hd0
  rw [laidNames_eq] at hx1
  simp only [Prod.mk.injEq, DataW.agg.injEq] at hx1
  have key : ∀ i s, stateL[i]? = some s → W.cell? ⟨0, i, none⟩ = some (.string s) := by
    intro i s hi
    have hi5 : i < 5 := by have := (List.getElem?_eq_some_iff.1 hi).1; rwa [stateL_length] at this
    have hxi := hel i hi5
    rw [cellsStr] at hxi
    have hlt : i < xs.length := by omega
    rw [List.getElem?_eq_getElem hlt] at hxi
    obtain ⟨g, e1, e2, _⟩ := DataW.trod_string Tryd.underlying9 hxi
    have h3 : (xs.map (·.1))[i]? = some (.lit (.string g.data.toList)) := by simp [List.getElem?_eq_getElem hlt, e2]
    rw [← hx1.1, List.getElem?_map, hi] at h3
    obtain rfl : s = g := by
      obtain ⟨⟨x⟩⟩ := s
      obtain ⟨⟨y⟩⟩ := g
      simp at h3
      simp [h3]
    have c0 := World.var?_cell hg0 hv0 i
    have k0 : cs0.toList[i]? = some (.string s) := by
      have := congrArg (fun l => l[0]?) e1
      simpa [List.getElem?_take, List.getElem?_drop] using this
    rw [c0]
    simpa using k0
  refine ⟨?_, key⟩
  have h0 := key 0 _ rfl
  exact World.block_lt_of_cell? W ⟨0, 0, none⟩ h0
/-- The door's own heap meets the rows' list. -/
theorem door_met (os : Os) (args : Array Value) : laidMetH Tryd.prog laid1 ((World.doorLaid Tryd.prog 400 os).forCall (fun _ _ => 0) ⟨#[], args, []⟩).memory :=
  laidMet_of_run' 8 (by kernel_rfl) (by kernel_rfl)
end Go.Proofs.YtblhgifmdcghoaaDoor
