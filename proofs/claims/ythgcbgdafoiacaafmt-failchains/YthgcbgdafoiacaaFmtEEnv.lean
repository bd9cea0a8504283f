/-
  What the row's list of variables gives the walk; a world that meets it; the links that came in, opened.
-/
import Derived.Test.YthgcbgdafoiacaaFmtRows
import Derived.Test.YthgcbgdafoiacaaFmtELawS
import Derived.Test.YthgcbgdafoiacaaFmtGDoor
import Derived.LaidMore
import Derived.LaidHandle
import Derived.Stop.Joined
namespace Go.Proofs.YthgcbgdafoiacaaFmt
open Go.ChangeShapes Go.WideShapes Go.ChangeAt Go.RowKit

def laid2 : List (String × DataW Unit) := [("errors.errorType", Rows.laid_errors_errorType), ("bywash/fail.names", Rows.laid_bywash_fail_names)]
theorem gNames : Tryf.prog.globalNamed "bywash/fail.names" = some 0 := by kernel_rfl
theorem tNames : (Tryf.prog.globals[0]?).map (·.type) = some 58 := by kernel_rfl
theorem gEtype : Tryf.prog.globalNamed "errors.errorType" = some 1 := by kernel_rfl
theorem rt : (Tryf.prog.cutTypes.find? (·.1 == "internal/reflectlite.rtype")).map (·.2) = some 77 := by kernel_rfl
theorem oneRow : ((List.range 131).filter fun t => Tryf.prog.rowNamed t [101, 114, 114, 111, 114]) = [26] := by kernel_rfl
theorem tsize : Tryf.prog.types.size = 131 := by kernel_rfl
theorem cells50 : Tryf.prog.cellsOf 58 = 24 := by kernel_rfl
theorem etype_of_laid {W : World} (h : laidMetH Tryf.prog laid2 W) : W.cell? ⟨1, 0, none⟩ = some (.iface 77 (.agg #[.pointer (some ⟨2, 26, none⟩)])) := by
  have h' : laidMet Tryf.prog [("bywash/fail.names", Rows.laid_bywash_fail_names)] W ∧ handlesMet Tryf.prog [("errors.errorType", Rows.laid_errors_errorType)] W := h
  obtain ⟨name, u, ty, e1, e2, e3, e4, e5⟩ := h'.2 _ (List.mem_singleton.2 rfl)
  have en : name = [101, 114, 114, 111, 114] := (Option.some.inj e1).symm
  subst en
  obtain rfl := Option.some.inj (rt.symm.trans e2)
  have hm : ty ∈ (List.range 131).filter fun t => Tryf.prog.rowNamed t [101, 114, 114, 111, 114] := List.mem_filter.2 ⟨List.mem_range.2 (by rw [← tsize]; exact e3), e4⟩
  rw [oneRow] at hm
  obtain rfl := List.mem_singleton.1 hm
  have hh : typeHandle Tryf.prog 26 = .pointer (some ⟨2, 26, none⟩) := by kernel_rfl
  rw [hh] at e5
  simpa using World.var?_cell gEtype e5 0
theorem laidNames_eq : (Rows.laid_bywash_fail_names : DataW Unit) = .agg (namesL.map fun l => .lit (.string l)) := rfl
theorem names_of_laid {W : World} (h : laidMetH Tryf.prog laid2 W) (i : Nat) (hi : i < 24) : W.cell? ⟨0, i, none⟩ = some (.string (nameAt i)) := by
  have h' : laidMet Tryf.prog [("bywash/fail.names", Rows.laid_bywash_fail_names)] W ∧ handlesMet Tryf.prog [("errors.errorType", Rows.laid_errors_errorType)] W := h
  obtain ⟨ps, ⟨g0, t0, cs0, f0, p0, q0, hg0, ht0, hv0, hd0, _, _⟩, _, _⟩ := h'.1
  obtain rfl := Option.some.inj (gNames.symm.trans hg0)
  obtain rfl := Option.some.inj (tNames.symm.trans ht0)
  obtain ⟨xs, m1, rfl, hx1, hlen, hn, hel⟩ := DataW.trod_array Tryf.underlying58 hd0
  rw [laidNames_eq] at hx1
  simp only [Prod.mk.injEq, DataW.agg.injEq] at hx1
  have hxi := hel i hi
  rw [cellsStr] at hxi
  have hlt : i < xs.length := by omega
  rw [List.getElem?_eq_getElem hlt] at hxi
  obtain ⟨s, e1, e2, _⟩ := DataW.trod_string Tryf.underlying9 hxi
  have hs : s = nameAt i := by
    have h3 : (xs.map (·.1))[i]? = some (.lit (.string s.data.toList)) := by simp [List.getElem?_eq_getElem hlt, e2]
    rw [← hx1.1, List.getElem?_map] at h3
    have h4 : namesL[i]? = some s.data.toList := by
      cases hq : namesL[i]? with
      | none => rw [hq] at h3; simp at h3
      | some l => rw [hq] at h3; simpa using h3
    have h5 : (namesL.getD i []) = s.data.toList := by rw [List.getD_eq_getElem?_getD, h4]; rfl
    unfold nameAt
    rw [h5]
  have hc := World.var?_cell hg0 hv0 i
  rw [hc, ← hs]
  have e3 : cs0.toList[i]? = some (.string s) := by
    have := congrArg (fun l => l[0]?) e1
    simpa [List.getElem?_take, List.getElem?_drop] using this
  simpa using e3
theorem env_of_laid {W : World} (h : laidMetH Tryf.prog laid2 W) : Env W := ⟨names_of_laid h, etype_of_laid h⟩
theorem door_met (os : Os) (args : Array Value) : laidMetH Tryf.prog laid2 ((World.doorLaid Tryf.prog 400 os).forCall (fun _ _ => 0) ⟨#[], args, []⟩).memory :=
  laidMetH_of_parts (laidMet_of_run' 8 (by kernel_rfl) (by kernel_rfl)) (by kernel_rfl)

theorem cellsInt : Tryf.prog.cellsOf 3 = 1 := by kernel_rfl
theorem cellsErrno : Tryf.prog.cellsOf 22 = 1 := by kernel_rfl
theorem cellsLnk : Tryf.prog.cellsOf 32 = 3 := by kernel_rfl
section
variable {H : Type} {enc : TypeId × Value → H} {w : World} {base : Nat} {spare : Nat → Bool} {held : Bool}
set_option maxRecDepth 100000 in
theorem open_three {fuel : Nat} {cs : List Value} {x : DataW H × List MemPlace} (h : DataW.trod enc Tryf.prog w base spare held fuel 32 cs = some x) :
    ∃ f : Lnk, cs = lcells f ∧ Wf f.kind ∧ Wf f.code ∧ x = (.agg [.lit (.int .i64 f.kind), .lit (.string f.op.data.toList), .lit (.int .i64 f.code)], []) := by
  obtain ⟨xs, n, _, hx, hl, hxl, hf⟩ := DataW.trod_struct Tryf.underlying32 h
  rw [cellsLnk] at hl
  match xs, hxl, cs, hl with
  | [y0, y1, y2], _, [v0, v1, v2], _ =>
    have g0 := hf 0 _ rfl
    have g1 := hf 1 _ rfl
    have g2 := hf 2 _ rfl
    simp [cellsStr, cellsInt, cellsErrno] at g0 g1 g2
    obtain ⟨a, e0, d0, w0⟩ := DataW.trod_int Tryf.underlying3 g0
    obtain ⟨b, e1, d1, _⟩ := DataW.trod_string Tryf.underlying9 g1
    obtain ⟨c, e2, d2, w2⟩ := DataW.trod_int Tryf.underlying22 g2
    simp at e0 e1 e2
    subst e0 e1 e2 d0 d1 d2
    exact ⟨⟨a, b, c⟩, rfl, w0, w2, by simpa using hx⟩
end
set_option maxRecDepth 100000 in
theorem weights_three {H : Type} (f : Lnk) : DataW.weights (H := H) Tryf.prog 32 (.agg [.lit (.int .i64 f.kind), .lit (.string f.op.data.toList), .lit (.int .i64 f.code)]) = [f.op.size] := by
  simp [DataW.weights, Tryf.underlying32, DataW.weightsEach]
set_option maxRecDepth 100000 in
theorem open_Links {H : Type} {enc : TypeId × Value → H} {W : World} {a : Option Addr} {len cap : Nat} {d : DataW H} {ps : List MemPlace}
    (h : DataW.Trod enc Tryf.prog W 0 (fun _ => true) true 23 (.slice a len cap) d ps) (hw : ∀ n ∈ d.weights Tryf.prog 23, n ≤ 140737488355328) : ∃ l : List Lnk, len = l.length ∧ Lks W a l := by
  obtain ⟨fuel, hf⟩ := h
  rcases Deep.open_slice Tryf.underlying23 hf with ⟨hcs, _⟩ | ⟨a', len', cap', m, n, D, Pl, hcs, _, hl, hm, hz, hx, hel⟩
  · simp [Value.cells] at hcs
    obtain ⟨rfl, rfl, rfl⟩ := hcs
    exact ⟨[], rfl, .inl rfl, by simp, by simp⟩
  · simp [Value.cells] at hcs
    obtain ⟨rfl, rfl, rfl⟩ := hcs
    simp only [if_true] at hz
    subst hz
    simp only [Prod.mk.injEq] at hx
    have each : ∀ i, i < len → ∃ f : Lnk, (∀ j v, (lcells f)[j]? = some v → W.cell? (a'.add (i * 3 + j)) = some v) ∧ (Wf f.kind ∧ Wf f.code) ∧ D i = .agg [.lit (.int .i64 f.kind), .lit (.string f.op.data.toList), .lit (.int .i64 f.code)] := by
      intro i hi
      obtain ⟨cs', h1, h2⟩ := hel i (by omega)
      rw [cellsLnk] at h1
      obtain ⟨_, _, hcell⟩ := World.cells?_some h1
      obtain ⟨f, rfl, w1, w2, hd⟩ := open_three h2
      simp only [Prod.mk.injEq] at hd
      refine ⟨f, fun j v hj => ?_, ⟨w1, w2⟩, hd.1⟩
      have hj4 : j < 3 := (List.getElem?_eq_some_iff.1 hj).1
      have e := hcell j hj4
      rw [Deep.add_add] at e
      rw [e]
      simpa using hj
    obtain ⟨q, hq⟩ := Deep.choose_lt each
    refine ⟨(List.range len).map q, by simp, ?_, ?_, ?_⟩
    · by_cases h0 : len = 0
      · left; subst h0; rfl
      · right
        have hc0 := (hq 0 (by omega)).1 0 _ rfl
        obtain ⟨b, off, rfl, hb⟩ := addr_of_cell hc0 (by rw [show 0 * 3 + 0 = 0 by omega] at hc0; rw [hc0]; simp)
        refine ⟨b, off, rfl, hb, fun i f hi j v hj => ?_⟩
        have hil : i < len := by
          have := (List.getElem?_eq_some_iff.1 hi).1
          simpa using this
        have hf2 : q i = f := by simpa [hil] using hi
        have e := (hq i hil).1 j v (by rw [hf2]; exact hj)
        rw [Addr.add_mid] at e
        exact e
    · have hb : Tryf.prog.bytesOf 32 = 32 := by kernel_rfl
      have h2 := hw ((len + (m - len)) * 32) (by rw [hx.1]; simp [DataW.weights, Tryf.underlying23, hb])
      simp
      omega
    · intro f hf2
      obtain ⟨i, hi, rfl⟩ := List.mem_map.1 hf2
      have hil := List.mem_range.1 hi
      obtain ⟨_, ⟨w1, w2⟩, hd⟩ := hq i hil
      refine ⟨w1, w2, ?_⟩
      apply hw
      rw [hx.1]
      simp only [DataW.weights, Tryf.underlying23]
      refine List.mem_cons_of_mem _ (List.mem_append.2 (.inl ?_))
      refine weights_all_mem (d := D i) (List.mem_map.2 ⟨i, hi, rfl⟩) _ ?_
      rw [hd, weights_three]
      simp
end Go.Proofs.YthgcbgdafoiacaaFmt
