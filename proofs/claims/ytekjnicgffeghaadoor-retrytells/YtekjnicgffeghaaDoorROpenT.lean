/-
  What RetryTells' list of variables gives: the names of the codes, the handle of type error, the two errors of package retry.
-/
import Derived.Test.YtekjnicgffeghaaDoorRSent
import Derived.LaidMore
import Derived.LaidHandle
import Derived.Stop.LaidErr
import Derived.Stop.Joined
namespace Go.Proofs.YtekjnicgffeghaaDoor
open Go.ChangeShapes Go.WideShapes Go.ChangeAt Go.RowKit

def laid1 : List (String × DataW Unit) := [("errors.errorType", Rows.laid_errors_errorType), ("bywash/fail.names", Rows.laid_bywash_fail_names), ("bywash/retry.errFinal", Rows.laid_bywash_retry_errFinal), ("bywash/retry.errTwice", Rows.laid_bywash_retry_errTwice)]
abbrev laidD : List (String × DataW Unit) := ("bywash/fail.names", Rows.laid_bywash_fail_names) :: laidS
theorem gNames : Tryd.prog.globalNamed "bywash/fail.names" = some 1 := by kernel_rfl
theorem tNames : (Tryd.prog.globals[1]?).map (·.type) = some 50 := by kernel_rfl
theorem gEtype : Tryd.prog.globalNamed "errors.errorType" = some 2 := by kernel_rfl
theorem rt : (Tryd.prog.cutTypes.find? (·.1 == "internal/reflectlite.rtype")).map (·.2) = some 71 := by kernel_rfl
theorem oneRow : ((List.range 124).filter fun t => Tryd.prog.rowNamed t [101, 114, 114, 111, 114]) = [27] := by kernel_rfl
theorem tsize : Tryd.prog.types.size = 124 := by kernel_rfl
theorem parts_of_laid {W : World} (h : laidMetH Tryd.prog laid1 W) : laidMet Tryd.prog laidD W ∧ handlesMet Tryd.prog [("errors.errorType", Rows.laid_errors_errorType)] W := h
theorem etype_of_laid {W : World} (h : laidMetH Tryd.prog laid1 W) : W.cell? ⟨2, 0, none⟩ = some (.iface 71 (.agg #[.pointer (some ⟨4, 27, none⟩)])) := by
  obtain ⟨name, u, ty, e1, e2, e3, e4, e5⟩ := (parts_of_laid h).2 _ (List.mem_singleton.2 rfl)
  have en : name = [101, 114, 114, 111, 114] := (Option.some.inj e1).symm
  subst en
  obtain rfl := Option.some.inj (rt.symm.trans e2)
  have hm : ty ∈ (List.range 124).filter fun t => Tryd.prog.rowNamed t [101, 114, 114, 111, 114] := List.mem_filter.2 ⟨List.mem_range.2 (by rw [← tsize]; exact e3), e4⟩
  rw [oneRow] at hm
  obtain rfl := List.mem_singleton.1 hm
  have hh : typeHandle Tryd.prog 27 = .pointer (some ⟨4, 27, none⟩) := by kernel_rfl
  rw [hh] at e5
  simpa using World.var?_cell gEtype e5 0
theorem laidNames_eq : (Rows.laid_bywash_fail_names : DataW Unit) = .agg (namesL.map fun l => .lit (.string l)) := rfl
theorem names_of_laid {W : World} (h : laidMetH Tryd.prog laid1 W) (i : Nat) (hi : i < 24) : W.cell? ⟨1, i, none⟩ = some (.string (nameAt i)) := by
  obtain ⟨ps, ⟨g0, t0, cs0, f0, p0, q0, hg0, ht0, hv0, hd0, _, _⟩, _, _⟩ := (parts_of_laid h).1
  obtain rfl := Option.some.inj (gNames.symm.trans hg0)
  obtain rfl := Option.some.inj (tNames.symm.trans ht0)
  obtain ⟨xs, m1, rfl, hx1, hlen, hn, hel⟩ := DataW.trod_array Tryd.underlying50 hd0
  rw [laidNames_eq] at hx1
  simp only [Prod.mk.injEq, DataW.agg.injEq] at hx1
  have hxi := hel i hi
  rw [cellsStr] at hxi
  have hlt : i < xs.length := by omega
  rw [List.getElem?_eq_getElem hlt] at hxi
  obtain ⟨s, e1, e2, _⟩ := DataW.trod_string Tryd.underlying9 hxi
  have hs : s = nameAt i := by
    have h3 : (xs.map (·.1))[i]? = some (.lit (.string s.data.toList)) := by simp [List.getElem?_eq_getElem hlt, e2]
    rw [← hx1.1, List.getElem?_map] at h3
    have h4 : namesL[i]? = some s.data.toList := by
      cases hq : namesL[i]? with
      | none => rw [hq] at h3; simp at h3
      | some l => rw [hq] at h3; simpa using h3
    have h5 : (namesL.getD i []) = s.data.toList := by rw [List.getD_eq_getElem?_getD, h4]; rfl
    unfold nameAt
    rw [h5]
  have hc := World.var?_cell hg0 hv0 i
  rw [hc, ← hs]
  have e3 : cs0.toList[i]? = some (.string s) := by
    have := congrArg (fun l => l[0]?) e1
    simpa [List.getElem?_take, List.getElem?_drop] using this
  simpa using e3
theorem env_of_laid {W : World} (h : laidMetH Tryd.prog laid1 W) : Env W ∧ EnvS W := ⟨⟨names_of_laid h, etype_of_laid h⟩, sent_of_laid (laidMet.tail (parts_of_laid h).1)⟩
/-- The door's own heap meets the rows' list. -/
theorem door_met (os : Os) (args : Array Value) : laidMetH Tryd.prog laid1 ((World.doorLaid Tryd.prog 400 os).forCall (fun _ _ => 0) ⟨#[], args, []⟩).memory :=
  laidMetH_of_parts (laidMet_of_run' 8 (by kernel_rfl) (by kernel_rfl)) (by kernel_rfl)
end Go.Proofs.YtekjnicgffeghaaDoor
