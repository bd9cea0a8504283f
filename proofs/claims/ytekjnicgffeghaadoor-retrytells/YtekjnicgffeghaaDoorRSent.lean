/-
  What the rows' lists of variables give the walks: the two errors of package retry.
-/
import Derived.Test.YtekjnicgffeghaaDoorRCode
import Derived.ChangeSame
import Derived.ChangeVars
import Derived.JoinedOf
import Derived.LaidLaws
import Derived.Stop.ErrReads
namespace Go.Proofs.YtekjnicgffeghaaDoor
open Go.ChangeShapes Go.WideShapes Go.ChangeAt Go.RowKit

def laidS : List (String × DataW Unit) := [("bywash/retry.errFinal", Rows.laid_bywash_retry_errFinal), ("bywash/retry.errTwice", Rows.laid_bywash_retry_errTwice)]
theorem gFin : Tryd.prog.globalNamed "bywash/retry.errFinal" = some 0 := by kernel_rfl
theorem gTwi : Tryd.prog.globalNamed "bywash/retry.errTwice" = some 3 := by kernel_rfl
theorem tFin : (Tryd.prog.globals[0]?).map (·.type) = some 27 := by kernel_rfl
theorem tTwi : (Tryd.prog.globals[3]?).map (·.type) = some 27 := by kernel_rfl
theorem cellsEs : Tryd.prog.cellsOf 69 = 1 := by kernel_rfl
theorem starEs : "*" ++ "errors.errorString" = "*errors.errorString" := by decide
theorem rowEs (u : TypeId) (h : Tryd.prog.typeName? 3 u = some "*errors.errorString") : u = 67 :=
  typeName_ptr_named (nm := "errors.errorString") (by rw [starEs]; kernel_rfl) (by kernel_rfl) (by decide) u (by rw [starEs]; exact h)
set_option maxRecDepth 100000 in
theorem sent_of_laid {W : World} (h : laidMet Tryd.prog laidS W) : EnvS W := by
  obtain ⟨ps, ⟨g0, t0, cs0, f0, p0, q0, hg0, ht0, hv0, hd0, ⟨g1, t1, cs1, f1, p1, q1, hg1, ht1, hv1, hd1, hq1, e1⟩, e0⟩, hnd, hrows⟩ := h
  obtain rfl := Option.some.inj (gFin.symm.trans hg0)
  obtain rfl := Option.some.inj (gTwi.symm.trans hg1)
  obtain rfl := Option.some.inj (tFin.symm.trans ht0)
  obtain rfl := Option.some.inj (tTwi.symm.trans ht1)
  have hq1' : q1 = [] := hq1
  subst hq1'
  subst e1
  subst e0
  obtain ⟨l0⟩ := cs0
  obtain ⟨l1⟩ := cs1
  have ok0 : ∀ u v, l0 = [.iface u v] → Value.okWide Tryd.prog W .any 0 u v := fun u v e => by
    subst e
    exact (hrows 0 0 (by simp [MemPlace.row])).2 u v (by simpa using World.var?_cell hg0 hv0 0)
  have ok1 : ∀ u v, l1 = [.iface u v] → Value.okWide Tryd.prog W .any 0 u v := fun u v e => by
    subst e
    exact (hrows 3 0 (by simp [MemPlace.row])).2 u v (by simpa using World.var?_cell hg1 hv1 0)
  obtain ⟨a0, s0, rfl, hc0, hs0, hz0, rfl⟩ := errorString_of_trod Tryd.underlying27 rowEs Tryd.underlying67 Tryd.underlying69 rfl rfl Tryd.underlying9 cellsEs cellsStr hd0 ok0
  obtain ⟨a1, s1, rfl, hc1, hs1, hz1, rfl⟩ := errorString_of_trod Tryd.underlying27 rowEs Tryd.underlying67 Tryd.underlying69 rfl rfl Tryd.underlying9 cellsEs cellsStr hd1 ok1
  refine ⟨a0, a1, by simpa using World.var?_cell hg0 hv0 0, by simpa using World.var?_cell hg1 hv1 0, ?_, (hrows a0.block a0.off (by simp [MemPlace.row])).1, (hrows a1.block a1.off (by simp [MemPlace.row])).1⟩
  rintro rfl
  simp [MemPlace.row] at hnd
end Go.Proofs.YtekjnicgffeghaaDoor
