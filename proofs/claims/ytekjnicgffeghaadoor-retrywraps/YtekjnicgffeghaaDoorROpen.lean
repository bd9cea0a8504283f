/-
  What the rows' list of variables gives: the two errors of package retry.
-/
import Derived.Test.YtekjnicgffeghaaDoorRSent
namespace Go.Proofs.YtekjnicgffeghaaDoor
open Go.ChangeShapes Go.WideShapes Go.ChangeAt Go.RowKit

abbrev laid1 : List (String × DataW Unit) := laidS
theorem env_of_laid {W : World} (h : laidMetH Tryd.prog laid1 W) : EnvS W := sent_of_laid h
/-- The door's own heap meets the rows' list. -/
theorem door_met (os : Os) (args : Array Value) : laidMetH Tryd.prog laid1 ((World.doorLaid Tryd.prog 400 os).forCall (fun _ _ => 0) ⟨#[], args, []⟩).memory :=
  laidMet_of_run' 8 (by kernel_rfl) (by kernel_rfl)
end Go.Proofs.YtekjnicgffeghaaDoor
