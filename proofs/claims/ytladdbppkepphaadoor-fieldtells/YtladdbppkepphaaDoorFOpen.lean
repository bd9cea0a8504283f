/-
  What the rows' list of variables gives: nothing is asked of it.
-/
import Derived.Test.YtladdbppkepphaaDoorGOpen
import Derived.Test.YtladdbppkepphaaDoorFAlive
namespace Go.Proofs.YtladdbppkepphaaDoor
open Go.ChangeShapes Go.WideShapes Go.ChangeAt Go.RowKit

def laid1 : List (String × DataW Unit) := [("math/bits.deBruijn32tab", Rows.laid_math_bits_deBruijn32tab), ("math/bits.deBruijn64tab", Rows.laid_math_bits_deBruijn64tab), ("internal/strconv.uint64pow10", Rows.laid_internal_strconv_uint64pow10), ("strconv.ErrRange", Rows.laid_strconv_ErrRange), ("strconv.ErrSyntax", Rows.laid_strconv_ErrSyntax)]
def Env (_ : World) : Prop := True
theorem env_of_laid {W : World} (_ : laidMetH Tryd.prog laid1 W) : Env W := trivial
/-- The door's own heap meets the rows' list. -/
theorem door_met (os : Os) (args : Array Value) : laidMetH Tryd.prog laid1 ((World.doorLaid Tryd.prog 400 os).forCall (fun _ _ => 0) ⟨#[], args, []⟩).memory :=
  laidMet_of_run' 8 (by kernel_rfl) (by kernel_rfl)
end Go.Proofs.YtladdbppkepphaaDoor
