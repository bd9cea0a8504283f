/-
  Package frame: Get.
-/
import Derived.Test.YtcbgjdfcndgaaaaRPut
namespace Go.Proofs.Ytcbgjdfcndgaaaa
open Go.RowKit
attribute [local irreducible] numL byteAt endOf idOf nums str

end Go.Proofs.Ytcbgjdfcndgaaaa
