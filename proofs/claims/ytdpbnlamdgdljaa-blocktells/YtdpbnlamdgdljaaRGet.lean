/-
  Package frame: Get.
-/
import Derived.Test.YtdpbnlamdgdljaaRPut
namespace Go.Proofs.Ytdpbnlamdgdljaa
open Go.RowKit
attribute [local irreducible] numL byteAt endOf idOf nums str

end Go.Proofs.Ytdpbnlamdgdljaa
