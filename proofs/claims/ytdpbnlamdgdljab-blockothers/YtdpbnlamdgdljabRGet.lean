/-
  Package frame: Get.
-/
import Derived.Test.YtdpbnlamdgdljabRPut
namespace Go.Proofs.Ytdpbnlamdgdljab
open Go.RowKit
attribute [local irreducible] numL byteAt endOf idOf nums str

end Go.Proofs.Ytdpbnlamdgdljab
