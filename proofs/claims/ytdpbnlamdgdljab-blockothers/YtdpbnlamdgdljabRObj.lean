/-
  A frame's box.
-/
import Derived.Test.YtdpbnlamdgdljabRSpec
namespace Go.Proofs.Ytdpbnlamdgdljab
open Go.RowKit

abbrev frobj (k fl id : Int) (b : ByteArray) : Obj := .cells #[.int .i64 k, .int .i64 fl, .int .i64 id, .string b] 23
end Go.Proofs.Ytdpbnlamdgdljab
