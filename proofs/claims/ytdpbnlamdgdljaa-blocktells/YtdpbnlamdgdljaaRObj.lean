/-
  A frame's box.
-/
import Derived.Test.YtdpbnlamdgdljaaRSpec
namespace Go.Proofs.Ytdpbnlamdgdljaa
open Go.RowKit

abbrev frobj (k fl id : Int) (b : ByteArray) : Obj := .cells #[.int .i64 k, .int .i64 fl, .int .i64 id, .string b] 39
end Go.Proofs.Ytdpbnlamdgdljaa
