/-
  A frame's box.
-/
import Derived.Test.YtendndokgpppiaaRSpec
namespace Go.Proofs.Ytendndokgpppiaa
open Go.RowKit

abbrev frobj (k fl id : Int) (b : ByteArray) : Obj := .cells #[.int .i64 k, .int .i64 fl, .int .i64 id, .string b] 82
end Go.Proofs.Ytendndokgpppiaa
