/-
  Package frame: Right, unpad.
-/
import Derived.Test.YtkogkkjdcackcaaRCode
namespace Go.Proofs.Ytkogkkjdcackcaa
open Go.RowKit
attribute [local irreducible] numL byteAt endOf idOf nums str

def unpadV (o : Option ByteArray) : Value := .tuple #[.string (o.getD ⟨#[]⟩), .bool o.isSome]
end Go.Proofs.Ytkogkkjdcackcaa
