/-
  The reference's FramePut, FrameGet.
-/
import Derived.Test.YtdpbnlamdgdljaaRRefB
import Derived.Test.YtdpbnlamdgdljaaRGet
import Derived.Deep.RegionHeld3
namespace Go.Proofs.Ytdpbnlamdgdljaa
open Go.RowKit

theorem str_join (l m : List Nat) : str l ++ str m = str (l ++ m) := by
  apply ByteArray.ext
  simp [str_data]
theorem head_bigs (n k fl id : Nat) : str (bigL 3 n) ++ str (bigL 1 k) ++ str (bigL 1 fl) ++ str (bigL 4 id) = str (headL n k fl id) := by
  rw [str_join, str_join, str_join, bigL_three, bigL_one, bigL_one, bigL_four]
  rfl
theorem wrap_byte (y : Nat) (h : y < 256) : IntKind.i64.wrap (y : Int) = (y : Int) := by
  simp [IntKind.wrap, IntKind.bits, IntKind.signed]
  omega
attribute [local irreducible] partL bigL nums str numL byteAt endOf idOf headL

end Go.Proofs.Ytdpbnlamdgdljaa
