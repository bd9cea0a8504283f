/-
  A list that a call has made, as a thing.
-/
import Derived.Test.YtdpbnlamdgdljaaGThing
import Derived.Test.YtdpbnlamdgdljaaDSpec
namespace Go.Proofs.Ytdpbnlamdgdljaa
open Go.RowKit

/-- A list that a call has made. -/
def rowT (v : Value) (l : List Frm) : Thing := ⟨fun k => v.ownBlock = some k, fun w => w.ownsRow 0 39 4 v l.length (qcells l)⟩
theorem rowT_ok (v : Value) (l : List Frm) : (rowT v l).Ok := ⟨fun h hk hS => hk.row h hS, fun h k e => (World.ownsRow.lt h k e).2⟩
theorem row_zero {w : World} {B : Nat} {v : Value} {l : List Frm} (h : w.ownsRow B 39 4 v l.length (qcells l)) : w.ownsRow 0 39 4 v l.length (qcells l) := by
  refine ⟨h.1, ?_⟩
  rcases h.2 with e | ⟨rb, cc, cur, e1, e2, e3, e4⟩
  · exact .inl e
  · exact .inr ⟨rb, cc, cur, e1, Nat.zero_le _, e3, e4⟩

theorem row_low {w : World} {B : Nat} {e : TypeId} {size n : Nat} {v : Value} {xs : List Value} (h : w.ownsRow B e size v n xs) : w.ownsRow 0 e size v n xs := by
  refine ⟨h.1, ?_⟩
  rcases h.2 with e | ⟨rb, cc, cur, e1, e2, e3, e4⟩
  · exact .inl e
  · exact .inr ⟨rb, cc, cur, e1, Nat.zero_le _, e3, e4⟩
end Go.Proofs.Ytdpbnlamdgdljaa
