/-
  The law TablePlays: whatever size, whatever is done.
-/
import Derived.Test.YtlfkomdkimphnaaDoorPMain
namespace Go.Proofs.YtlfkomdkimphnaaDoor
open Go.RowKit

theorem tablePlays_true (size : Int) (a : Option Addr) (cap : Nat) (l : List Opr) (w : World) (hE : Env w) (hF : Oprs w a l) : Calls Tryd.prog 3 #[.int .i64 size, .slice a l.length cap] w (Fine w) := by
  by_cases hl : 80 < l.length
  · exact plays_many size a cap l.length w hE hl hF.2.1
  · by_cases hs : 0 ≤ size ∧ size ≤ 512
    · obtain ⟨n, rfl⟩ : ∃ n : Nat, size = (n : Int) := ⟨size.toNat, by omega⟩
      exact plays_main n a cap l w hE hF (by omega) (by omega)
    · exact plays_none size a cap l.length w hE (by omega) hs
end Go.Proofs.YtlfkomdkimphnaaDoor
