/-
  Package frame: Put, Strip.
-/
import Derived.Test.YtdpbnlamdgdljaaRRight
import Derived.BigQuiet
namespace Go.Proofs.Ytdpbnlamdgdljaa
open Go.RowKit
attribute [local irreducible] numL byteAt endOf idOf nums str

theorem Keeps.drewN {S : Nat → Prop} {a b : World} (h : Keeps S a b) (n : Nat) : Keeps S a (b.drewN n) := ⟨h.os, h.tape, h.output, h.size, h.block⟩
theorem conv_lit (w : World) (l : List Nat) (hl : l.length ≤ 1000) : (convert 59 9 (.slice (some ⟨w.heap.size, 0, none⟩) l.length l.length)).run Try.prog (w.alloc (.cells (cellsOf l).toArray 5)) = .ok (.string (str l)) (w.alloc (.cells (cellsOf l).toArray 5)) := by
  have hc : (cellsOf l).length = l.length := by simp [cellsOf]
  have h := World.ownsRow_lit (base := w.heap.size) (e := 5) (size := 1) w (cellsOf l).toArray l.length (Nat.le_refl _) (by unfold maxLen; omega) (by simp [hc])
  exact conv_own _ w.heap.size _ _ l _ h rfl

theorem head_cells (n k fl id : Nat) : (cellsOf (headL n k fl id)).toArray = #[.int .u8 ((n / 65536 % 256 : Nat) : Int), .int .u8 ((n / 256 % 256 : Nat) : Int), .int .u8 ((n % 256 : Nat) : Int), .int .u8 ((k % 256 : Nat) : Int), .int .u8 ((fl % 256 : Nat) : Int), .int .u8 ((id / 16777216 % 256 : Nat) : Int), .int .u8 ((id / 65536 % 256 : Nat) : Int), .int .u8 ((id / 256 % 256 : Nat) : Int), .int .u8 ((id % 256 : Nat) : Int)] := rfl

end Go.Proofs.Ytdpbnlamdgdljaa
