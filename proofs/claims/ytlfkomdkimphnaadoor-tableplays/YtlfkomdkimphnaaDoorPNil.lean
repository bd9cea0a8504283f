/-
  The law TablePlays: too many things, a size that may not be.
-/
import Derived.Test.YtlfkomdkimphnaaDoorPMem
import Derived.Test.YtlfkomdkimphnaaDoorPOpen
namespace Go.Proofs.YtlfkomdkimphnaaDoor
open Go.RowKit

set_option maxRecDepth 100000 in
set_option maxHeartbeats 4000000 in
theorem plays_many (size : Int) (a : Option Addr) (cap n : Nat) (w : World) (hE : Env w) (hn : 80 < n) (hlen : n ≤ 140737488355328) : Calls Tryd.prog 3 #[.int .i64 size, .slice a n cap] w (Fine w) := by
  have hA : Hid (Calls Tryd.prog 9 #[] w fun e w' => e = .returned (.bool true) ∧ Below w.heap.size w w') := alive_true w hE
  clear hE
  go_enter Tryd.func3, Tryd.ntmps3
  go_wp2_with fail
  refine Calls.mono hA.out ?_
  rintro e w1 ⟨rfl, hB1⟩
  go_wp2
  go_ret
  exact ⟨rfl, hB1⟩

set_option maxRecDepth 100000 in
set_option maxHeartbeats 4000000 in
theorem plays_none (size : Int) (a : Option Addr) (cap n : Nat) (w : World) (hE : Env w) (hn : n ≤ 80) (hs : ¬ (0 ≤ size ∧ size ≤ 512)) : Calls Tryd.prog 3 #[.int .i64 size, .slice a n cap] w (Fine w) := by
  have hA : Hid (Calls Tryd.prog 9 #[] w fun e w' => e = .returned (.bool true) ∧ Below w.heap.size w w') := alive_true w hE
  have HE := hid hE
  have hN : Hid (∀ w, Calls Tryd.prog 10 #[.int .i64 size] w fun e w' => e = .returned (.pointer none) ∧ w = w') := fun w => new_no size w hs
  have hAt : Hid (∀ W, Env W → Calls Tryd.prog 12 #[.pointer none, .int .i64 2] W fun e w' => e = .returned (.tuple #[.agg #[.string ⟨#[58, 109, 101, 116, 104, 111, 100]⟩, .string ⟨#[71, 69, 84]⟩], .bool true]) ∧ Keeps nobody W w') := fun W h => at_fixed none 1 _ W h (by omega) rfl
  have hNo : Hid (∀ W, Calls Tryd.prog 12 #[.pointer none, .int .i64 17] W fun e w' => e = .returned (.tuple #[.agg #[.string ⟨#[]⟩, .string ⟨#[]⟩], .bool false]) ∧ Keeps nobody W w') := fun W => at_none 17 W (by omega) (by omega)
  have hor : size < 0 ∨ 0 ≤ size ∧ 512 < size := by omega
  clear hE hs
  rcases hor with h1 | ⟨h0, h1⟩
  all_goals
    go_enter Tryd.func3, Tryd.ntmps3
    go_wp2_with fail
    refine Calls.mono hA.out ?_
    rintro e w1 ⟨rfl, hB1⟩
    go_wp2_with fail
    refine Calls.mono (hN.out _) ?_
    rintro e _ ⟨rfl, rfl⟩
    go_wp2_with fail
    refine Calls.mono (add_nil (⟨#[]⟩, ⟨#[]⟩) _) ?_
    rintro e w2 ⟨rfl, k2⟩
    go_wp2_with fail
    refine Calls.mono (hNo.out _) ?_
    rintro e w3 ⟨rfl, k3⟩
    have HB1 := hid hB1
    have E1 := HE.out.below hB1 HE.out.1
    have K3 := k2.then k3
    have EE : Hid (∀ W, Keeps nobody w3 W → Env W) := fun W hW => E1.keeps (S := nobody) (K3.then hW) id
    have KK := hid K3
    clear E1 K3 k2 k3 hB1
    go_wp2_with fail
    refine Calls.mono (hAt.out _ (EE.out _ (keeps_alloc w3 _))) ?_
    rintro e w4 ⟨rfl, k4⟩
    have K4 := hid ((KK.out.then (keeps_alloc w3 _)).then k4)
    clear EE KK k4
    go_wp2_with fail
    refine Calls.mono (resize_nil 5 _) ?_
    rintro e _ ⟨rfl, rfl⟩
    go_wp2_with fail
    refine Calls.mono (size_nil _) ?_
    rintro e _ ⟨rfl, rfl⟩
    go_wp2_with fail
    refine Calls.mono (used_nil _) ?_
    rintro e _ ⟨rfl, rfl⟩
    go_wp2_with fail
    refine Calls.mono (all_nil _) ?_
    rintro e _ ⟨rfl, rfl⟩
    go_wp2
    go_ret
    refine ⟨rfl, ?_⟩
    exact (K4.out.then (keeps_alloc w4 _)).below HB1.out (fun _ e => e.elim) HB1.out.size
end Go.Proofs.YtlfkomdkimphnaaDoor
