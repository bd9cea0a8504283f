/-
  (*fail.Failure).Is at a plain target; errors.Is over a chain of failures at a plain target of a code that is not OK; package fail's Has.
-/
import Derived.Test.YtdlnfojohkoifaaDoorCode
import Derived.Deep.LoopGhost
import Derived.WalkSmall
namespace Go.Proofs.YtdlnfojohkoifaaDoor
open Go.RowKit Go.Extern.Stop Go.Stop Go.Extern

theorem assert24 (v : Value) (w : World) : (Instr.typeAssert (.iface 24 v) 26 24 true).run Tryd.prog w = .ok (.tuple #[v, .bool true]) w := by kernel_rfl
set_option maxRecDepth 100000 in
set_option maxHeartbeats 1000000 in
/-- f.Is(target), target a plain failure of the code t. -/
theorem isM_any (b tb : Nat) (op : ByteArray) (c t : Int) (v : Value) (w : World) (hb : w.heap[b]? = some (.cells #[.string op, .int .i64 c, v] 28 (0, 0))) (ht : w.heap[tb]? = some (.cells #[.string ⟨#[]⟩, .int .i64 t, .nilIface] 28 (0, 0))) :
    Calls Tryd.prog 15 #[.pointer (some ⟨b, 0, none⟩), .iface 24 (.pointer (some ⟨tb, 0, none⟩))] w fun e w' => e = .returned (.bool (t == c && c != 0)) ∧ ∃ n, w' = w.drewN n := by
  have c1 : w.cell? ⟨b, 1, none⟩ = some (.int .i64 c) := by simp [World.cell?, hb]
  have t0 : w.cell? ⟨tb, 0, none⟩ = some (.string ⟨#[]⟩) := by simp [World.cell?, ht]
  have t1 : w.cell? ⟨tb, 1, none⟩ = some (.int .i64 t) := by simp [World.cell?, ht]
  have t2 : w.cell? ⟨tb, 2, none⟩ = some .nilIface := by simp [World.cell?, ht]
  have hA := assert24
  cases h1 : (t == c)
  · go_enter Tryd.func15, Tryd.ntmps15
    go_wp2
    go_quiet (fail)
    go_wp2
    go_ret
    exact ⟨by simp, _, rfl⟩
  · cases h2 : (c != 0)
    · go_enter Tryd.func15, Tryd.ntmps15
      go_wp2
      go_quiet (fail)
      go_wp2
      go_ret
      exact ⟨by simp, _, rfl⟩
    · go_enter Tryd.func15, Tryd.ntmps15
      go_wp2
      go_quiet (fail)
      go_wp2
      go_ret
      exact ⟨by simp, _, rfl⟩

theorem hasIs (v : Value) (w : World) : (Instr.typeAssert (.iface 24 v) 26 90 true).run Tryd.prog w = .ok (.tuple #[.iface 24 v, .bool true]) w := run_typeAssert_hasB Tryd.underlying90 (by kernel_rfl) v 26 w
theorem hasUnwrap (v : Value) (w : World) : (Instr.typeAssert (.iface 24 v) 26 76 true).run Tryd.prog w = .ok (.tuple #[.iface 24 v, .bool true]) w := run_typeAssert_hasB Tryd.underlying76 (by kernel_rfl) v 26 w
theorem methodIs (a : Addr) (w : World) : (Go.method 221 24 (.pointer (some a)) "Is").run Tryd.prog w = .ok (15, .pointer (some a)) w := by kernel_rfl
theorem methodUnwrap (a : Addr) (w : World) : (Go.method 221 24 (.pointer (some a)) "Unwrap").run Tryd.prog w = .ok (14, .pointer (some a)) w := by kernel_rfl
theorem comp24 : (Tryd.prog.info? 24).map (·.comparable) = some true := by kernel_rfl
theorem size28 : (Tryd.prog.info? 28).map (·.size) = some 3 := by kernel_rfl

/-- Is a code among those of a chain? -/
def hasT (t : Int) (l : List (ByteArray × Int)) : Bool := l.any fun x => t == x.2

end Go.Proofs.YtdlnfojohkoifaaDoor
