/-
  What the memory holds: the table of names, the handle of type error; an error.
-/
import Derived.Test.YtekjnicgffeghaaDoorESpec
import Derived.Defers
import Derived.Recover
import Derived.BigQuiet
import Derived.Deep.QuietTactic
import Derived.LaidEql
import Derived.Stop.Asserts
import Derived.RowKitTokens
import Derived.WalkSmall
namespace Go.Proofs.YtekjnicgffeghaaDoor
open Go.RowKit Go.Extern.Stop Go.Stop Go.Extern

/-- The two package-level variables, as the program's start lays them. -/
structure Env (w : World) : Prop where
  names : ∀ i, i < 24 → w.cell? ⟨1, i, none⟩ = some (.string (nameAt i))
  etype : w.cell? ⟨2, 0, none⟩ = some (.iface 71 (.agg #[.pointer (some ⟨4, 27, none⟩)]))
theorem lt_of_cell {w : World} {a : Addr} {v : Value} (h : w.cell? a = some v) : a.block < w.heap.size := World.block_lt_of_cell? w a h
theorem lt_of_heap {w : World} {b : Nat} {o : Obj} (h : w.heap[b]? = some o) : b < w.heap.size := (Array.getElem?_eq_some_iff.1 h).1
theorem Env.quiet {w w' : World} (h : Env w) (hk : Keeps nobody w w') : Env w' :=
  ⟨fun i hi => (hk.cell (p := ⟨1, i, none⟩) (lt_of_cell (h.names i hi)) id).trans (h.names i hi), (hk.cell (p := ⟨2, 0, none⟩) (lt_of_cell h.etype) id).trans h.etype⟩

abbrev flObj (op : ByteArray) (c : Int) (v : Value) : Obj := .cells #[.string op, .int .i64 c, v] 37 (0, 0)
abbrev plObj (m : ByteArray) : Obj := .cells #[.string m] 69 (0, 0)
abbrev flV (b : Nat) : Value := .iface 30 (.pointer (some ⟨b, 0, none⟩))
abbrev plV (b : Nat) : Value := .iface 67 (.pointer (some ⟨b, 0, none⟩))
/-- An error value in memory. -/
inductive Err (w : World) : Value → Er → Prop
  | nil : Err w .nilIface .nil
  | pl {b : Nat} {m : ByteArray} : w.heap[b]? = some (plObj m) → Err w (plV b) (.pl m)
  | fl {b : Nat} {op : ByteArray} {c : Int} {v : Value} {e : Er} : w.heap[b]? = some (flObj op c v) → Err w v e → Err w (flV b) (.fl op c e)
/-- An error value's shape. -/
def Errish (v : Value) : Prop := v = .nilIface ∨ ∃ t x, v = .iface t x
theorem Err.errish {w : World} {v : Value} {e : Er} (h : Err w v e) : Errish v := by
  cases h with
  | nil => exact .inl rfl
  | _ => exact .inr ⟨_, _, rfl⟩
theorem Err.some {w : World} {v : Value} {e : Er} (h : Err w v e) (hn : e.isNil = false) : ∃ t x, v = .iface t x := by
  cases h with
  | nil => simp [Er.isNil] at hn
  | _ => exact ⟨_, _, rfl⟩
/-- The blocks of an error were all there below a bound. -/
theorem Err.kept {w w' : World} (hk : ∀ (k : Nat) (o : Obj), w.heap[k]? = Option.some o → w'.heap[k]? = Option.some o) {v : Value} {e : Er} (h : Err w v e) : Err w' v e := by
  induction h with
  | nil => exact .nil
  | pl h1 => exact .pl (hk _ _ h1)
  | fl h1 _ ih => exact .fl (hk _ _ h1) ih
theorem Err.quiet {w w' : World} {v : Value} {e : Er} (h : Err w v e) (hk : Keeps nobody w w') : Err w' v e := h.kept fun k _ e => (hk.block k (lt_of_heap e) id).trans e
/-- An error that was there in w0 is there still, where nothing has turned but blocks that were not there then. -/
theorem Err.grown {S : Nat → Prop} {w0 w : World} {v : Value} {e : Er} (h : Err w0 v e) (hk : Keeps S w0 w) (hS : ∀ k, k < w0.heap.size → ¬ S k) : Err w v e := h.kept fun k _ e => (hk.block k (lt_of_heap e) (hS k (lt_of_heap e))).trans e
theorem cells_of {w : World} {b : Nat} {vs : Array Value} {t : TypeId} (h : w.heap[b]? = some (.cells vs t (0, 0))) (i : Nat) (v : Value) (hv : vs[i]? = some v) : w.cell? ⟨b, i, none⟩ = some v := by
  simp [World.cell?, h, hv]
theorem thaw {w : World} {b : Nat} {vs : Array Value} {t : TypeId} (h : w.heap[b]? = some (.cells vs t (0, 0))) (i : Nat) : w.frozen? ⟨b, i, none⟩ = false := by
  simp [World.frozen?, h]

/-- Which methods the four kinds of error have. -/
theorem fl_assert (v : Value) (w : World) : (Instr.typeAssert (.iface 30 v) 27 30 true).run Tryd.prog w = .ok (.tuple #[v, .bool true]) w := by kernel_rfl
theorem nil_assert (w : World) : (Instr.typeAssert .nilIface 27 30 true).run Tryd.prog w = .ok (.tuple #[.pointer none, .bool false]) w := by kernel_rfl
theorem pl_assert (v : Value) (w : World) : (Instr.typeAssert (.iface 67 v) 27 30 true).run Tryd.prog w = .ok (.tuple #[.pointer none, .bool false]) w := by kernel_rfl
theorem fl_As (v : Value) (w : World) : (Instr.typeAssert (.iface 30 v) 27 75 true).run Tryd.prog w = .ok (.tuple #[.nilIface, .bool false]) w := run_typeAssert_lacksB Tryd.underlying75 (by kernel_rfl) (by kernel_rfl) v 27 w
theorem fl_Is (v : Value) (w : World) : (Instr.typeAssert (.iface 30 v) 27 83 true).run Tryd.prog w = .ok (.tuple #[.iface 30 v, .bool true]) w := run_typeAssert_hasB Tryd.underlying83 (by kernel_rfl) v 27 w
theorem fl_U1 (v : Value) (w : World) : (Instr.typeAssert (.iface 30 v) 27 78 true).run Tryd.prog w = .ok (.tuple #[.iface 30 v, .bool true]) w := run_typeAssert_hasB Tryd.underlying78 (by kernel_rfl) v 27 w
theorem fl_U2 (v : Value) (w : World) : (Instr.typeAssert (.iface 30 v) 27 80 true).run Tryd.prog w = .ok (.tuple #[.nilIface, .bool false]) w := run_typeAssert_lacksB Tryd.underlying80 (by kernel_rfl) (by kernel_rfl) v 27 w
theorem pl_As (v : Value) (w : World) : (Instr.typeAssert (.iface 67 v) 27 75 true).run Tryd.prog w = .ok (.tuple #[.nilIface, .bool false]) w := run_typeAssert_lacksB Tryd.underlying75 (by kernel_rfl) (by kernel_rfl) v 27 w
theorem pl_Is (v : Value) (w : World) : (Instr.typeAssert (.iface 67 v) 27 83 true).run Tryd.prog w = .ok (.tuple #[.nilIface, .bool false]) w := run_typeAssert_lacksB Tryd.underlying83 (by kernel_rfl) (by kernel_rfl) v 27 w
theorem pl_U1 (v : Value) (w : World) : (Instr.typeAssert (.iface 67 v) 27 78 true).run Tryd.prog w = .ok (.tuple #[.nilIface, .bool false]) w := run_typeAssert_lacksB Tryd.underlying78 (by kernel_rfl) (by kernel_rfl) v 27 w
theorem pl_U2 (v : Value) (w : World) : (Instr.typeAssert (.iface 67 v) 27 80 true).run Tryd.prog w = .ok (.tuple #[.nilIface, .bool false]) w := run_typeAssert_lacksB Tryd.underlying80 (by kernel_rfl) (by kernel_rfl) v 27 w
theorem fl_mError (a : Addr) (w : World) : (Go.method 224 30 (.pointer (some a)) "Error").run Tryd.prog w = .ok (56, .pointer (some a)) w := by kernel_rfl
theorem fl_mIs (a : Addr) (w : World) : (Go.method 224 30 (.pointer (some a)) "Is").run Tryd.prog w = .ok (57, .pointer (some a)) w := by kernel_rfl
theorem fl_mUnwrap (a : Addr) (w : World) : (Go.method 224 30 (.pointer (some a)) "Unwrap").run Tryd.prog w = .ok (58, .pointer (some a)) w := by kernel_rfl
theorem pl_mError (a : Addr) (w : World) : (Go.method 224 67 (.pointer (some a)) "Error").run Tryd.prog w = .ok (68, .pointer (some a)) w := by kernel_rfl
end Go.Proofs.YtekjnicgffeghaaDoor
