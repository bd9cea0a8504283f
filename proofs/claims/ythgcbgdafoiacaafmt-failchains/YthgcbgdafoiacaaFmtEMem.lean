/-
  What the memory holds: the table of names, the handle of type error; an error.
-/
import Derived.Test.YthgcbgdafoiacaaFmtESpec
import Derived.Defers
import Derived.Recover
import Derived.BigQuiet
import Derived.Deep.QuietTactic
import Derived.LaidEql
import Derived.Stop.Asserts
import Derived.RowKitTokens
import Derived.WalkSmall
namespace Go.Proofs.YthgcbgdafoiacaaFmt
open Go.RowKit Go.Extern.Stop Go.Stop Go.Extern

/-- The two package-level variables, as the program's start lays them. -/
structure Env (w : World) : Prop where
  names : ∀ i, i < 24 → w.cell? ⟨0, i, none⟩ = some (.string (nameAt i))
  etype : w.cell? ⟨1, 0, none⟩ = some (.iface 77 (.agg #[.pointer (some ⟨2, 26, none⟩)]))
theorem lt_of_cell {w : World} {a : Addr} {v : Value} (h : w.cell? a = some v) : a.block < w.heap.size := World.block_lt_of_cell? w a h
theorem lt_of_heap {w : World} {b : Nat} {o : Obj} (h : w.heap[b]? = some o) : b < w.heap.size := (Array.getElem?_eq_some_iff.1 h).1
theorem Env.two {w : World} (h : Env w) : 2 ≤ w.heap.size := lt_of_cell h.etype
theorem Env.keeps {S : Nat → Prop} {w w' : World} (h : Env w) (hk : Keeps S w w') (h0 : ¬ S 0) (h1 : ¬ S 1) : Env w' :=
  ⟨fun i hi => (hk.cell (p := ⟨0, i, none⟩) (by have := h.two; show 0 < _; omega) h0).trans (h.names i hi), (hk.cell (p := ⟨1, 0, none⟩) (by have := h.two; show 1 < _; omega) h1).trans h.etype⟩
theorem Env.quiet {w w' : World} (h : Env w) (hk : Keeps nobody w w') : Env w' := h.keeps hk id id

abbrev flObj (op : ByteArray) (c : Int) (v : Value) : Obj := .cells #[.string op, .int .i64 c, v] 45 (0, 0)
abbrev wrObj (m : ByteArray) (v : Value) : Obj := .cells #[.string m, v] 116 (0, 0)
abbrev plObj (m : ByteArray) : Obj := .cells #[.string m] 61 (0, 0)
abbrev jnObj (g n : Nat) : Obj := .cells #[.slice (some ⟨g, 0, none⟩) n n] 52 (0, 0)
abbrev flV (b : Nat) : Value := .iface 43 (.pointer (some ⟨b, 0, none⟩))
abbrev wrV (b : Nat) : Value := .iface 48 (.pointer (some ⟨b, 0, none⟩))
abbrev plV (b : Nat) : Value := .iface 59 (.pointer (some ⟨b, 0, none⟩))
abbrev jnV (b : Nat) : Value := .iface 50 (.pointer (some ⟨b, 0, none⟩))
/-- An error value in memory. -/
inductive Err (w : World) : Value → Er → Prop
  | nil : Err w .nilIface .nil
  | pl {b : Nat} {m : ByteArray} : w.heap[b]? = some (plObj m) → Err w (plV b) (.pl m)
  | fl {b : Nat} {op : ByteArray} {c : Int} {v : Value} {e : Er} : w.heap[b]? = some (flObj op c v) → Err w v e → Err w (flV b) (.fl op c e)
  | wr {b : Nat} {m : ByteArray} {v : Value} {e : Er} : w.heap[b]? = some (wrObj m v) → e.isNil = false → Err w v e → Err w (wrV b) (.wr m e)
  | j1 {b g : Nat} {v : Value} {e : Er} : w.heap[b]? = some (jnObj g 1) → w.heap[g]? = some (.cells #[v] 26 (0, 0)) → e.isNil = false → Err w v e → Err w (jnV b) (.j1 e)
  | j2 {b g k : Nat} {v : Value} {e : Er} {c : Int} : w.heap[b]? = some (jnObj g 2) → w.heap[g]? = some (.cells #[v, flV k] 26 (0, 0)) → w.heap[k]? = some (flObj ⟨#[]⟩ c .nilIface) → e.isNil = false → Err w v e → Err w (jnV b) (.j2 e c)
/-- An error value's shape. -/
def Errish (v : Value) : Prop := v = .nilIface ∨ ∃ t x, v = .iface t x
theorem Err.errish {w : World} {v : Value} {e : Er} (h : Err w v e) : Errish v := by
  cases h with
  | nil => exact .inl rfl
  | _ => exact .inr ⟨_, _, rfl⟩
theorem Err.some {w : World} {v : Value} {e : Er} (h : Err w v e) (hn : e.isNil = false) : ∃ t x, v = .iface t x := by
  cases h with
  | nil => simp [Er.isNil] at hn
  | _ => exact ⟨_, _, rfl⟩
/-- The blocks of an error were all there below a bound. -/
theorem Err.kept {w w' : World} (hk : ∀ (k : Nat) (o : Obj), w.heap[k]? = Option.some o → w'.heap[k]? = Option.some o) {v : Value} {e : Er} (h : Err w v e) : Err w' v e := by
  induction h with
  | nil => exact .nil
  | pl h1 => exact .pl (hk _ _ h1)
  | fl h1 _ ih => exact .fl (hk _ _ h1) ih
  | wr h1 h2 _ ih => exact .wr (hk _ _ h1) h2 ih
  | j1 h1 h2 h3 _ ih => exact .j1 (hk _ _ h1) (hk _ _ h2) h3 ih
  | j2 h1 h2 h3 h4 _ ih => exact .j2 (hk _ _ h1) (hk _ _ h2) (hk _ _ h3) h4 ih
theorem Err.quiet {w w' : World} {v : Value} {e : Er} (h : Err w v e) (hk : Keeps nobody w w') : Err w' v e := h.kept fun k _ e => (hk.block k (lt_of_heap e) id).trans e
/-- An error that was there in w0 is there still, where nothing has turned but blocks that were not there then. -/
theorem Err.grown {S : Nat → Prop} {w0 w : World} {v : Value} {e : Er} (h : Err w0 v e) (hk : Keeps S w0 w) (hS : ∀ k, k < w0.heap.size → ¬ S k) : Err w v e := h.kept fun k _ e => (hk.block k (lt_of_heap e) (hS k (lt_of_heap e))).trans e
theorem cells_of {w : World} {b : Nat} {vs : Array Value} {t : TypeId} (h : w.heap[b]? = some (.cells vs t (0, 0))) (i : Nat) (v : Value) (hv : vs[i]? = some v) : w.cell? ⟨b, i, none⟩ = some v := by
  simp [World.cell?, h, hv]
theorem thaw {w : World} {b : Nat} {vs : Array Value} {t : TypeId} (h : w.heap[b]? = some (.cells vs t (0, 0))) (i : Nat) : w.frozen? ⟨b, i, none⟩ = false := by
  simp [World.frozen?, h]

/-- Which methods the four kinds of error have. -/
theorem fl_assert (v : Value) (w : World) : (Instr.typeAssert (.iface 43 v) 26 43 true).run Tryf.prog w = .ok (.tuple #[v, .bool true]) w := by kernel_rfl
theorem nil_assert (w : World) : (Instr.typeAssert .nilIface 26 43 true).run Tryf.prog w = .ok (.tuple #[.pointer none, .bool false]) w := by kernel_rfl
theorem wr_assert (v : Value) (w : World) : (Instr.typeAssert (.iface 48 v) 26 43 true).run Tryf.prog w = .ok (.tuple #[.pointer none, .bool false]) w := by kernel_rfl
theorem jn_assert (v : Value) (w : World) : (Instr.typeAssert (.iface 50 v) 26 43 true).run Tryf.prog w = .ok (.tuple #[.pointer none, .bool false]) w := by kernel_rfl
theorem pl_assert (v : Value) (w : World) : (Instr.typeAssert (.iface 59 v) 26 43 true).run Tryf.prog w = .ok (.tuple #[.pointer none, .bool false]) w := by kernel_rfl
theorem fl_As (v : Value) (w : World) : (Instr.typeAssert (.iface 43 v) 26 81 true).run Tryf.prog w = .ok (.tuple #[.nilIface, .bool false]) w := run_typeAssert_lacksB Tryf.underlying81 (by kernel_rfl) (by kernel_rfl) v 26 w
theorem fl_Is (v : Value) (w : World) : (Instr.typeAssert (.iface 43 v) 26 88 true).run Tryf.prog w = .ok (.tuple #[.iface 43 v, .bool true]) w := run_typeAssert_hasB Tryf.underlying88 (by kernel_rfl) v 26 w
theorem fl_U1 (v : Value) (w : World) : (Instr.typeAssert (.iface 43 v) 26 84 true).run Tryf.prog w = .ok (.tuple #[.iface 43 v, .bool true]) w := run_typeAssert_hasB Tryf.underlying84 (by kernel_rfl) v 26 w
theorem fl_U2 (v : Value) (w : World) : (Instr.typeAssert (.iface 43 v) 26 86 true).run Tryf.prog w = .ok (.tuple #[.nilIface, .bool false]) w := run_typeAssert_lacksB Tryf.underlying86 (by kernel_rfl) (by kernel_rfl) v 26 w
theorem wr_As (v : Value) (w : World) : (Instr.typeAssert (.iface 48 v) 26 81 true).run Tryf.prog w = .ok (.tuple #[.nilIface, .bool false]) w := run_typeAssert_lacksB Tryf.underlying81 (by kernel_rfl) (by kernel_rfl) v 26 w
theorem wr_Is (v : Value) (w : World) : (Instr.typeAssert (.iface 48 v) 26 88 true).run Tryf.prog w = .ok (.tuple #[.nilIface, .bool false]) w := run_typeAssert_lacksB Tryf.underlying88 (by kernel_rfl) (by kernel_rfl) v 26 w
theorem wr_U1 (v : Value) (w : World) : (Instr.typeAssert (.iface 48 v) 26 84 true).run Tryf.prog w = .ok (.tuple #[.iface 48 v, .bool true]) w := run_typeAssert_hasB Tryf.underlying84 (by kernel_rfl) v 26 w
theorem wr_U2 (v : Value) (w : World) : (Instr.typeAssert (.iface 48 v) 26 86 true).run Tryf.prog w = .ok (.tuple #[.nilIface, .bool false]) w := run_typeAssert_lacksB Tryf.underlying86 (by kernel_rfl) (by kernel_rfl) v 26 w
theorem jn_As (v : Value) (w : World) : (Instr.typeAssert (.iface 50 v) 26 81 true).run Tryf.prog w = .ok (.tuple #[.nilIface, .bool false]) w := run_typeAssert_lacksB Tryf.underlying81 (by kernel_rfl) (by kernel_rfl) v 26 w
theorem jn_Is (v : Value) (w : World) : (Instr.typeAssert (.iface 50 v) 26 88 true).run Tryf.prog w = .ok (.tuple #[.nilIface, .bool false]) w := run_typeAssert_lacksB Tryf.underlying88 (by kernel_rfl) (by kernel_rfl) v 26 w
theorem jn_U1 (v : Value) (w : World) : (Instr.typeAssert (.iface 50 v) 26 84 true).run Tryf.prog w = .ok (.tuple #[.nilIface, .bool false]) w := run_typeAssert_lacksB Tryf.underlying84 (by kernel_rfl) (by kernel_rfl) v 26 w
theorem jn_U2 (v : Value) (w : World) : (Instr.typeAssert (.iface 50 v) 26 86 true).run Tryf.prog w = .ok (.tuple #[.iface 50 v, .bool true]) w := run_typeAssert_hasB Tryf.underlying86 (by kernel_rfl) v 26 w
theorem pl_As (v : Value) (w : World) : (Instr.typeAssert (.iface 59 v) 26 81 true).run Tryf.prog w = .ok (.tuple #[.nilIface, .bool false]) w := run_typeAssert_lacksB Tryf.underlying81 (by kernel_rfl) (by kernel_rfl) v 26 w
theorem pl_Is (v : Value) (w : World) : (Instr.typeAssert (.iface 59 v) 26 88 true).run Tryf.prog w = .ok (.tuple #[.nilIface, .bool false]) w := run_typeAssert_lacksB Tryf.underlying88 (by kernel_rfl) (by kernel_rfl) v 26 w
theorem pl_U1 (v : Value) (w : World) : (Instr.typeAssert (.iface 59 v) 26 84 true).run Tryf.prog w = .ok (.tuple #[.nilIface, .bool false]) w := run_typeAssert_lacksB Tryf.underlying84 (by kernel_rfl) (by kernel_rfl) v 26 w
theorem pl_U2 (v : Value) (w : World) : (Instr.typeAssert (.iface 59 v) 26 86 true).run Tryf.prog w = .ok (.tuple #[.nilIface, .bool false]) w := run_typeAssert_lacksB Tryf.underlying86 (by kernel_rfl) (by kernel_rfl) v 26 w
theorem fl_mError (a : Addr) (w : World) : (Go.method 231 43 (.pointer (some a)) "Error").run Tryf.prog w = .ok (50, .pointer (some a)) w := by kernel_rfl
theorem fl_mIs (a : Addr) (w : World) : (Go.method 231 43 (.pointer (some a)) "Is").run Tryf.prog w = .ok (51, .pointer (some a)) w := by kernel_rfl
theorem fl_mUnwrap (a : Addr) (w : World) : (Go.method 231 43 (.pointer (some a)) "Unwrap").run Tryf.prog w = .ok (52, .pointer (some a)) w := by kernel_rfl
theorem wr_mError (a : Addr) (w : World) : (Go.method 231 48 (.pointer (some a)) "Error").run Tryf.prog w = .ok (59, .pointer (some a)) w := by kernel_rfl
theorem wr_mUnwrap (a : Addr) (w : World) : (Go.method 231 48 (.pointer (some a)) "Unwrap").run Tryf.prog w = .ok (60, .pointer (some a)) w := by kernel_rfl
theorem jn_mError (a : Addr) (w : World) : (Go.method 231 50 (.pointer (some a)) "Error").run Tryf.prog w = .ok (61, .pointer (some a)) w := by kernel_rfl
theorem jn_mUnwrap (a : Addr) (w : World) : (Go.method 231 50 (.pointer (some a)) "Unwrap").run Tryf.prog w = .ok (62, .pointer (some a)) w := by kernel_rfl
theorem pl_mError (a : Addr) (w : World) : (Go.method 231 59 (.pointer (some a)) "Error").run Tryf.prog w = .ok (63, .pointer (some a)) w := by kernel_rfl
end Go.Proofs.YthgcbgdafoiacaaFmt
