/-
  What the memory holds: a chain of failures, each above the next; the table of names; the handle of type error. And the contracts of the small functions of package fail: New, Join, Name, Unwrap.
-/
import Derived.Test.YtdlnfojohkoifaaDoorAs
import Derived.Defers
import Derived.Recover
import Derived.BigQuiet
import Derived.Deep.QuietTactic
import Derived.WalkLawsBesides
namespace Go.Proofs.YtdlnfojohkoifaaDoor
open Go.RowKit Go.Extern.Stop Go.Stop Go.Extern

def namesL : List (List UInt8) := [[111, 107], [97, 114, 103], [109, 111, 114, 101], [102, 111, 114, 109], [114, 97, 110, 103, 101], [115, 105, 122, 101], [110, 97, 109, 101], [111, 114, 100, 101, 114], [115, 116, 97, 116, 101], [102, 108, 111, 119], [112, 97, 99, 107], [112, 114, 111, 116, 111], [99, 108, 111, 115, 101, 100], [98, 117, 115, 121], [103, 111, 110, 101], [114, 101, 102, 117, 115, 101, 100], [114, 101, 115, 101, 116], [99, 97, 110, 99, 101, 108], [108, 97, 116, 101], [100, 101, 97, 100], [100, 105, 97, 108], [110, 111, 110, 101], [108, 101, 110, 103, 116, 104], [109, 97, 110, 121]]
def nameAt (i : Nat) : ByteArray := ⟨(namesL.getD i []).toArray⟩
def nameOf (c : Int) : ByteArray := if 0 ≤ c ∧ c < 24 then nameAt c.toNat else ⟨#[101, 114, 114, 111, 114]⟩

/-- The two package-level variables, as the program's start lays them. -/
structure Env (w : World) : Prop where
  names : ∀ i, i < 24 → w.cell? ⟨0, i, none⟩ = some (.string (nameAt i))
  etype : w.cell? ⟨1, 0, none⟩ = some (.iface 80 (.agg #[.pointer (some ⟨2, 26, none⟩)]))

theorem Env.two {w : World} (h : Env w) : 2 ≤ w.heap.size := lt_of_cell h.etype
theorem Env.below {B : Nat} {w w' : World} (h : Env w) (hb : Below B w w') (hB : 2 ≤ B) : Env w' :=
  ⟨fun i hi => (hb.cell (p := ⟨0, i, none⟩) (by show 0 < B; omega)).trans (h.names i hi), (hb.cell (p := ⟨1, 0, none⟩) (by show 1 < B; omega)).trans h.etype⟩
theorem Env.grown {w w' : World} (h : Env w) (hb : Below w.heap.size w w') : Env w' := h.below hb h.two

/-- An error value: nil, or a failure in a block of its own, above an error value: its ops and codes, the outermost first. -/
inductive Chain (w : World) : Value → List (ByteArray × Int) → Prop
  | nil : Chain w .nilIface []
  | cons {b : Nat} {op : ByteArray} {c : Int} {v : Value} {l : List (ByteArray × Int)} : w.heap[b]? = some (.cells #[.string op, .int .i64 c, v] 28 (0, 0)) → Chain w v l → Chain w (.iface 24 (.pointer (some ⟨b, 0, none⟩))) ((op, c) :: l)

theorem lt_of_heap {w : World} {b : Nat} {o : Obj} (h : w.heap[b]? = some o) : b < w.heap.size := by
  rcases Nat.lt_or_ge b w.heap.size with h' | h'
  · exact h'
  · simp [Array.getElem?_eq_none h'] at h

theorem Chain.kept {w w' : World} (hk : ∀ k, k < w.heap.size → w'.heap[k]? = w.heap[k]?) {v : Value} {l : List (ByteArray × Int)} (h : Chain w v l) : Chain w' v l := by
  induction h with
  | nil => exact .nil
  | cons hb _ ih => exact .cons ((hk _ (lt_of_heap hb)).trans hb) ih
theorem Chain.grown {w w' : World} {v : Value} {l : List (ByteArray × Int)} (h : Chain w v l) (hb : Below w.heap.size w w') : Chain w' v l := h.kept hb.block

theorem new_ok (w : World) : Calls Tryd.prog 9 #[.int .i64 0] w fun e w' => e = .returned .nilIface ∧ w' = w := by
  go_enter Tryd.func9, Tryd.ntmps9
  go_wp2
  go_ret
  exact ⟨rfl, rfl⟩
theorem new_some (c : Int) (w : World) (hc : (c == 0) = false) : Calls Tryd.prog 9 #[.int .i64 c] w fun e w' => e = .returned (.iface 24 (.pointer (some ⟨w.heap.size, 0, none⟩))) ∧ w' = w.alloc (.cells #[.string ⟨#[]⟩, .int .i64 c, .nilIface] 28) := by
  go_enter Tryd.func9, Tryd.ntmps9
  go_wp2
  go_ret
  exact ⟨rfl, rfl⟩
/-- An error value's shape. -/
def Errish (v : Value) : Prop := v = .nilIface ∨ ∃ t x, v = .iface t x
theorem Chain.errish {w : World} {v : Value} {l : List (ByteArray × Int)} (h : Chain w v l) : Errish v := by
  cases h with
  | nil => exact .inl rfl
  | cons _ _ => exact .inr ⟨_, _, rfl⟩
theorem join_any (op : ByteArray) (c : Int) (v : Value) (w : World) (hv : Errish v) : Calls Tryd.prog 10 #[.string op, .int .i64 c, v] w fun e w' => e = .returned (.iface 24 (.pointer (some ⟨w.heap.size, 0, none⟩))) ∧ w' = w.alloc (.cells #[.string op, .int .i64 c, v] 28) := by
  rcases hv with rfl | ⟨t, x, rfl⟩
  · go_enter Tryd.func10, Tryd.ntmps10
    go_wp2
    go_ret
    exact ⟨rfl, rfl⟩
  · go_enter Tryd.func10, Tryd.ntmps10
    go_wp2
    go_ret
    exact ⟨rfl, rfl⟩

theorem name_in (c : Int) (w : World) (h : Env w) (h0 : 0 ≤ c) (h1 : c < 24) : Calls Tryd.prog 11 #[.int .i64 c] w fun e w' => e = .returned (.string (nameAt c.toNat)) ∧ w' = w := by
  have hc := h.names c.toNat (by omega)
  go_enter Tryd.func11, Tryd.ntmps11
  go_wp2
  go_ret
  exact ⟨rfl, rfl⟩
theorem name_out (c : Int) (w : World) (h : c < 0 ∨ 24 ≤ c) : Calls Tryd.prog 11 #[.int .i64 c] w fun e w' => e = .returned (.string ⟨#[101, 114, 114, 111, 114]⟩) ∧ w' = w := by
  rcases h with h | h
  · go_enter Tryd.func11, Tryd.ntmps11
    go_wp2
    go_ret
    exact ⟨rfl, rfl⟩
  · have h' : ¬ c < 0 := by omega
    go_enter Tryd.func11, Tryd.ntmps11
    go_wp2
    go_ret
    exact ⟨rfl, rfl⟩
theorem name_any (c : Int) (w : World) (h : Env w) : Calls Tryd.prog 11 #[.int .i64 c] w fun e w' => e = .returned (.string (nameOf c)) ∧ w' = w := by
  by_cases hc : 0 ≤ c ∧ c < 24
  · rw [nameOf, if_pos hc]; exact name_in c w h hc.1 hc.2
  · rw [nameOf, if_neg hc]; exact name_out c w (by omega)

theorem unwrap_any (b : Nat) (op : ByteArray) (c : Int) (v : Value) (w : World) (hb : w.heap[b]? = some (.cells #[.string op, .int .i64 c, v] 28 (0, 0))) : Calls Tryd.prog 14 #[.pointer (some ⟨b, 0, none⟩)] w fun e w' => e = .returned v ∧ w' = w := by
  have c2 : w.cell? ⟨b, 2, none⟩ = some v := by simp [World.cell?, hb]
  go_enter Tryd.func14, Tryd.ntmps14
  go_wp2
  go_ret
  exact ⟨rfl, rfl⟩
theorem unwrap_nil (w : World) : Calls Tryd.prog 14 #[.pointer none] w fun e w' => e = .returned .nilIface ∧ w' = w := by
  go_enter Tryd.func14, Tryd.ntmps14
  go_wp2
  go_ret
  exact ⟨rfl, rfl⟩
end Go.Proofs.YtdlnfojohkoifaaDoor
