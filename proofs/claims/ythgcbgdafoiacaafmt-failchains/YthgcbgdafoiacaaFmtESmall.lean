/-
  The small functions of package fail, and of the library's errors: New, Join, Name, Unwrap, the texts.
-/
import Derived.Test.YthgcbgdafoiacaaFmtEMem
namespace Go.Proofs.YthgcbgdafoiacaaFmt
open Go.RowKit Go.Extern.Stop Go.Stop Go.Extern

theorem new_ok (w : World) : Calls Tryf.prog 5 #[.int .i64 0] w fun e w' => e = .returned .nilIface ∧ w = w' := by
  go_enter Tryf.func5, Tryf.ntmps5
  go_wp2
  go_ret
  exact ⟨rfl, rfl⟩
theorem new_some (c : Int) (w : World) (hc : (c == 0) = false) : Calls Tryf.prog 5 #[.int .i64 c] w fun e w' => e = .returned (flV w.heap.size) ∧ w' = w.alloc (flObj ⟨#[]⟩ c .nilIface) := by
  go_enter Tryf.func5, Tryf.ntmps5
  go_wp2
  go_ret
  exact ⟨rfl, rfl⟩
theorem join_any (op : ByteArray) (c : Int) (v : Value) (w : World) (hv : Errish v) : Calls Tryf.prog 8 #[.string op, .int .i64 c, v] w fun e w' => e = .returned (flV w.heap.size) ∧ w' = w.alloc (flObj op c v) := by
  rcases hv with rfl | ⟨t, x, rfl⟩
  · go_enter Tryf.func8, Tryf.ntmps8
    go_wp2
    go_ret
    exact ⟨rfl, rfl⟩
  · go_enter Tryf.func8, Tryf.ntmps8
    go_wp2
    go_ret
    exact ⟨rfl, rfl⟩
theorem name_in (c : Int) (w : World) (h : Env w) (h0 : 0 ≤ c) (h1 : c < 24) : Calls Tryf.prog 15 #[.int .i64 c] w fun e w' => e = .returned (.string (nameAt c.toNat)) ∧ w = w' := by
  have hc := h.names c.toNat (by omega)
  go_enter Tryf.func15, Tryf.ntmps15
  go_wp2
  go_ret
  exact ⟨rfl, rfl⟩
theorem name_out (c : Int) (w : World) (h : c < 0 ∨ 24 ≤ c) : Calls Tryf.prog 15 #[.int .i64 c] w fun e w' => e = .returned (.string ⟨#[101, 114, 114, 111, 114]⟩) ∧ w = w' := by
  rcases h with h | h
  · go_enter Tryf.func15, Tryf.ntmps15
    go_wp2
    go_ret
    exact ⟨rfl, rfl⟩
  · have h' : ¬ c < 0 := by omega
    go_enter Tryf.func15, Tryf.ntmps15
    go_wp2
    go_ret
    exact ⟨rfl, rfl⟩
theorem name_any (c : Int) (w : World) (h : Env w) : Calls Tryf.prog 15 #[.int .i64 c] w fun e w' => e = .returned (.string (nameOf c)) ∧ w = w' := by
  by_cases hc : 0 ≤ c ∧ c < 24
  · rw [nameOf, if_pos hc]; exact name_in c w h hc.1 hc.2
  · rw [nameOf, if_neg hc]; exact name_out c w (by omega)
theorem flUnwrap (b : Nat) (op : ByteArray) (c : Int) (v : Value) (w : World) (hb : w.heap[b]? = some (flObj op c v)) : Calls Tryf.prog 52 #[.pointer (some ⟨b, 0, none⟩)] w fun e w' => e = .returned v ∧ w = w' := by
  have c2 := cells_of hb 2 v rfl
  go_enter Tryf.func52, Tryf.ntmps52
  go_wp2
  go_ret
  exact ⟨rfl, rfl⟩
theorem wrUnwrap (b : Nat) (m : ByteArray) (v : Value) (w : World) (hb : w.heap[b]? = some (wrObj m v)) : Calls Tryf.prog 60 #[.pointer (some ⟨b, 0, none⟩)] w fun e w' => e = .returned v ∧ w = w' := by
  have c2 := cells_of hb 1 v rfl
  go_enter Tryf.func60, Tryf.ntmps60
  go_wp2
  go_ret
  exact ⟨rfl, rfl⟩
theorem jnUnwrap (b g n : Nat) (w : World) (hb : w.heap[b]? = some (jnObj g n)) : Calls Tryf.prog 62 #[.pointer (some ⟨b, 0, none⟩)] w fun e w' => e = .returned (.slice (some ⟨g, 0, none⟩) n n) ∧ w = w' := by
  have c2 := cells_of hb 0 _ rfl
  go_enter Tryf.func62, Tryf.ntmps62
  go_wp2
  go_ret
  exact ⟨rfl, rfl⟩
theorem wrError (b : Nat) (m : ByteArray) (v : Value) (w : World) (hb : w.heap[b]? = some (wrObj m v)) : Calls Tryf.prog 59 #[.pointer (some ⟨b, 0, none⟩)] w fun e w' => e = .returned (.string m) ∧ w = w' := by
  have c2 := cells_of hb 0 _ rfl
  go_enter Tryf.func59, Tryf.ntmps59
  go_wp2
  go_ret
  exact ⟨rfl, rfl⟩
theorem plError (b : Nat) (m : ByteArray) (w : World) (hb : w.heap[b]? = some (plObj m)) : Calls Tryf.prog 63 #[.pointer (some ⟨b, 0, none⟩)] w fun e w' => e = .returned (.string m) ∧ w = w' := by
  have c2 := cells_of hb 0 _ rfl
  go_enter Tryf.func63, Tryf.ntmps63
  go_wp2
  go_ret
  exact ⟨rfl, rfl⟩
end Go.Proofs.YthgcbgdafoiacaaFmt
