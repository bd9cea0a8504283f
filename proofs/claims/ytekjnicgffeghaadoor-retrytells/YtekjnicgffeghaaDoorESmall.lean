/-
  The small functions of package fail, and of the library's errors: New, Join, Name, Unwrap, the texts.
-/
import Derived.Test.YtekjnicgffeghaaDoorEMem
namespace Go.Proofs.YtekjnicgffeghaaDoor
open Go.RowKit Go.Extern.Stop Go.Stop Go.Extern

theorem new_ok (w : World) : Calls Tryd.prog 18 #[.int .i64 0] w fun e w' => e = .returned .nilIface ∧ w = w' := by
  go_enter Tryd.func18, Tryd.ntmps18
  go_wp2
  go_ret
  exact ⟨rfl, rfl⟩
theorem new_some (c : Int) (w : World) (hc : (c == 0) = false) : Calls Tryd.prog 18 #[.int .i64 c] w fun e w' => e = .returned (flV w.heap.size) ∧ w' = w.alloc (flObj ⟨#[]⟩ c .nilIface) := by
  go_enter Tryd.func18, Tryd.ntmps18
  go_wp2
  go_ret
  exact ⟨rfl, rfl⟩
theorem join_any (op : ByteArray) (c : Int) (v : Value) (w : World) (hv : Errish v) : Calls Tryd.prog 24 #[.string op, .int .i64 c, v] w fun e w' => e = .returned (flV w.heap.size) ∧ w' = w.alloc (flObj op c v) := by
  rcases hv with rfl | ⟨t, x, rfl⟩
  · go_enter Tryd.func24, Tryd.ntmps24
    go_wp2
    go_ret
    exact ⟨rfl, rfl⟩
  · go_enter Tryd.func24, Tryd.ntmps24
    go_wp2
    go_ret
    exact ⟨rfl, rfl⟩
theorem name_in (c : Int) (w : World) (h : Env w) (h0 : 0 ≤ c) (h1 : c < 24) : Calls Tryd.prog 13 #[.int .i64 c] w fun e w' => e = .returned (.string (nameAt c.toNat)) ∧ w = w' := by
  have hc := h.names c.toNat (by omega)
  go_enter Tryd.func13, Tryd.ntmps13
  go_wp2
  go_ret
  exact ⟨rfl, rfl⟩
theorem name_out (c : Int) (w : World) (h : c < 0 ∨ 24 ≤ c) : Calls Tryd.prog 13 #[.int .i64 c] w fun e w' => e = .returned (.string ⟨#[101, 114, 114, 111, 114]⟩) ∧ w = w' := by
  rcases h with h | h
  · go_enter Tryd.func13, Tryd.ntmps13
    go_wp2
    go_ret
    exact ⟨rfl, rfl⟩
  · have h' : ¬ c < 0 := by omega
    go_enter Tryd.func13, Tryd.ntmps13
    go_wp2
    go_ret
    exact ⟨rfl, rfl⟩
theorem name_any (c : Int) (w : World) (h : Env w) : Calls Tryd.prog 13 #[.int .i64 c] w fun e w' => e = .returned (.string (nameOf c)) ∧ w = w' := by
  by_cases hc : 0 ≤ c ∧ c < 24
  · rw [nameOf, if_pos hc]; exact name_in c w h hc.1 hc.2
  · rw [nameOf, if_neg hc]; exact name_out c w (by omega)
theorem flUnwrap (b : Nat) (op : ByteArray) (c : Int) (v : Value) (w : World) (hb : w.heap[b]? = some (flObj op c v)) : Calls Tryd.prog 58 #[.pointer (some ⟨b, 0, none⟩)] w fun e w' => e = .returned v ∧ w = w' := by
  have c2 := cells_of hb 2 v rfl
  go_enter Tryd.func58, Tryd.ntmps58
  go_wp2
  go_ret
  exact ⟨rfl, rfl⟩
theorem plError (b : Nat) (m : ByteArray) (w : World) (hb : w.heap[b]? = some (plObj m)) : Calls Tryd.prog 68 #[.pointer (some ⟨b, 0, none⟩)] w fun e w' => e = .returned (.string m) ∧ w = w' := by
  have c2 := cells_of hb 0 _ rfl
  go_enter Tryd.func68, Tryd.ntmps68
  go_wp2
  go_ret
  exact ⟨rfl, rfl⟩
end Go.Proofs.YtekjnicgffeghaaDoor
