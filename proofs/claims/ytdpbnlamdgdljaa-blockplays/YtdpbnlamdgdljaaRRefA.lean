/-
  The reference's Of, FrameRight, FrameName: the same answers.
-/
import Derived.Test.YtdpbnlamdgdljaaRName
namespace Go.Proofs.Ytdpbnlamdgdljaa
open Go.RowKit

def namesV : Array Value := (namesL.map Value.string).toArray
theorem names_cell (i : Nat) (s : ByteArray) (h : namesL[i]? = some s) (t : TypeId) (w : World) : (w.alloc (.cells #[.string ⟨#[100, 97, 116, 97]⟩, .string ⟨#[104, 101, 97, 100, 101, 114, 115]⟩, .string ⟨#[112, 114, 105, 111, 114, 105, 116, 121]⟩, .string ⟨#[114, 101, 115, 101, 116]⟩, .string ⟨#[115, 101, 116, 116, 105, 110, 103, 115]⟩, .string ⟨#[112, 114, 111, 109, 105, 115, 101]⟩, .string ⟨#[112, 105, 110, 103]⟩, .string ⟨#[97, 119, 97, 121]⟩, .string ⟨#[117, 112, 100, 97, 116, 101]⟩, .string ⟨#[99, 111, 110, 116, 105, 110, 117, 101]⟩] t)).cell? ⟨w.heap.size, i, none⟩ = some (.string s) := by
  show (w.alloc (.cells namesV t)).cell? ⟨w.heap.size, i, none⟩ = some (.string s)
  unfold World.cell?
  rw [heap_alloc_new]
  simp [namesV, h]
attribute [local irreducible] numL byteAt endOf idOf nums str

set_option maxRecDepth 100000 in
theorem fright_no0 (k fl id : Int) (b : ByteArray) (w : World)  (bad : k < 0) : Calls Try.prog 46 #[.agg #[.int .i64 k, .int .i64 fl, .int .i64 id, .string b]] w fun e w' => e = .returned (.bool false) ∧ Keeps nobody w w' := by
  go_enter Try.func46, Try.ntmps46
  go_wp2
  go_ret
  exact ⟨rfl, keeps_alloc _ _⟩

set_option maxRecDepth 100000 in
theorem fright_no1 (k fl id : Int) (b : ByteArray) (w : World) (g0 : 0 ≤ k) (bad : 255 < k) : Calls Try.prog 46 #[.agg #[.int .i64 k, .int .i64 fl, .int .i64 id, .string b]] w fun e w' => e = .returned (.bool false) ∧ Keeps nobody w w' := by
  go_enter Try.func46, Try.ntmps46
  go_wp2
  go_ret
  exact ⟨rfl, keeps_alloc _ _⟩

set_option maxRecDepth 100000 in
theorem fright_no2 (k fl id : Int) (b : ByteArray) (w : World) (g0 : 0 ≤ k) (g1 : k ≤ 255) (bad : fl < 0) : Calls Try.prog 46 #[.agg #[.int .i64 k, .int .i64 fl, .int .i64 id, .string b]] w fun e w' => e = .returned (.bool false) ∧ Keeps nobody w w' := by
  go_enter Try.func46, Try.ntmps46
  go_wp2
  go_ret
  exact ⟨rfl, keeps_alloc _ _⟩

set_option maxRecDepth 100000 in
theorem fright_no3 (k fl id : Int) (b : ByteArray) (w : World) (g0 : 0 ≤ k) (g1 : k ≤ 255) (g2 : 0 ≤ fl) (bad : 255 < fl) : Calls Try.prog 46 #[.agg #[.int .i64 k, .int .i64 fl, .int .i64 id, .string b]] w fun e w' => e = .returned (.bool false) ∧ Keeps nobody w w' := by
  go_enter Try.func46, Try.ntmps46
  go_wp2
  go_ret
  exact ⟨rfl, keeps_alloc _ _⟩

set_option maxRecDepth 100000 in
theorem fright_no4 (k fl id : Int) (b : ByteArray) (w : World) (g0 : 0 ≤ k) (g1 : k ≤ 255) (g2 : 0 ≤ fl) (g3 : fl ≤ 255) (bad : id < 0) : Calls Try.prog 46 #[.agg #[.int .i64 k, .int .i64 fl, .int .i64 id, .string b]] w fun e w' => e = .returned (.bool false) ∧ Keeps nobody w w' := by
  go_enter Try.func46, Try.ntmps46
  go_wp2
  go_ret
  exact ⟨rfl, keeps_alloc _ _⟩

set_option maxRecDepth 100000 in
theorem fright_no5 (k fl id : Int) (b : ByteArray) (w : World) (g0 : 0 ≤ k) (g1 : k ≤ 255) (g2 : 0 ≤ fl) (g3 : fl ≤ 255) (g4 : 0 ≤ id) (bad : 2147483647 < id) : Calls Try.prog 46 #[.agg #[.int .i64 k, .int .i64 fl, .int .i64 id, .string b]] w fun e w' => e = .returned (.bool false) ∧ Keeps nobody w w' := by
  go_enter Try.func46, Try.ntmps46
  go_wp2
  go_ret
  exact ⟨rfl, keeps_alloc _ _⟩

set_option maxRecDepth 100000 in
theorem fright_yes (k fl id : Int) (b : ByteArray) (w : World) (h1 : 0 ≤ k) (h2 : k ≤ 255) (h3 : 0 ≤ fl) (h4 : fl ≤ 255) (h5 : 0 ≤ id) (h6 : id ≤ 2147483647) : Calls Try.prog 46 #[.agg #[.int .i64 k, .int .i64 fl, .int .i64 id, .string b]] w fun e w' => e = .returned (.bool (decide (b.size ≤ 16777215))) ∧ Keeps nobody w w' := by
  go_enter Try.func46, Try.ntmps46
  go_wp2
  go_ret
  exact ⟨by simp; omega, keeps_alloc _ _⟩
theorem fright_ok (f : Frm) (w : World) : Calls Try.prog 46 #[frval f] w fun e w' => e = .returned (.bool (decide (right f))) ∧ Keeps nobody w w' := by
  obtain ⟨k, fl, id, b⟩ := f
  by_cases h : (0 ≤ k ∧ k ≤ 255) ∧ (0 ≤ fl ∧ fl ≤ 255) ∧ (0 ≤ id ∧ id ≤ 2147483647)
  · have e : decide (right ⟨k, fl, id, b⟩) = decide (b.size ≤ 16777215) := by simp [right, h]
    rw [e]
    exact fright_yes k fl id b w h.1.1 h.1.2 h.2.1.1 h.2.1.2 h.2.2.1 h.2.2.2
  · have e : decide (right ⟨k, fl, id, b⟩) = false := decide_eq_false fun g => h ⟨g.1, g.2.1, g.2.2.1⟩
    rw [e]
    by_cases h1 : 0 ≤ k
    · by_cases h2 : k ≤ 255
      · by_cases h3 : 0 ≤ fl
        · by_cases h4 : fl ≤ 255
          · by_cases h5 : 0 ≤ id
            · exact fright_no5 k fl id b w h1 h2 h3 h4 h5 (by omega)
            · exact fright_no4 k fl id b w h1 h2 h3 h4 (by omega)
          · exact fright_no3 k fl id b w h1 h2 h3 (by omega)
        · exact fright_no2 k fl id b w h1 h2 (by omega)
      · exact fright_no1 k fl id b w h1 (by omega)
    · exact fright_no0 k fl id b w (by omega)

end Go.Proofs.Ytdpbnlamdgdljaa
