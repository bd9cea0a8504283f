/-
  The reference's Of, FrameRight, FrameName: the same answers.
-/
import Derived.Test.YtkogkkjdcackcaaRName
namespace Go.Proofs.Ytkogkkjdcackcaa
open Go.RowKit

def namesV : Array Value := (namesL.map Value.string).toArray
theorem names_cell (i : Nat) (s : ByteArray) (h : namesL[i]? = some s) (t : TypeId) (w : World) : (w.alloc (.cells #[.string ⟨#[100, 97, 116, 97]⟩, .string ⟨#[104, 101, 97, 100, 101, 114, 115]⟩, .string ⟨#[112, 114, 105, 111, 114, 105, 116, 121]⟩, .string ⟨#[114, 101, 115, 101, 116]⟩, .string ⟨#[115, 101, 116, 116, 105, 110, 103, 115]⟩, .string ⟨#[112, 114, 111, 109, 105, 115, 101]⟩, .string ⟨#[112, 105, 110, 103]⟩, .string ⟨#[97, 119, 97, 121]⟩, .string ⟨#[117, 112, 100, 97, 116, 101]⟩, .string ⟨#[99, 111, 110, 116, 105, 110, 117, 101]⟩] t)).cell? ⟨w.heap.size, i, none⟩ = some (.string s) := by
  show (w.alloc (.cells namesV t)).cell? ⟨w.heap.size, i, none⟩ = some (.string s)
  unfold World.cell?
  rw [heap_alloc_new]
  simp [namesV, h]
attribute [local irreducible] numL byteAt endOf idOf nums str

set_option maxRecDepth 100000 in
theorem of_ok (s : ByteArray) (w : World) (hs : s.size ≤ 4) : Calls Try.prog 22 #[.string s] w fun e w' => e = .returned (.int .i64 (numL (nums s) : Int)) ∧ w = w' := by
  have HN : Hid (∀ j (h : j < s.size), numL ((nums s).take (j + 1)) = numL ((nums s).take j) * 256 + (s[j]'h).toNat) := fun j h => by rw [nums_take_snoc s j h, numL_snoc]
  have HE : Hid (numL ((nums s).take s.size) = numL (nums s)) := by show _ = _; rw [nums_all _ _ (by omega)]
  have HL : Hid (∀ j, j < 4 → numL ((nums s).take j) < 16777216) := fun j hj => by
    have h1 := numL_lt ((nums s).take j) (fun x hx => nums_byte s x (List.mem_of_mem_take hx))
    have h2 : ((nums s).take j).length ≤ 3 := by simp; omega
    have h3 := Nat.pow_le_pow_right (n := 256) (by decide) h2
    omega
  generalize hR : numL (nums s) = R at *
  go_enter Try.func22, Try.ntmps22
  go_wp2
  go_loopg [3, 4] s.size (fun k v i wr => ∃ j : Nat, i = .int .i64 (j : Int) ∧ k + j = s.size ∧ v = .int .i64 (numL ((nums s).take j) : Int) ∧ wr = w)
  case atStart => exact ⟨0, rfl, rfl, by simp [numL_nil], rfl⟩
  case round =>
    obtain ⟨j, rfl, hk, rfl, rfl⟩ := hrel
    by_cases hj : j < s.size
    · have hix := index_at s j hj
      have hyb := UInt8.toNat_lt (s[j]'hj)
      have hn := HN.out j hj
      have hl := HL.out j (by omega)
      generalize (s[j]'hj).toNat = y at *
      generalize hM : numL ((nums s).take j) = m at *
      have hor := or_byte8 m y hyb hl
      rw [← hn] at hor
      have HK : Hid (gk + j = s.size) := hk
      clear hk HN HL HE hn
      generalize hP : numL ((nums s).take (j + 1)) = p at *
      go_wp2
      have hk := HK.out
      go_roundg (gk - 1)
      case measure => omega
      case rel => exact ⟨j + 1, by simp, by omega, by rw [hP], rfl⟩
    · have hjs : j = s.size := by omega
      have he := HE.out
      rw [← hjs] at he
      clear HN HL HE hR
      rw [he]
      have hj2 : s.size ≤ j := by omega
      clear hjs hk he
      go_wp2
      go_ret
      exact ⟨rfl, rfl⟩

set_option maxRecDepth 100000 in
theorem fright_no0 (k fl id : Int) (b : ByteArray) (w : World)  (bad : k < 0) : Calls Try.prog 24 #[.agg #[.int .i64 k, .int .i64 fl, .int .i64 id, .string b]] w fun e w' => e = .returned (.bool false) ∧ Keeps nobody w w' := by
  go_enter Try.func24, Try.ntmps24
  go_wp2
  go_ret
  exact ⟨rfl, keeps_alloc _ _⟩

set_option maxRecDepth 100000 in
theorem fright_no1 (k fl id : Int) (b : ByteArray) (w : World) (g0 : 0 ≤ k) (bad : 255 < k) : Calls Try.prog 24 #[.agg #[.int .i64 k, .int .i64 fl, .int .i64 id, .string b]] w fun e w' => e = .returned (.bool false) ∧ Keeps nobody w w' := by
  go_enter Try.func24, Try.ntmps24
  go_wp2
  go_ret
  exact ⟨rfl, keeps_alloc _ _⟩

set_option maxRecDepth 100000 in
theorem fright_no2 (k fl id : Int) (b : ByteArray) (w : World) (g0 : 0 ≤ k) (g1 : k ≤ 255) (bad : fl < 0) : Calls Try.prog 24 #[.agg #[.int .i64 k, .int .i64 fl, .int .i64 id, .string b]] w fun e w' => e = .returned (.bool false) ∧ Keeps nobody w w' := by
  go_enter Try.func24, Try.ntmps24
  go_wp2
  go_ret
  exact ⟨rfl, keeps_alloc _ _⟩

set_option maxRecDepth 100000 in
theorem fright_no3 (k fl id : Int) (b : ByteArray) (w : World) (g0 : 0 ≤ k) (g1 : k ≤ 255) (g2 : 0 ≤ fl) (bad : 255 < fl) : Calls Try.prog 24 #[.agg #[.int .i64 k, .int .i64 fl, .int .i64 id, .string b]] w fun e w' => e = .returned (.bool false) ∧ Keeps nobody w w' := by
  go_enter Try.func24, Try.ntmps24
  go_wp2
  go_ret
  exact ⟨rfl, keeps_alloc _ _⟩

set_option maxRecDepth 100000 in
theorem fright_no4 (k fl id : Int) (b : ByteArray) (w : World) (g0 : 0 ≤ k) (g1 : k ≤ 255) (g2 : 0 ≤ fl) (g3 : fl ≤ 255) (bad : id < 0) : Calls Try.prog 24 #[.agg #[.int .i64 k, .int .i64 fl, .int .i64 id, .string b]] w fun e w' => e = .returned (.bool false) ∧ Keeps nobody w w' := by
  go_enter Try.func24, Try.ntmps24
  go_wp2
  go_ret
  exact ⟨rfl, keeps_alloc _ _⟩

set_option maxRecDepth 100000 in
theorem fright_no5 (k fl id : Int) (b : ByteArray) (w : World) (g0 : 0 ≤ k) (g1 : k ≤ 255) (g2 : 0 ≤ fl) (g3 : fl ≤ 255) (g4 : 0 ≤ id) (bad : 2147483647 < id) : Calls Try.prog 24 #[.agg #[.int .i64 k, .int .i64 fl, .int .i64 id, .string b]] w fun e w' => e = .returned (.bool false) ∧ Keeps nobody w w' := by
  go_enter Try.func24, Try.ntmps24
  go_wp2
  go_ret
  exact ⟨rfl, keeps_alloc _ _⟩

set_option maxRecDepth 100000 in
theorem fright_yes (k fl id : Int) (b : ByteArray) (w : World) (h1 : 0 ≤ k) (h2 : k ≤ 255) (h3 : 0 ≤ fl) (h4 : fl ≤ 255) (h5 : 0 ≤ id) (h6 : id ≤ 2147483647) : Calls Try.prog 24 #[.agg #[.int .i64 k, .int .i64 fl, .int .i64 id, .string b]] w fun e w' => e = .returned (.bool (decide (b.size ≤ 16777215))) ∧ Keeps nobody w w' := by
  go_enter Try.func24, Try.ntmps24
  go_wp2
  go_ret
  exact ⟨by simp; omega, keeps_alloc _ _⟩
theorem fright_ok (f : Frm) (w : World) : Calls Try.prog 24 #[frval f] w fun e w' => e = .returned (.bool (decide (right f))) ∧ Keeps nobody w w' := by
  obtain ⟨k, fl, id, b⟩ := f
  by_cases h : (0 ≤ k ∧ k ≤ 255) ∧ (0 ≤ fl ∧ fl ≤ 255) ∧ (0 ≤ id ∧ id ≤ 2147483647)
  · have e : decide (right ⟨k, fl, id, b⟩) = decide (b.size ≤ 16777215) := by simp [right, h]
    rw [e]
    exact fright_yes k fl id b w h.1.1 h.1.2 h.2.1.1 h.2.1.2 h.2.2.1 h.2.2.2
  · have e : decide (right ⟨k, fl, id, b⟩) = false := decide_eq_false fun g => h ⟨g.1, g.2.1, g.2.2.1⟩
    rw [e]
    by_cases h1 : 0 ≤ k
    · by_cases h2 : k ≤ 255
      · by_cases h3 : 0 ≤ fl
        · by_cases h4 : fl ≤ 255
          · by_cases h5 : 0 ≤ id
            · exact fright_no5 k fl id b w h1 h2 h3 h4 h5 (by omega)
            · exact fright_no4 k fl id b w h1 h2 h3 h4 (by omega)
          · exact fright_no3 k fl id b w h1 h2 h3 (by omega)
        · exact fright_no2 k fl id b w h1 h2 (by omega)
      · exact fright_no1 k fl id b w h1 (by omega)
    · exact fright_no0 k fl id b w (by omega)

end Go.Proofs.Ytkogkkjdcackcaa
