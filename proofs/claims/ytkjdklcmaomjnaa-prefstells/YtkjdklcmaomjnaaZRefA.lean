/-
  The reference's Of; strings together.
-/
import Derived.Test.YtkjdklcmaomjnaaZCode
namespace Go.Proofs.Ytkjdklcmaomjnaa
open Go.RowKit

theorem str_join (l m : List Nat) : str l ++ str m = str (l ++ m) := by
  apply ByteArray.ext
  simp [str_data]
attribute [local irreducible] numL nums str

set_option maxRecDepth 100000 in
theorem of_ok (s : ByteArray) (w : World) (hs : s.size ≤ 4) : Calls Try.prog 30 #[.string s] w fun e w' => e = .returned (.int .i64 (numL (nums s) : Int)) ∧ w = w' := by
  have HN : Hid (∀ j (h : j < s.size), numL ((nums s).take (j + 1)) = numL ((nums s).take j) * 256 + (s[j]'h).toNat) := fun j h => by rw [nums_take_snoc s j h, numL_snoc]
  have HE : Hid (numL ((nums s).take s.size) = numL (nums s)) := by show _ = _; rw [nums_all _ _ (by omega)]
  have HL : Hid (∀ j, j < 4 → numL ((nums s).take j) < 16777216) := fun j hj => by
    have h1 := numL_lt ((nums s).take j) (fun x hx => nums_byte s x (List.mem_of_mem_take hx))
    have h2 : ((nums s).take j).length ≤ 3 := by simp; omega
    have h3 := Nat.pow_le_pow_right (n := 256) (by decide) h2
    omega
  generalize hR : numL (nums s) = R at *
  go_enter Try.func30, Try.ntmps30
  go_wp2
  go_loopg [3, 4] s.size (fun k v i wr => ∃ j : Nat, i = .int .i64 (j : Int) ∧ k + j = s.size ∧ v = .int .i64 (numL ((nums s).take j) : Int) ∧ wr = w)
  case atStart => exact ⟨0, rfl, rfl, by simp [numL_nil], rfl⟩
  case round =>
    obtain ⟨j, rfl, hk, rfl, rfl⟩ := hrel
    by_cases hj : j < s.size
    · have hix := index_at s j hj
      have hyb := UInt8.toNat_lt (s[j]'hj)
      have hn := HN.out j hj
      have hl := HL.out j (by omega)
      generalize (s[j]'hj).toNat = y at *
      generalize hM : numL ((nums s).take j) = m at *
      have hor := or_byte8 m y hyb hl
      rw [← hn] at hor
      have HK : Hid (gk + j = s.size) := hk
      clear hk HN HL HE hn
      generalize hP : numL ((nums s).take (j + 1)) = p at *
      go_wp2
      have hk := HK.out
      go_roundg (gk - 1)
      case measure => omega
      case rel => exact ⟨j + 1, by simp, by omega, by rw [hP], rfl⟩
    · have hjs : j = s.size := by omega
      have he := HE.out
      rw [← hjs] at he
      clear HN HL HE hR
      rw [he]
      have hj2 : s.size ≤ j := by omega
      clear hjs hk he
      go_wp2
      go_ret
      exact ⟨rfl, rfl⟩

end Go.Proofs.Ytkjdklcmaomjnaa
