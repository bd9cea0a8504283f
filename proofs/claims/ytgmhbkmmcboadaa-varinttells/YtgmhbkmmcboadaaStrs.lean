/-
  Strings as lists of numbers: written, joined, cut.
-/
import Derived.Test.YtgmhbkmmcboadaaAliveV
namespace Go.Proofs.Ytgmhbkmmcboadaa
open Go.RowKit

theorem nums_str (l : List Nat) (h : ∀ x ∈ l, x < 256) : nums (str l) = l := by
  rw [nums, str_data]
  simp only [List.map_map]
  have : ∀ l : List Nat, (∀ x ∈ l, x < 256) → l.map (UInt8.toNat ∘ UInt8.ofNat) = l := by
    intro l
    induction l with
    | nil => intro _; rfl
    | cons x l ih =>
      intro h
      have hx := h x (by simp)
      rw [List.map_cons, ih fun y hy => h y (by simp [hy])]
      simp [Nat.mod_eq_of_lt hx]
  exact this l h
theorem nums_append (a b : ByteArray) : nums (a ++ b) = nums a ++ nums b := by
  simp [nums]
theorem nums_take (b : ByteArray) (j : Nat) : nums (b.extract 0 j) = (nums b).take j := by
  simp [nums, List.map_take]
theorem nums_byte (b : ByteArray) : ∀ x ∈ nums b, x < 256 := by
  intro x hx
  obtain ⟨u, _, rfl⟩ := List.mem_map.1 hx
  exact UInt8.toNat_lt u
theorem size_str_append (a b : ByteArray) : (a ++ b).size = a.size + b.size := by simp
theorem putN_bytes (f x n : Int) (h0 : 0 ≤ f) (hf : f < 256) (h : putIs f x n) : ∀ y ∈ putN f.toNat (full x) n.toNat, y < 256 :=
  putN_byte _ _ _ (sum_byte x f.toNat (full x) h.1 h.2.1 (by omega) h.2.2.2.2 (Nat.le_refl _))
end Go.Proofs.Ytgmhbkmmcboadaa
