/-
  Package prefs: within, number, refused, with, First.
-/
import Derived.Test.YtkjdklcmaomjnaaZMem
import Derived.Test.YtkjdklcmaomjnaaGBits
import Derived.BigQuiet
namespace Go.Proofs.Ytkjdklcmaomjnaa
open Go.RowKit
attribute [local irreducible] numL nums str

theorem pwithin_ok (n a b : Int) (w : World) : Calls Try.prog 27 #[.int .i64 n, .int .i64 a, .int .i64 b] w fun e w' => e = .returned (.bool (decide (a ≤ n ∧ n ≤ b))) ∧ w = w' := by
  by_cases h : a ≤ n
  · have e : decide (a ≤ n ∧ n ≤ b) = decide (n ≤ b) := by simp [h]
    rw [e]
    go_enter Try.func27, Try.ntmps27
    go_wp2
    go_ret
    exact ⟨by simp, rfl⟩
  · have e : decide (a ≤ n ∧ n ≤ b) = false := by simp [h]
    rw [e]
    go_enter Try.func27, Try.ntmps27
    go_wp2
    go_ret
    exact ⟨rfl, rfl⟩
set_option maxRecDepth 100000 in
theorem pnumber_ok (s : ByteArray) (w : World) (hs : s.size ≤ 4) : Calls Try.prog 29 #[.string s] w fun e w' => e = .returned (.int .i64 (numL (nums s) : Int)) ∧ w = w' := by
  have HN : Hid (∀ j (h : j < s.size), numL ((nums s).take (j + 1)) = numL ((nums s).take j) * 256 + (s[j]'h).toNat) := fun j h => by rw [nums_take_snoc s j h, numL_snoc]
  have HE : Hid (numL ((nums s).take s.size) = numL (nums s)) := by show _ = _; rw [nums_all _ _ (by omega)]
  have HL : Hid (∀ j, j < 4 → numL ((nums s).take j) < 16777216) := fun j hj => by
    have h1 := numL_lt ((nums s).take j) (fun x hx => nums_byte s x (List.mem_of_mem_take hx))
    have h2 : ((nums s).take j).length ≤ 3 := by simp; omega
    have h3 := Nat.pow_le_pow_right (n := 256) (by decide) h2
    omega
  generalize hR : numL (nums s) = R at *
  go_enter Try.func29, Try.ntmps29
  go_wp2
  go_loopg [3, 7] s.size (fun k v i wr => ∃ j : Nat, i = .int .i64 (j : Int) ∧ k + j = s.size ∧ v = .int .i64 (numL ((nums s).take j) : Int) ∧ wr = w)
  case atStart => exact ⟨0, rfl, rfl, by simp [numL_nil], rfl⟩
  case round =>
    obtain ⟨j, rfl, hk, rfl, rfl⟩ := hrel
    by_cases hj : j < s.size
    · have hix := index_at s j hj
      have hyb := UInt8.toNat_lt (s[j]'hj)
      have hn := HN.out j hj
      have hl := HL.out j (by omega)
      generalize (s[j]'hj).toNat = y at *
      generalize hM : numL ((nums s).take j) = m at *
      have hor := or_byte8 m y hyb hl
      rw [← hn] at hor
      have HK : Hid (gk + j = s.size) := hk
      clear hk HN HL HE hn
      generalize hP : numL ((nums s).take (j + 1)) = p at *
      go_wp2
      have hk := HK.out
      go_roundg (gk - 1)
      case measure => omega
      case rel => exact ⟨j + 1, by simp, by omega, by rw [hP], rfl⟩
    · have hjs : j = s.size := by omega
      have he := HE.out
      rw [← hjs] at he
      clear HN HL HE hR
      rw [he]
      have hj2 : s.size ≤ j := by omega
      clear hjs hk he
      go_wp2
      go_ret
      exact ⟨rfl, rfl⟩
theorem pfirst_ok (w : World) : Calls Try.prog 20 #[] w fun e w' => e = .returned (psval firstP) ∧ Keeps nobody w w' := by
  go_enter Try.func20, Try.ntmps20
  go_wp2
  exact bodyPost_ret (v := psval firstP) (by simp [results, Try.results20, go_sem, firstP]) rfl ⟨rfl, (Keeps.refl _ _).alloc _⟩

set_option maxRecDepth 100000 in
theorem refused_ok (i v : Int) (w : World) : Calls Try.prog 51 #[pval (i, v)] w fun e w' => e = .returned (.tuple #[.int .i64 (refE (i, v)).1, .int .i64 (refE (i, v)).2]) ∧ Keeps nobody w w' := by
  have HW : Hid (∀ n a b w, Calls Try.prog 27 #[.int .i64 n, .int .i64 a, .int .i64 b] w fun e w' => e = .returned (.bool (decide (a ≤ n ∧ n ≤ b))) ∧ w = w') := pwithin_ok
  by_cases h4 : i = 4
  · subst h4
    by_cases hv : v ≤ 2147483647
    · have e : refE (4, v) = (0, 0) := by simp [refE, hv]
      rw [e]
      clear e
      go_enter Try.func51, Try.ntmps51
      go_wp2
      go_ret2
      exact ⟨rfl, keeps_alloc _ _⟩
    · have e : refE (4, v) = (3, 9) := by simp [refE, hv]
      rw [e]
      clear e
      go_enter Try.func51, Try.ntmps51
      go_wp2
      go_ret2
      exact ⟨rfl, keeps_alloc _ _⟩
  · by_cases h5 : i = 5
    · subst h5
      clear h4
      by_cases hv : 64 ≤ v ∧ v ≤ 16777215
      · have e : refE (5, v) = (0, 0) := by simp [refE, hv]
        have HV : Hid (decide (64 ≤ v ∧ v ≤ 16777215) = true) := decide_eq_true hv
        rw [e]
        clear e hv
        go_enter Try.func51, Try.ntmps51
        go_wp2_with fail
        refine Calls.mono (HW.out _ _ _ _) ?_
        rintro e w1 ⟨rfl, rfl⟩
        rw [HV.out]
        go_wp2
        go_ret2
        exact ⟨rfl, keeps_alloc _ _⟩
      · have e : refE (5, v) = (1, 11) := by simp [refE, hv]
        have HV : Hid (decide (64 ≤ v ∧ v ≤ 16777215) = false) := decide_eq_false hv
        rw [e]
        clear e hv
        go_enter Try.func51, Try.ntmps51
        go_wp2_with fail
        refine Calls.mono (HW.out _ _ _ _) ?_
        rintro e w1 ⟨rfl, rfl⟩
        rw [HV.out]
        go_wp2
        go_ret2
        exact ⟨rfl, keeps_alloc _ _⟩
    · by_cases h2 : i = 2
      · subst h2
        clear h4 h5
        by_cases hv : v = 0
        · subst hv
          have e : refE (2, 0) = (0, 0) := by simp [refE]
          rw [e]
          clear e
          go_enter Try.func51, Try.ntmps51
          go_wp2_with fail
          refine Calls.mono (HW.out _ _ _ _) ?_
          rintro e w1 ⟨rfl, rfl⟩
          go_wp2
          go_ret2
          exact ⟨rfl, keeps_alloc _ _⟩
        · have e : refE (2, v) = (1, 11) := by simp [refE, hv]
          have HV : Hid (decide (0 ≤ v ∧ v ≤ 0) = false) := decide_eq_false (by omega)
          rw [e]
          clear e hv
          go_enter Try.func51, Try.ntmps51
          go_wp2_with fail
          refine Calls.mono (HW.out _ _ _ _) ?_
          rintro e w1 ⟨rfl, rfl⟩
          rw [HV.out]
          go_wp2
          go_ret2
          exact ⟨rfl, keeps_alloc _ _⟩
      · have e : refE (i, v) = (0, 0) := by simp [refE, h4, h5, h2]
        rw [e]
        clear e
        go_enter Try.func51, Try.ntmps51
        go_wp2
        go_ret2
        exact ⟨rfl, keeps_alloc _ _⟩
end Go.Proofs.Ytkjdklcmaomjnaa
