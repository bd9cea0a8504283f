/-
  FieldValues: the walk.
-/
import Derived.Test.YtladdbppkepphabDoorFOpen
namespace Go.Proofs.YtladdbppkepphabDoor
open Go.RowKit

theorem allB_cat (p : Nat → Bool) (a b : ByteArray) : allB p (a ++ b) = (allB p a && allB p b) := by unfold allB; rw [nums_append, List.all_append]
theorem data_cat (a b : ByteArray) : (a ++ b).data.toList = a.data.toList ++ b.data.toList := by simp
theorem prefix_one (x y : UInt8) (l : List UInt8) : Lib.hasPrefix (x :: l) [y] = (y == x) := by simp [Lib.hasPrefix, List.isPrefixOf]
theorem suffix_one (x y : UInt8) (l : List UInt8) : Lib.hasSuffix (l ++ [x]) [y] = (y == x) := by
  unfold Lib.hasSuffix
  rw [List.isSuffixOf, List.reverse_append]
  simp [List.isPrefixOf]
theorem value_both (s : ByteArray) (h : s.size ≤ 150) : valueB (⟨#[97]⟩ ++ s ++ ⟨#[97]⟩) = allB okV s := by
  unfold valueB
  have e1 : (⟨#[97]⟩ ++ s ++ ⟨#[97]⟩ : ByteArray).data.toList = 97 :: (s.data.toList ++ [97]) := by simp
  have e2 : (⟨#[97]⟩ ++ s ++ ⟨#[97]⟩ : ByteArray).data.toList = (97 :: s.data.toList) ++ [97] := by simp
  have p1 : Lib.hasPrefix (⟨#[97]⟩ ++ s ++ ⟨#[97]⟩ : ByteArray).data.toList [32] = false := by rw [e1, prefix_one]; rfl
  have p2 : Lib.hasSuffix (⟨#[97]⟩ ++ s ++ ⟨#[97]⟩ : ByteArray).data.toList [32] = false := by rw [e2, suffix_one]; rfl
  have hs : (⟨#[97]⟩ ++ s ++ ⟨#[97]⟩ : ByteArray).size ≤ 200 := by rw [ByteArray.size_append, ByteArray.size_append, show (⟨#[97]⟩ : ByteArray).size = 1 from rfl]; omega
  have ha : allB okV ⟨#[97]⟩ = true := by decide +kernel
  rw [p1, p2, decide_eq_true hs, allB_cat, allB_cat, ha]
  simp
theorem value_ahead (s : ByteArray) : valueB (⟨#[97]⟩ ++ s) = true → allB okV s = true := by
  unfold valueB
  rw [allB_cat]
  intro h
  simp only [Bool.and_eq_true] at h
  exact h.1.1.2.2
theorem value_in (s : ByteArray) : valueB s = true → allB okV s = true := by
  unfold valueB
  intro h
  simp only [Bool.and_eq_true] at h
  exact h.1.1.2
theorem value_blank (s : ByteArray) : valueB (⟨#[32]⟩ ++ s) = false := by
  unfold valueB
  have e1 : (⟨#[32]⟩ ++ s : ByteArray).data.toList = 32 :: s.data.toList := by simp
  have p1 : Lib.hasPrefix (⟨#[32]⟩ ++ s : ByteArray).data.toList [32] = true := by rw [e1, prefix_one]; rfl
  rw [p1]
  simp
theorem value_blank' (s : ByteArray) : valueB (s ++ ⟨#[32]⟩) = false := by
  unfold valueB
  have e1 : (s ++ ⟨#[32]⟩ : ByteArray).data.toList = s.data.toList ++ [32] := by simp
  have p1 : Lib.hasSuffix (s ++ ⟨#[32]⟩ : ByteArray).data.toList [32] = true := by rw [e1, suffix_one]; rfl
  rw [p1]
  simp
theorem value_high : valueB ⟨#[128, 255]⟩ = true := by decide +kernel

attribute [local irreducible] okV valueB
set_option maxRecDepth 100000 in
theorem inner_ok (s : ByteArray) (w : World) (hs : s.size ≤ 1000000000) : Calls Tryd.prog 11 #[.string s] w fun e w' => e = .returned (.bool (allB okV s)) ∧ w = w' := by
  unfold allB
  generalize hA : (nums s).all okV = A
  have HA : Hid (((nums s).drop 0).all okV = A) := hA
  clear hA
  go_enter Tryd.func11, Tryd.ntmps11
  go_wp2
  go_loopg [3] s.size (fun k i wr => ∃ j : Nat, i = .int .i64 j ∧ k + j = s.size ∧ wr = w ∧ ((nums s).drop j).all okV = A)
  case atStart => exact ⟨0, rfl, rfl, rfl, HA.out⟩
  case round =>
    obtain ⟨j, rfl, hk, rfl, hd⟩ := hrel
    by_cases hj : j < s.size
    · rw [nums_drop s j hj, List.all_cons] at hd
      have hix := index_at s j hj
      have hbj : (s[j]'hj).toNat < 256 := UInt8.toNat_lt _
      generalize (s[j]'hj).toNat = y at *
      by_cases h32 : y < 32
      · have ho : okV y = false := by unfold okV; simp; omega
        rw [ho, Bool.false_and] at hd
        subst hd
        clear HA ho
        go_wp2
        go_ret
        exact ⟨rfl, rfl⟩
      · by_cases h127 : y = 127
        · have ho : okV y = false := by unfold okV; simp; omega
          rw [ho, Bool.false_and] at hd
          subst hd h127
          clear HA ho
          go_wp2
          go_ret
          exact ⟨rfl, rfl⟩
        · have ho : okV y = true := by unfold okV; simp; omega
          rw [ho, Bool.true_and] at hd
          have HD := hid (And.intro hk hd)
          have z : ((y : Int) == 127) = false := by rw [beq_eq_false_iff_ne]; omega
          clear HA ho hk hd
          go_wp2
          obtain ⟨hk, hd⟩ := HD.out
          go_roundg (gk - 1)
          case measure => omega
          case rel => exact ⟨j + 1, by simp, by omega, rfl, hd⟩
    · rw [nums_none s j hj] at hd
      have HD := hid hd
      clear hd
      go_wp2
      go_ret
      exact ⟨by rw [← HD.out]; rfl, rfl⟩
set_option maxRecDepth 100000 in
set_option maxHeartbeats 1000000 in
theorem values_ttt (s : ByteArray) (W : World) (hl : s.size ≤ 150)
    (HA : Hid (∀ W, Calls Tryd.prog 5 #[] W fun e w' => e = .returned (.bool true) ∧ Keeps nobody W w'))
    (HI : Hid (∀ W, Calls Tryd.prog 11 #[.string s] W fun e w' => e = .returned (.bool true) ∧ W = w'))
    (H0 : Hid (∀ W, Calls Tryd.prog 10 #[.string s] W fun e w' => e = .returned (.bool true) ∧ W = w'))
    (H1 : Hid (∀ W, Calls Tryd.prog 10 #[.string (⟨#[97]⟩ ++ s ++ ⟨#[97]⟩)] W fun e w' => e = .returned (.bool true) ∧ W = w'))
    (H2 : Hid (∀ W, Calls Tryd.prog 10 #[.string (⟨#[97]⟩ ++ s)] W fun e w' => e = .returned (.bool true) ∧ W = w'))
    (H3 : Hid (∀ W, Calls Tryd.prog 10 #[.string (⟨#[32]⟩ ++ s)] W fun e w' => e = .returned (.bool false) ∧ W = w'))
    (H4 : Hid (∀ W, Calls Tryd.prog 10 #[.string (s ++ ⟨#[32]⟩)] W fun e w' => e = .returned (.bool false) ∧ W = w'))
    (H5 : Hid (∀ W, Calls Tryd.prog 10 #[.string ⟨#[128, 255]⟩] W fun e w' => e = .returned (.bool true) ∧ W = w')) :
    Calls Tryd.prog 4 #[.string s] W fun e w' => e = .returned (.bool true) ∧ Below W.heap.size W w' := by
  go_enter Tryd.func4, Tryd.ntmps4
  go_wp2_with fail
  refine Calls.mono (HA.out _) ?_
  rintro e w1 ⟨rfl, k1⟩
  go_wp2_with fail
  refine Calls.mono (H0.out _) ?_
  rintro e w2 ⟨rfl, rfl⟩
  go_wp2_with fail
  refine Calls.mono (H1.out _) ?_
  rintro e w2 ⟨rfl, rfl⟩
  go_wp2_with fail
  refine Calls.mono (H2.out _) ?_
  rintro e w2 ⟨rfl, rfl⟩
  go_wp2_with fail
  refine Calls.mono (H3.out _) ?_
  rintro e w2 ⟨rfl, rfl⟩
  go_wp2_with fail
  refine Calls.mono (H4.out _) ?_
  rintro e w2 ⟨rfl, rfl⟩
  go_wp2_with fail
  refine Calls.mono (HI.out _) ?_
  rintro e w2 ⟨rfl, rfl⟩
  go_wp2_with fail
  refine Calls.mono (H5.out _) ?_
  rintro e w2 ⟨rfl, rfl⟩
  go_wp2
  go_ret
  exact ⟨rfl, below_of_keeps k1⟩
set_option maxRecDepth 100000 in
set_option maxHeartbeats 1000000 in
theorem values_ttf (s : ByteArray) (W : World) (hl : s.size ≤ 150)
    (HA : Hid (∀ W, Calls Tryd.prog 5 #[] W fun e w' => e = .returned (.bool true) ∧ Keeps nobody W w'))
    (_ : Hid (∀ W, Calls Tryd.prog 11 #[.string s] W fun e w' => e = .returned (.bool true) ∧ W = w'))
    (H0 : Hid (∀ W, Calls Tryd.prog 10 #[.string s] W fun e w' => e = .returned (.bool false) ∧ W = w'))
    (H1 : Hid (∀ W, Calls Tryd.prog 10 #[.string (⟨#[97]⟩ ++ s ++ ⟨#[97]⟩)] W fun e w' => e = .returned (.bool true) ∧ W = w'))
    (H2 : Hid (∀ W, Calls Tryd.prog 10 #[.string (⟨#[97]⟩ ++ s)] W fun e w' => e = .returned (.bool true) ∧ W = w'))
    (H3 : Hid (∀ W, Calls Tryd.prog 10 #[.string (⟨#[32]⟩ ++ s)] W fun e w' => e = .returned (.bool false) ∧ W = w'))
    (H4 : Hid (∀ W, Calls Tryd.prog 10 #[.string (s ++ ⟨#[32]⟩)] W fun e w' => e = .returned (.bool false) ∧ W = w'))
    (H5 : Hid (∀ W, Calls Tryd.prog 10 #[.string ⟨#[128, 255]⟩] W fun e w' => e = .returned (.bool true) ∧ W = w')) :
    Calls Tryd.prog 4 #[.string s] W fun e w' => e = .returned (.bool true) ∧ Below W.heap.size W w' := by
  go_enter Tryd.func4, Tryd.ntmps4
  go_wp2_with fail
  refine Calls.mono (HA.out _) ?_
  rintro e w1 ⟨rfl, k1⟩
  go_wp2_with fail
  refine Calls.mono (H0.out _) ?_
  rintro e w2 ⟨rfl, rfl⟩
  go_wp2_with fail
  refine Calls.mono (H1.out _) ?_
  rintro e w2 ⟨rfl, rfl⟩
  go_wp2_with fail
  refine Calls.mono (H2.out _) ?_
  rintro e w2 ⟨rfl, rfl⟩
  go_wp2_with fail
  refine Calls.mono (H3.out _) ?_
  rintro e w2 ⟨rfl, rfl⟩
  go_wp2_with fail
  refine Calls.mono (H4.out _) ?_
  rintro e w2 ⟨rfl, rfl⟩
  go_wp2_with fail
  refine Calls.mono (H5.out _) ?_
  rintro e w2 ⟨rfl, rfl⟩
  go_wp2
  go_ret
  exact ⟨rfl, below_of_keeps k1⟩
set_option maxRecDepth 100000 in
set_option maxHeartbeats 1000000 in
theorem values_tft (s : ByteArray) (W : World) (hl : s.size ≤ 150)
    (HA : Hid (∀ W, Calls Tryd.prog 5 #[] W fun e w' => e = .returned (.bool true) ∧ Keeps nobody W w'))
    (HI : Hid (∀ W, Calls Tryd.prog 11 #[.string s] W fun e w' => e = .returned (.bool true) ∧ W = w'))
    (H0 : Hid (∀ W, Calls Tryd.prog 10 #[.string s] W fun e w' => e = .returned (.bool true) ∧ W = w'))
    (H1 : Hid (∀ W, Calls Tryd.prog 10 #[.string (⟨#[97]⟩ ++ s ++ ⟨#[97]⟩)] W fun e w' => e = .returned (.bool true) ∧ W = w'))
    (H2 : Hid (∀ W, Calls Tryd.prog 10 #[.string (⟨#[97]⟩ ++ s)] W fun e w' => e = .returned (.bool false) ∧ W = w'))
    (H3 : Hid (∀ W, Calls Tryd.prog 10 #[.string (⟨#[32]⟩ ++ s)] W fun e w' => e = .returned (.bool false) ∧ W = w'))
    (H4 : Hid (∀ W, Calls Tryd.prog 10 #[.string (s ++ ⟨#[32]⟩)] W fun e w' => e = .returned (.bool false) ∧ W = w'))
    (H5 : Hid (∀ W, Calls Tryd.prog 10 #[.string ⟨#[128, 255]⟩] W fun e w' => e = .returned (.bool true) ∧ W = w')) :
    Calls Tryd.prog 4 #[.string s] W fun e w' => e = .returned (.bool true) ∧ Below W.heap.size W w' := by
  go_enter Tryd.func4, Tryd.ntmps4
  go_wp2_with fail
  refine Calls.mono (HA.out _) ?_
  rintro e w1 ⟨rfl, k1⟩
  go_wp2_with fail
  refine Calls.mono (H0.out _) ?_
  rintro e w2 ⟨rfl, rfl⟩
  go_wp2_with fail
  refine Calls.mono (H1.out _) ?_
  rintro e w2 ⟨rfl, rfl⟩
  go_wp2_with fail
  refine Calls.mono (H2.out _) ?_
  rintro e w2 ⟨rfl, rfl⟩
  go_wp2_with fail
  refine Calls.mono (HI.out _) ?_
  rintro e w2 ⟨rfl, rfl⟩
  go_wp2_with fail
  refine Calls.mono (H3.out _) ?_
  rintro e w2 ⟨rfl, rfl⟩
  go_wp2_with fail
  refine Calls.mono (H4.out _) ?_
  rintro e w2 ⟨rfl, rfl⟩
  go_wp2_with fail
  refine Calls.mono (HI.out _) ?_
  rintro e w2 ⟨rfl, rfl⟩
  go_wp2_with fail
  refine Calls.mono (H5.out _) ?_
  rintro e w2 ⟨rfl, rfl⟩
  go_wp2
  go_ret
  exact ⟨rfl, below_of_keeps k1⟩
set_option maxRecDepth 100000 in
set_option maxHeartbeats 1000000 in
theorem values_tff (s : ByteArray) (W : World) (hl : s.size ≤ 150)
    (HA : Hid (∀ W, Calls Tryd.prog 5 #[] W fun e w' => e = .returned (.bool true) ∧ Keeps nobody W w'))
    (HI : Hid (∀ W, Calls Tryd.prog 11 #[.string s] W fun e w' => e = .returned (.bool true) ∧ W = w'))
    (H0 : Hid (∀ W, Calls Tryd.prog 10 #[.string s] W fun e w' => e = .returned (.bool false) ∧ W = w'))
    (H1 : Hid (∀ W, Calls Tryd.prog 10 #[.string (⟨#[97]⟩ ++ s ++ ⟨#[97]⟩)] W fun e w' => e = .returned (.bool true) ∧ W = w'))
    (H2 : Hid (∀ W, Calls Tryd.prog 10 #[.string (⟨#[97]⟩ ++ s)] W fun e w' => e = .returned (.bool false) ∧ W = w'))
    (H3 : Hid (∀ W, Calls Tryd.prog 10 #[.string (⟨#[32]⟩ ++ s)] W fun e w' => e = .returned (.bool false) ∧ W = w'))
    (H4 : Hid (∀ W, Calls Tryd.prog 10 #[.string (s ++ ⟨#[32]⟩)] W fun e w' => e = .returned (.bool false) ∧ W = w'))
    (H5 : Hid (∀ W, Calls Tryd.prog 10 #[.string ⟨#[128, 255]⟩] W fun e w' => e = .returned (.bool true) ∧ W = w')) :
    Calls Tryd.prog 4 #[.string s] W fun e w' => e = .returned (.bool true) ∧ Below W.heap.size W w' := by
  go_enter Tryd.func4, Tryd.ntmps4
  go_wp2_with fail
  refine Calls.mono (HA.out _) ?_
  rintro e w1 ⟨rfl, k1⟩
  go_wp2_with fail
  refine Calls.mono (H0.out _) ?_
  rintro e w2 ⟨rfl, rfl⟩
  go_wp2_with fail
  refine Calls.mono (H1.out _) ?_
  rintro e w2 ⟨rfl, rfl⟩
  go_wp2_with fail
  refine Calls.mono (H2.out _) ?_
  rintro e w2 ⟨rfl, rfl⟩
  go_wp2_with fail
  refine Calls.mono (HI.out _) ?_
  rintro e w2 ⟨rfl, rfl⟩
  go_wp2_with fail
  refine Calls.mono (H3.out _) ?_
  rintro e w2 ⟨rfl, rfl⟩
  go_wp2_with fail
  refine Calls.mono (H4.out _) ?_
  rintro e w2 ⟨rfl, rfl⟩
  go_wp2_with fail
  refine Calls.mono (H5.out _) ?_
  rintro e w2 ⟨rfl, rfl⟩
  go_wp2
  go_ret
  exact ⟨rfl, below_of_keeps k1⟩
set_option maxRecDepth 100000 in
set_option maxHeartbeats 1000000 in
theorem values_fff (s : ByteArray) (W : World) (hl : s.size ≤ 150)
    (HA : Hid (∀ W, Calls Tryd.prog 5 #[] W fun e w' => e = .returned (.bool true) ∧ Keeps nobody W w'))
    (HI : Hid (∀ W, Calls Tryd.prog 11 #[.string s] W fun e w' => e = .returned (.bool false) ∧ W = w'))
    (H0 : Hid (∀ W, Calls Tryd.prog 10 #[.string s] W fun e w' => e = .returned (.bool false) ∧ W = w'))
    (H1 : Hid (∀ W, Calls Tryd.prog 10 #[.string (⟨#[97]⟩ ++ s ++ ⟨#[97]⟩)] W fun e w' => e = .returned (.bool false) ∧ W = w'))
    (H2 : Hid (∀ W, Calls Tryd.prog 10 #[.string (⟨#[97]⟩ ++ s)] W fun e w' => e = .returned (.bool false) ∧ W = w'))
    (H3 : Hid (∀ W, Calls Tryd.prog 10 #[.string (⟨#[32]⟩ ++ s)] W fun e w' => e = .returned (.bool false) ∧ W = w'))
    (H4 : Hid (∀ W, Calls Tryd.prog 10 #[.string (s ++ ⟨#[32]⟩)] W fun e w' => e = .returned (.bool false) ∧ W = w'))
    (H5 : Hid (∀ W, Calls Tryd.prog 10 #[.string ⟨#[128, 255]⟩] W fun e w' => e = .returned (.bool true) ∧ W = w')) :
    Calls Tryd.prog 4 #[.string s] W fun e w' => e = .returned (.bool true) ∧ Below W.heap.size W w' := by
  go_enter Tryd.func4, Tryd.ntmps4
  go_wp2_with fail
  refine Calls.mono (HA.out _) ?_
  rintro e w1 ⟨rfl, k1⟩
  go_wp2_with fail
  refine Calls.mono (H0.out _) ?_
  rintro e w2 ⟨rfl, rfl⟩
  go_wp2_with fail
  refine Calls.mono (H1.out _) ?_
  rintro e w2 ⟨rfl, rfl⟩
  go_wp2_with fail
  refine Calls.mono (H2.out _) ?_
  rintro e w2 ⟨rfl, rfl⟩
  go_wp2_with fail
  refine Calls.mono (HI.out _) ?_
  rintro e w2 ⟨rfl, rfl⟩
  go_wp2_with fail
  refine Calls.mono (H3.out _) ?_
  rintro e w2 ⟨rfl, rfl⟩
  go_wp2_with fail
  refine Calls.mono (H4.out _) ?_
  rintro e w2 ⟨rfl, rfl⟩
  go_wp2_with fail
  refine Calls.mono (H5.out _) ?_
  rintro e w2 ⟨rfl, rfl⟩
  go_wp2
  go_ret
  exact ⟨rfl, below_of_keeps k1⟩
set_option maxRecDepth 100000 in
theorem values_walk (s : ByteArray) (W : World) (_ : Env W) (hs : s.size ≤ 140737488355328) : Calls Tryd.prog 4 #[.string s] W fun e w' => e = .returned (.bool true) ∧ Below W.heap.size W w' := by
  have HA : Hid (∀ W, Calls Tryd.prog 5 #[] W fun e w' => e = .returned (.bool true) ∧ Keeps nobody W w') := alive_ok
  by_cases hl : s.size ≤ 150
  · have HI : Hid (∀ W, Calls Tryd.prog 11 #[.string s] W fun e w' => e = .returned (.bool (allB okV s)) ∧ W = w') := fun W => inner_ok s W (by omega)
    have H0 : Hid (∀ W, Calls Tryd.prog 10 #[.string s] W fun e w' => e = .returned (.bool (valueB s)) ∧ W = w') := fun W => value_ok s W (by omega)
    have H1 : Hid (∀ W, Calls Tryd.prog 10 #[.string (⟨#[97]⟩ ++ s ++ ⟨#[97]⟩)] W fun e w' => e = .returned (.bool (allB okV s)) ∧ W = w') := fun W => by
      have := value_ok (⟨#[97]⟩ ++ s ++ ⟨#[97]⟩) W (by rw [ByteArray.size_append, ByteArray.size_append, show (⟨#[97]⟩ : ByteArray).size = 1 from rfl]; omega)
      rwa [value_both s hl] at this
    have H2 : Hid (∀ W, Calls Tryd.prog 10 #[.string (⟨#[97]⟩ ++ s)] W fun e w' => e = .returned (.bool (valueB (⟨#[97]⟩ ++ s))) ∧ W = w') := fun W => value_ok _ W (by rw [ByteArray.size_append, show (⟨#[97]⟩ : ByteArray).size = 1 from rfl]; omega)
    have H3 : Hid (∀ W, Calls Tryd.prog 10 #[.string (⟨#[32]⟩ ++ s)] W fun e w' => e = .returned (.bool false) ∧ W = w') := fun W => by
      have := value_ok (⟨#[32]⟩ ++ s) W (by rw [ByteArray.size_append, show (⟨#[32]⟩ : ByteArray).size = 1 from rfl]; omega)
      rwa [value_blank s] at this
    have H4 : Hid (∀ W, Calls Tryd.prog 10 #[.string (s ++ ⟨#[32]⟩)] W fun e w' => e = .returned (.bool false) ∧ W = w') := fun W => by
      have := value_ok (s ++ ⟨#[32]⟩) W (by rw [ByteArray.size_append, show (⟨#[32]⟩ : ByteArray).size = 1 from rfl]; omega)
      rwa [value_blank' s] at this
    have H5 : Hid (∀ W, Calls Tryd.prog 10 #[.string ⟨#[128, 255]⟩] W fun e w' => e = .returned (.bool true) ∧ W = w') := fun W => by
      have := value_ok ⟨#[128, 255]⟩ W (by decide)
      rwa [value_high] at this
    have a1 := value_ahead s
    have a2 := value_in s
    generalize allB okV s = I at *
    generalize valueB s = G at *
    generalize valueB (⟨#[97]⟩ ++ s) = V1 at *
    cases I
    · obtain rfl : V1 = false := by cases V1 <;> simp_all
      obtain rfl : G = false := by cases G <;> simp_all
      exact values_fff s W hl HA HI H0 H1 H2 H3 H4 H5
    · cases V1 <;> cases G
      · exact values_tff s W hl HA HI H0 H1 H2 H3 H4 H5
      · exact values_tft s W hl HA HI H0 H1 H2 H3 H4 H5
      · exact values_ttf s W hl HA HI H0 H1 H2 H3 H4 H5
      · exact values_ttt s W hl HA HI H0 H1 H2 H3 H4 H5
  · go_enter Tryd.func4, Tryd.ntmps4
    go_wp2_with fail
    refine Calls.mono (HA.out _) ?_
    rintro e w1 ⟨rfl, k1⟩
    go_wp2
    go_ret
    exact ⟨rfl, below_of_keeps k1⟩
end Go.Proofs.YtladdbppkepphabDoor
