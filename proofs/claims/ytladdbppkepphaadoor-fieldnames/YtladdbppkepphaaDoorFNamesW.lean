/-
  FieldNames: the walk.
-/
import Derived.Test.YtladdbppkepphaaDoorFOpen
namespace Go.Proofs.YtladdbppkepphaaDoor
open Go.RowKit

theorem nums_cat (a b : ByteArray) : nums (a ++ b) = nums a ++ nums b := nums_append a b
theorem allB_cat (p : Nat → Bool) (a b : ByteArray) : allB p (a ++ b) = (allB p a && allB p b) := by unfold allB; rw [nums_append, List.all_append]
theorem name_bad (s t : ByteArray) (x : UInt8) (h : okN x.toNat = false) : nameB (s ++ ⟨#[x]⟩ ++ t) = false := by
  unfold nameB
  rw [allB_cat, allB_cat]
  have : allB okN ⟨#[x]⟩ = false := by simp [allB, nums, h]
  rw [this]
  simp
theorem isEmpty_size (s : ByteArray) : s.toList.isEmpty = decide (s.size = 0) := by
  by_cases h : 0 < s.size
  · rw [isEmpty_of_size s h, decide_eq_false (by omega)]
  · obtain rfl := eq_empty_of_size s h
    rw [ByteArray.toList_eq]
    rfl
theorem name_cat (s t : ByteArray) : nameB (s ++ t) = ((nameB s || s.toList.isEmpty) && (nameB t || t.toList.isEmpty) && !(s ++ t).toList.isEmpty && decide (s.size + t.size ≤ 40)) := by
  rw [isEmpty_size, isEmpty_size, isEmpty_size]
  unfold nameB
  rw [allB_cat, ByteArray.size_append]
  have e1 : s.size = 0 → allB okN s = true := fun h => by
    obtain rfl := eq_empty_of_size s (by omega)
    rfl
  have e2 : t.size = 0 → allB okN t = true := fun h => by
    obtain rfl := eq_empty_of_size t (by omega)
    rfl
  generalize allB okN s = A at *
  generalize allB okN t = B at *
  generalize s.size = m at *
  generalize t.size = n at *
  rw [Bool.eq_iff_iff]
  cases A <;> cases B <;> simp at e1 e2 <;> simp <;> omega
theorem name_fit (s : ByteArray) (h : nameB s = true) : s.toList.isEmpty = false := by
  rw [isEmpty_size, decide_eq_false_iff_not]
  unfold nameB at h
  simp only [Bool.and_eq_true, decide_eq_true_eq] at h
  omega
attribute [local irreducible] nameB
set_option maxRecDepth 100000 in
set_option maxHeartbeats 1000000 in
theorem names_arm (s t : ByteArray) (W : World) (A B se te : Bool) (hAB : (A = true → se = false) ∧ (B = true → te = false)) (hl : s.size + t.size ≤ 100) (hse : s.toList.isEmpty = se) (hte : t.toList.isEmpty = te) (hst : (s ++ t).toList.isEmpty = (se && te))
    (HA : Hid (∀ W, Calls Tryd.prog 10 #[] W fun e w' => e = .returned (.bool true) ∧ Keeps nobody W w'))
    (H1 : Hid (∀ W, Calls Tryd.prog 16 #[.string s] W fun e w' => e = .returned (.bool A) ∧ W = w'))
    (H2 : Hid (∀ W, Calls Tryd.prog 16 #[.string t] W fun e w' => e = .returned (.bool B) ∧ W = w'))
    (H3 : Hid (∀ W, Calls Tryd.prog 16 #[.string (s ++ t)] W fun e w' => e = .returned (.bool ((A || se) && (B || te) && !(se && te) && decide (s.size + t.size ≤ 40))) ∧ W = w'))
    (H4 : Hid (∀ W, Calls Tryd.prog 16 #[.string (s ++ ⟨#[58]⟩ ++ t)] W fun e w' => e = .returned (.bool false) ∧ W = w'))
    (H5 : Hid (∀ W, Calls Tryd.prog 16 #[.string (s ++ ⟨#[65]⟩ ++ t)] W fun e w' => e = .returned (.bool false) ∧ W = w')) :
    Calls Tryd.prog 5 #[.string s, .string t] W fun e w' => e = .returned (.bool true) ∧ Below W.heap.size W w' := by
  have hs1 : s.size ≤ 100 := by omega
  have ht1 : t.size ≤ 100 := by omega
  by_cases h40 : s.size + t.size ≤ 40
  · rw [decide_eq_true h40] at H3
    cases se <;> cases te <;> cases A <;> cases B <;> first | (exfalso; simp at hAB; done) | skip
    all_goals as_aux_lemma =>
      clear hAB
      go_enter Tryd.func5, Tryd.ntmps5
      go_wp2_with fail
      refine Calls.mono (HA.out _) ?_
      rintro e w1 ⟨rfl, k1⟩
      go_wp2_with fail
      refine Calls.mono (H1.out _) ?_
      rintro e w2 ⟨rfl, rfl⟩
      go_wp2_with fail
      refine Calls.mono (H2.out _) ?_
      rintro e w2 ⟨rfl, rfl⟩
      go_wp2_with fail
      refine Calls.mono (H3.out _) ?_
      rintro e w2 ⟨rfl, rfl⟩
      go_wp2_with fail
      refine Calls.mono (H4.out _) ?_
      rintro e w2 ⟨rfl, rfl⟩
      go_wp2_with fail
      refine Calls.mono (H5.out _) ?_
      rintro e w2 ⟨rfl, rfl⟩
      go_wp2
      go_ret
      refine ⟨congrArg (fun b => Ending.returned (Value.bool b)) (show _ = true from ?_), below_of_keeps k1⟩
      first | rfl | (simp; omega)
  · rw [decide_eq_false h40] at H3
    cases se <;> cases te <;> cases A <;> cases B <;> first | (exfalso; simp at hAB; done) | skip
    all_goals as_aux_lemma =>
      clear hAB
      go_enter Tryd.func5, Tryd.ntmps5
      go_wp2_with fail
      refine Calls.mono (HA.out _) ?_
      rintro e w1 ⟨rfl, k1⟩
      go_wp2_with fail
      refine Calls.mono (H1.out _) ?_
      rintro e w2 ⟨rfl, rfl⟩
      go_wp2_with fail
      refine Calls.mono (H2.out _) ?_
      rintro e w2 ⟨rfl, rfl⟩
      go_wp2_with fail
      refine Calls.mono (H3.out _) ?_
      rintro e w2 ⟨rfl, rfl⟩
      go_wp2_with fail
      refine Calls.mono (H4.out _) ?_
      rintro e w2 ⟨rfl, rfl⟩
      go_wp2_with fail
      refine Calls.mono (H5.out _) ?_
      rintro e w2 ⟨rfl, rfl⟩
      go_wp2
      go_ret
      refine ⟨congrArg (fun b => Ending.returned (Value.bool b)) (show _ = true from ?_), below_of_keeps k1⟩
      first | rfl | (simp; omega)

set_option maxRecDepth 100000 in
theorem names_walk (s t : ByteArray) (W : World) (_ : Env W) (hs : s.size ≤ 140737488355328) (ht : t.size ≤ 140737488355328) : Calls Tryd.prog 5 #[.string s, .string t] W fun e w' => e = .returned (.bool true) ∧ Below W.heap.size W w' := by
  have HA : Hid (∀ W, Calls Tryd.prog 10 #[] W fun e w' => e = .returned (.bool true) ∧ Keeps nobody W w') := alive_ok
  by_cases hl : s.size + t.size ≤ 100
  · refine names_arm s t W (nameB s) (nameB t) s.toList.isEmpty t.toList.isEmpty ⟨name_fit s, name_fit t⟩ hl rfl rfl ?_ HA (fun W => name_ok s W hs) (fun W => name_ok t W ht) (fun W => ?_) (fun W => ?_) (fun W => ?_)
    · rw [isEmpty_size, isEmpty_size, isEmpty_size, ByteArray.size_append, Bool.eq_iff_iff]
      simp
    · have := name_ok (s ++ t) W (by rw [ByteArray.size_append]; omega)
      have e : (s ++ t).toList.isEmpty = (s.toList.isEmpty && t.toList.isEmpty) := by
        rw [isEmpty_size, isEmpty_size, isEmpty_size, ByteArray.size_append, Bool.eq_iff_iff]
        simp
      rwa [name_cat, e] at this
    · have := name_ok (s ++ ⟨#[58]⟩ ++ t) W (by rw [ByteArray.size_append, ByteArray.size_append, show (⟨#[58]⟩ : ByteArray).size = 1 from rfl]; omega)
      rwa [name_bad s t 58 rfl] at this
    · have := name_ok (s ++ ⟨#[65]⟩ ++ t) W (by rw [ByteArray.size_append, ByteArray.size_append, show (⟨#[65]⟩ : ByteArray).size = 1 from rfl]; omega)
      rwa [name_bad s t 65 rfl] at this
  · go_enter Tryd.func5, Tryd.ntmps5
    go_wp2_with fail
    refine Calls.mono (HA.out _) ?_
    rintro e w1 ⟨rfl, k1⟩
    go_wp2
    go_ret
    exact ⟨rfl, below_of_keeps k1⟩
end Go.Proofs.YtladdbppkepphaaDoor
