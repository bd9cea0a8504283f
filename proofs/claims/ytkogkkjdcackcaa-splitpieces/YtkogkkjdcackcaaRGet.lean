/-
  Package frame: Get.
-/
import Derived.Test.YtkogkkjdcackcaaRPut
namespace Go.Proofs.Ytkogkkjdcackcaa
open Go.RowKit
attribute [local irreducible] numL byteAt endOf idOf nums str

theorem get_short (b : ByteArray) (w : World) (h : b.size < 9) : Calls Try.prog 21 #[.string b] w fun e w' => e = .returned (getV (getA b)) ∧ Keeps nobody w w' := by
  have e : getA b = (noF, 0, 2) := by rw [getA, if_neg (by unfold whole; omega)]
  rw [e]
  clear e
  go_enter Try.func21, Try.ntmps21
  go_wp2
  exact bodyPost_ret (v := getV (noF, 0, 2)) (by simp [results, Try.results21, go_sem, getV, noF]) rfl ⟨rfl, (Keeps.refl _ _).alloc _⟩

set_option maxRecDepth 100000 in
theorem get_long (b : ByteArray) (w : World) (h : 9 ≤ b.size) (hs : b.size ≤ 140737488355328) : Calls Try.prog 21 #[.string b] w fun e w' => e = .returned (getV (getA b)) ∧ Keeps nobody w w' := by
  have h1 : (b.extract 0 3).size ≤ 4 := by rw [extract_size _ _ _ (by omega)]; omega
  have h2 : (b.extract 5 9).size ≤ 4 := by rw [extract_size _ _ _ (by omega)]; omega
  have H1 : Hid (∀ w, Calls Try.prog 25 #[.string (b.extract 0 3)] w fun e w' => e = .returned (.int .i64 (numL (nums (b.extract 0 3)) : Int)) ∧ w = w') := fun w => number_ok _ w h1
  have H2 : Hid (∀ w, Calls Try.prog 25 #[.string (b.extract 5 9)] w fun e w' => e = .returned (.int .i64 (idOf b : Int)) ∧ w = w') := fun w => by
    have := number_ok (b.extract 5 9) w h2
    rw [idOf]
    exact this
  have he : endOf b = 9 + numL (nums (b.extract 0 3)) := by rw [endOf]
  have hel := endOf_lt b
  have hil := idOf_lt b
  clear h1 h2
  by_cases hw : endOf b ≤ b.size
  · have e : getA b = (firstA b, endOf b, 0) := by rw [getA, if_pos ⟨h, hw⟩]
    rw [e, firstA]
    have hand := and_31 (idOf b) (by omega)
    have i3 : ∀ w, (Instr.index 9 (.string b) (.int .i64 3)).run Try.prog w = .ok (.int .u8 (byteAt b 3 : Int)) w := fun w => by rw [← byteAt_get b 3 (by omega)]; exact index_at b 3 (by omega) w
    have i4 : ∀ w, (Instr.index 9 (.string b) (.int .i64 4)).run Try.prog w = .ok (.int .u8 (byteAt b 4 : Int)) w := fun w => by rw [← byteAt_get b 4 (by omega)]; exact index_at b 4 (by omega) w
    have y3 := byteAt_lt b 3
    have y4 := byteAt_lt b 4
    clear e
    generalize numL (nums (b.extract 0 3)) = m at *
    have hadd : (9 : Int) + (m : Int) = (endOf b : Int) := by omega
    have h9 : 9 ≤ endOf b := by omega
    clear he
    generalize endOf b = E at *
    generalize idOf b % 2147483648 = J at *
    generalize idOf b = I at *
    generalize byteAt b 3 = Y3 at *
    generalize byteAt b 4 = Y4 at *
    have hsl : ∀ w, (Instr.slice 9 (.string b) (some (.int .i64 9)) (some (.int .i64 (E : Int))) none).run Try.prog w = .ok (.string (b.extract 9 E)) w := fun w => slice_both b 9 E h9 hw w
    go_enter Try.func21, Try.ntmps21
    go_wp2_with fail
    refine Calls.mono (H1.out _) ?_
    rintro e w1 ⟨rfl, rfl⟩
    go_wp2_with fail
    refine Calls.mono (H2.out _) ?_
    rintro e w1 ⟨rfl, rfl⟩
    go_wp2_with fail
    go_region
    all_goals
      go_wp2
      exact bodyPost_ret (v := getV (⟨(Y3 : Int), (Y4 : Int), (J : Int), b.extract 9 E⟩, E, 0)) (by simp [results, Try.results21, go_sem, getV]) rfl ⟨rfl, ((Keeps.refl _ _).alloc _).drew⟩
  · have e : getA b = (noF, 0, 2) := by rw [getA, if_neg fun h => hw h.2]
    rw [e]
    clear e
    generalize numL (nums (b.extract 0 3)) = m at *
    have hadd : (9 : Int) + (m : Int) = (endOf b : Int) := by omega
    clear he
    generalize endOf b = E at *
    go_enter Try.func21, Try.ntmps21
    go_wp2_with fail
    refine Calls.mono (H1.out _) ?_
    rintro e w1 ⟨rfl, rfl⟩
    go_wp2
    exact bodyPost_ret (v := getV (noF, 0, 2)) (by simp [results, Try.results21, go_sem, getV, noF]) rfl ⟨rfl, (Keeps.refl _ _).alloc _⟩
theorem get_ok (b : ByteArray) (w : World) (hs : b.size ≤ 140737488355328) : Calls Try.prog 21 #[.string b] w fun e w' => e = .returned (getV (getA b)) ∧ Keeps nobody w w' := by
  by_cases h : b.size < 9
  · exact get_short b w h
  · exact get_long b w (by omega) hs
end Go.Proofs.Ytkogkkjdcackcaa
