/-
  The law FrameBounds as a walk.
-/
import Derived.Test.YtgfcllabhpioiaaDoorRAlive
import Derived.Test.YtgfcllabhpioiaaDoorGDoor
namespace Go.Proofs.YtgfcllabhpioiaaDoor
open Go.RowKit
attribute [local irreducible] putA right

abbrev frobj (k fl id : Int) (b : ByteArray) : Obj := .cells #[.int .i64 k, .int .i64 fl, .int .i64 id, .string b] 23
theorem Keeps.four {W w : World} {k fl id : Int} {b : ByteArray} (h : Keeps nobody (W.alloc (frobj k fl id b)) w) : w.cell? ⟨W.heap.size, 0, none⟩ = some (.int .i64 k) ∧ w.cell? ⟨W.heap.size, 1, none⟩ = some (.int .i64 fl) ∧ w.cell? ⟨W.heap.size, 2, none⟩ = some (.int .i64 id) ∧ w.cell? ⟨W.heap.size, 3, none⟩ = some (.string b) := by
  have hc : ∀ o, w.cell? ⟨W.heap.size, o, none⟩ = (W.alloc (frobj k fl id b)).cell? ⟨W.heap.size, o, none⟩ := fun o => h.cell (by simp) (fun h => h)
  exact ⟨(hc 0).trans (by simp), (hc 1).trans (by simp), (hc 2).trans (by simp), (hc 3).trans (by simp)⟩

set_option maxRecDepth 100000 in
theorem bounds_yes (k fl id : Int) (W : World) (hE : Env W) (h1 : 0 ≤ k) (h2 : k ≤ 255) (h3 : 0 ≤ fl) (h4 : fl ≤ 255) (h5 : 0 ≤ id) (h6 : id ≤ 2147483647) : Calls Tryd.prog 7 #[.int .i64 k, .int .i64 fl, .int .i64 id] W (Fine W) := by
  have hr : right ⟨k, fl, id, ⟨#[120]⟩⟩ := by unfold right; exact ⟨⟨h1, h2⟩, ⟨h3, h4⟩, ⟨h5, h6⟩, show (⟨#[120]⟩ : ByteArray).size ≤ 16777215 by decide⟩
  have hs : (putA ⟨k, fl, id, ⟨#[120]⟩⟩).size = 10 := put_size _ hr
  have HA : Hid (∀ w, Keeps nobody W w → Calls Tryd.prog 9 #[] w fun e w' => e = .returned (.bool true) ∧ Keeps nobody w w') := fun w hw => alive_ok w (hE.quiet hw)
  have HP : Hid (∀ w, Calls Tryd.prog 10 #[.agg #[.int .i64 k, .int .i64 fl, .int .i64 id, .string ⟨#[120]⟩]] w fun e w' => e = .returned (.tuple #[.string (putA ⟨k, fl, id, ⟨#[120]⟩⟩), .bool true]) ∧ Keeps nobody w w') := fun w => by
    have := put_ok ⟨k, fl, id, ⟨#[120]⟩⟩ w
    rwa [decide_eq_true hr] at this
  have HR : Hid (∀ w, Calls Tryd.prog 16 #[.agg #[.int .i64 k, .int .i64 fl, .int .i64 id, .string ⟨#[120]⟩]] w fun e w' => e = .returned (.bool true) ∧ Keeps nobody w w') := fun w => by
    have := right_ok ⟨k, fl, id, ⟨#[120]⟩⟩ w
    rwa [decide_eq_true hr] at this
  clear hE hr
  generalize putA ⟨k, fl, id, ⟨#[120]⟩⟩ = X at *
  have hb : (id ≤ 2147483647) = True := by simp; omega
  go_enter Tryd.func7, Tryd.ntmps7
  go_wp2_with fail
  refine Calls.mono (HA.out _ (Keeps.refl _ _)) ?_
  rintro e w1 ⟨rfl, k1⟩
  go_wp2_with fail
  refine Calls.mono (HP.out _) ?_
  rintro e w2 ⟨rfl, k2⟩
  have hc := k2.four
  go_wp2_with fail
  refine Calls.mono (HR.out _) ?_
  rintro e w3 ⟨rfl, k3⟩
  have kk := ((k1.alloc _).then k2).then k3
  clear k1 k2 k3 hc HP HR HA
  go_wp2
  go_ret
  exact ⟨rfl, below_of_keeps kk⟩

set_option maxRecDepth 100000 in
theorem bounds_no0 (k fl id : Int) (W : World) (HA : Hid (∀ w, Keeps nobody W w → Calls Tryd.prog 9 #[] w fun e w' => e = .returned (.bool true) ∧ Keeps nobody w w'))
    (HP : Hid (∀ w, Calls Tryd.prog 10 #[.agg #[.int .i64 k, .int .i64 fl, .int .i64 id, .string ⟨#[120]⟩]] w fun e w' => e = .returned (.tuple #[.string ⟨#[]⟩, .bool false]) ∧ Keeps nobody w w'))
    (HR : Hid (∀ w, Calls Tryd.prog 16 #[.agg #[.int .i64 k, .int .i64 fl, .int .i64 id, .string ⟨#[120]⟩]] w fun e w' => e = .returned (.bool false) ∧ Keeps nobody w w'))  (bad : k < 0) : Calls Tryd.prog 7 #[.int .i64 k, .int .i64 fl, .int .i64 id] W (Fine W) := by
  go_enter Tryd.func7, Tryd.ntmps7
  go_wp2_with fail
  refine Calls.mono (HA.out _ (Keeps.refl _ _)) ?_
  rintro e w1 ⟨rfl, k1⟩
  go_wp2_with fail
  refine Calls.mono (HP.out _) ?_
  rintro e w2 ⟨rfl, k2⟩
  have hc := k2.four
  go_wp2_with fail
  refine Calls.mono (HR.out _) ?_
  rintro e w3 ⟨rfl, k3⟩
  have kk := ((k1.alloc _).then k2).then k3
  clear k1 k2 k3 hc HP HR HA
  go_wp2
  go_ret
  exact ⟨rfl, below_of_keeps kk⟩

set_option maxRecDepth 100000 in
theorem bounds_no1 (k fl id : Int) (W : World) (HA : Hid (∀ w, Keeps nobody W w → Calls Tryd.prog 9 #[] w fun e w' => e = .returned (.bool true) ∧ Keeps nobody w w'))
    (HP : Hid (∀ w, Calls Tryd.prog 10 #[.agg #[.int .i64 k, .int .i64 fl, .int .i64 id, .string ⟨#[120]⟩]] w fun e w' => e = .returned (.tuple #[.string ⟨#[]⟩, .bool false]) ∧ Keeps nobody w w'))
    (HR : Hid (∀ w, Calls Tryd.prog 16 #[.agg #[.int .i64 k, .int .i64 fl, .int .i64 id, .string ⟨#[120]⟩]] w fun e w' => e = .returned (.bool false) ∧ Keeps nobody w w')) (g0 : 0 ≤ k) (bad : 255 < k) : Calls Tryd.prog 7 #[.int .i64 k, .int .i64 fl, .int .i64 id] W (Fine W) := by
  go_enter Tryd.func7, Tryd.ntmps7
  go_wp2_with fail
  refine Calls.mono (HA.out _ (Keeps.refl _ _)) ?_
  rintro e w1 ⟨rfl, k1⟩
  go_wp2_with fail
  refine Calls.mono (HP.out _) ?_
  rintro e w2 ⟨rfl, k2⟩
  have hc := k2.four
  go_wp2_with fail
  refine Calls.mono (HR.out _) ?_
  rintro e w3 ⟨rfl, k3⟩
  have kk := ((k1.alloc _).then k2).then k3
  clear k1 k2 k3 hc HP HR HA
  go_wp2
  go_ret
  exact ⟨rfl, below_of_keeps kk⟩

set_option maxRecDepth 100000 in
theorem bounds_no2 (k fl id : Int) (W : World) (HA : Hid (∀ w, Keeps nobody W w → Calls Tryd.prog 9 #[] w fun e w' => e = .returned (.bool true) ∧ Keeps nobody w w'))
    (HP : Hid (∀ w, Calls Tryd.prog 10 #[.agg #[.int .i64 k, .int .i64 fl, .int .i64 id, .string ⟨#[120]⟩]] w fun e w' => e = .returned (.tuple #[.string ⟨#[]⟩, .bool false]) ∧ Keeps nobody w w'))
    (HR : Hid (∀ w, Calls Tryd.prog 16 #[.agg #[.int .i64 k, .int .i64 fl, .int .i64 id, .string ⟨#[120]⟩]] w fun e w' => e = .returned (.bool false) ∧ Keeps nobody w w')) (g0 : 0 ≤ k) (g1 : k ≤ 255) (bad : fl < 0) : Calls Tryd.prog 7 #[.int .i64 k, .int .i64 fl, .int .i64 id] W (Fine W) := by
  go_enter Tryd.func7, Tryd.ntmps7
  go_wp2_with fail
  refine Calls.mono (HA.out _ (Keeps.refl _ _)) ?_
  rintro e w1 ⟨rfl, k1⟩
  go_wp2_with fail
  refine Calls.mono (HP.out _) ?_
  rintro e w2 ⟨rfl, k2⟩
  have hc := k2.four
  go_wp2_with fail
  refine Calls.mono (HR.out _) ?_
  rintro e w3 ⟨rfl, k3⟩
  have kk := ((k1.alloc _).then k2).then k3
  clear k1 k2 k3 hc HP HR HA
  go_wp2
  go_ret
  exact ⟨rfl, below_of_keeps kk⟩

set_option maxRecDepth 100000 in
theorem bounds_no3 (k fl id : Int) (W : World) (HA : Hid (∀ w, Keeps nobody W w → Calls Tryd.prog 9 #[] w fun e w' => e = .returned (.bool true) ∧ Keeps nobody w w'))
    (HP : Hid (∀ w, Calls Tryd.prog 10 #[.agg #[.int .i64 k, .int .i64 fl, .int .i64 id, .string ⟨#[120]⟩]] w fun e w' => e = .returned (.tuple #[.string ⟨#[]⟩, .bool false]) ∧ Keeps nobody w w'))
    (HR : Hid (∀ w, Calls Tryd.prog 16 #[.agg #[.int .i64 k, .int .i64 fl, .int .i64 id, .string ⟨#[120]⟩]] w fun e w' => e = .returned (.bool false) ∧ Keeps nobody w w')) (g0 : 0 ≤ k) (g1 : k ≤ 255) (g2 : 0 ≤ fl) (bad : 255 < fl) : Calls Tryd.prog 7 #[.int .i64 k, .int .i64 fl, .int .i64 id] W (Fine W) := by
  go_enter Tryd.func7, Tryd.ntmps7
  go_wp2_with fail
  refine Calls.mono (HA.out _ (Keeps.refl _ _)) ?_
  rintro e w1 ⟨rfl, k1⟩
  go_wp2_with fail
  refine Calls.mono (HP.out _) ?_
  rintro e w2 ⟨rfl, k2⟩
  have hc := k2.four
  go_wp2_with fail
  refine Calls.mono (HR.out _) ?_
  rintro e w3 ⟨rfl, k3⟩
  have kk := ((k1.alloc _).then k2).then k3
  clear k1 k2 k3 hc HP HR HA
  go_wp2
  go_ret
  exact ⟨rfl, below_of_keeps kk⟩

set_option maxRecDepth 100000 in
theorem bounds_no4 (k fl id : Int) (W : World) (HA : Hid (∀ w, Keeps nobody W w → Calls Tryd.prog 9 #[] w fun e w' => e = .returned (.bool true) ∧ Keeps nobody w w'))
    (HP : Hid (∀ w, Calls Tryd.prog 10 #[.agg #[.int .i64 k, .int .i64 fl, .int .i64 id, .string ⟨#[120]⟩]] w fun e w' => e = .returned (.tuple #[.string ⟨#[]⟩, .bool false]) ∧ Keeps nobody w w'))
    (HR : Hid (∀ w, Calls Tryd.prog 16 #[.agg #[.int .i64 k, .int .i64 fl, .int .i64 id, .string ⟨#[120]⟩]] w fun e w' => e = .returned (.bool false) ∧ Keeps nobody w w')) (g0 : 0 ≤ k) (g1 : k ≤ 255) (g2 : 0 ≤ fl) (g3 : fl ≤ 255) (bad : id < 0) : Calls Tryd.prog 7 #[.int .i64 k, .int .i64 fl, .int .i64 id] W (Fine W) := by
  go_enter Tryd.func7, Tryd.ntmps7
  go_wp2_with fail
  refine Calls.mono (HA.out _ (Keeps.refl _ _)) ?_
  rintro e w1 ⟨rfl, k1⟩
  go_wp2_with fail
  refine Calls.mono (HP.out _) ?_
  rintro e w2 ⟨rfl, k2⟩
  have hc := k2.four
  go_wp2_with fail
  refine Calls.mono (HR.out _) ?_
  rintro e w3 ⟨rfl, k3⟩
  have kk := ((k1.alloc _).then k2).then k3
  clear k1 k2 k3 hc HP HR HA
  go_wp2
  go_ret
  exact ⟨rfl, below_of_keeps kk⟩

set_option maxRecDepth 100000 in
theorem bounds_no5 (k fl id : Int) (W : World) (HA : Hid (∀ w, Keeps nobody W w → Calls Tryd.prog 9 #[] w fun e w' => e = .returned (.bool true) ∧ Keeps nobody w w'))
    (HP : Hid (∀ w, Calls Tryd.prog 10 #[.agg #[.int .i64 k, .int .i64 fl, .int .i64 id, .string ⟨#[120]⟩]] w fun e w' => e = .returned (.tuple #[.string ⟨#[]⟩, .bool false]) ∧ Keeps nobody w w'))
    (HR : Hid (∀ w, Calls Tryd.prog 16 #[.agg #[.int .i64 k, .int .i64 fl, .int .i64 id, .string ⟨#[120]⟩]] w fun e w' => e = .returned (.bool false) ∧ Keeps nobody w w')) (g0 : 0 ≤ k) (g1 : k ≤ 255) (g2 : 0 ≤ fl) (g3 : fl ≤ 255) (g4 : 0 ≤ id) (bad : 2147483647 < id) : Calls Tryd.prog 7 #[.int .i64 k, .int .i64 fl, .int .i64 id] W (Fine W) := by
  have hb : (id ≤ 2147483647) = False := by simp; omega
  go_enter Tryd.func7, Tryd.ntmps7
  go_wp2_with fail
  refine Calls.mono (HA.out _ (Keeps.refl _ _)) ?_
  rintro e w1 ⟨rfl, k1⟩
  go_wp2_with fail
  refine Calls.mono (HP.out _) ?_
  rintro e w2 ⟨rfl, k2⟩
  have hc := k2.four
  go_wp2_with fail
  refine Calls.mono (HR.out _) ?_
  rintro e w3 ⟨rfl, k3⟩
  have kk := ((k1.alloc _).then k2).then k3
  clear k1 k2 k3 hc HP HR HA
  go_wp2
  go_ret
  exact ⟨rfl, below_of_keeps kk⟩

theorem bounds_true (k fl id : Int) (W : World) (hE : Env W) : Calls Tryd.prog 7 #[.int .i64 k, .int .i64 fl, .int .i64 id] W (Fine W) := by
  by_cases h : (0 ≤ k ∧ k ≤ 255) ∧ (0 ≤ fl ∧ fl ≤ 255) ∧ (0 ≤ id ∧ id ≤ 2147483647)
  · exact bounds_yes k fl id W hE h.1.1 h.1.2 h.2.1.1 h.2.1.2 h.2.2.1 h.2.2.2
  · have hr : ¬ right ⟨k, fl, id, ⟨#[120]⟩⟩ := by unfold right; exact fun g => h ⟨g.1, g.2.1, g.2.2.1⟩
    have HA : Hid (∀ w, Keeps nobody W w → Calls Tryd.prog 9 #[] w fun e w' => e = .returned (.bool true) ∧ Keeps nobody w w') := fun w hw => alive_ok w (hE.quiet hw)
    have HP : Hid (∀ w, Calls Tryd.prog 10 #[.agg #[.int .i64 k, .int .i64 fl, .int .i64 id, .string ⟨#[120]⟩]] w fun e w' => e = .returned (.tuple #[.string ⟨#[]⟩, .bool false]) ∧ Keeps nobody w w') := fun w => by
      have := put_ok ⟨k, fl, id, ⟨#[120]⟩⟩ w
      rwa [decide_eq_false hr, putA, if_neg hr] at this
    have HR : Hid (∀ w, Calls Tryd.prog 16 #[.agg #[.int .i64 k, .int .i64 fl, .int .i64 id, .string ⟨#[120]⟩]] w fun e w' => e = .returned (.bool false) ∧ Keeps nobody w w') := fun w => by
      have := right_ok ⟨k, fl, id, ⟨#[120]⟩⟩ w
      rwa [decide_eq_false hr] at this
    by_cases h1 : 0 ≤ k
    · by_cases h2 : k ≤ 255
      · by_cases h3 : 0 ≤ fl
        · by_cases h4 : fl ≤ 255
          · by_cases h5 : 0 ≤ id
            · exact bounds_no5 k fl id W HA HP HR h1 h2 h3 h4 h5 (by omega)
            · exact bounds_no4 k fl id W HA HP HR h1 h2 h3 h4 (by omega)
          · exact bounds_no3 k fl id W HA HP HR h1 h2 h3 (by omega)
        · exact bounds_no2 k fl id W HA HP HR h1 h2 (by omega)
      · exact bounds_no1 k fl id W HA HP HR h1 (by omega)
    · exact bounds_no0 k fl id W HA HP HR (by omega)
end Go.Proofs.YtgfcllabhpioiaaDoor
