/-
  The law FailUnwraps as a walk.
-/
import Derived.Test.YtdlnfojohkoifaaDoorJoinedLaw
namespace Go.Proofs.YtdlnfojohkoifaaDoor
open Go.RowKit Go.Extern.Stop Go.Stop Go.Extern

set_option maxRecDepth 100000 in
set_option maxHeartbeats 2000000 in
theorem failUnwraps_short (a : Int) (op : ByteArray) (w : World) (hE : Env w) (hop : op.size ≤ maxLen) (h : (a == 0) = true ∨ (a == 0) = false ∧ 60 < op.size) :
    Calls Tryd.prog 5 #[.int .i64 a, .string op] w fun e w' => e = .returned (.bool true) ∧ Below w.heap.size w w' := by
  unfold maxLen at hop
  have HA : Hid (Calls Tryd.prog 8 #[] w fun e w' => e = .returned (.bool true) ∧ Below w.heap.size w w') := alive_true w hE
  rcases h with h | ⟨h, h3⟩
  all_goals
    go_enter Tryd.func5, Tryd.ntmps5
    go_wp2_with fail
    refine Calls.mono HA.out ?_
    rintro e w1 ⟨rfl, hB⟩
    go_wp2_with fail
    go_ret
    exact ⟨rfl, hB⟩

set_option maxRecDepth 100000 in
set_option maxHeartbeats 2000000 in
theorem failUnwraps_main (a : Int) (op : ByteArray) (w : World) (hE : Env w) (ha : (a == 0) = false) (h60 : (op.size : Int) ≤ 60) :
    Calls Tryd.prog 5 #[.int .i64 a, .string op] w fun e w' => e = .returned (.bool true) ∧ Below w.heap.size w w' := by
  go_enter Tryd.func5, Tryd.ntmps5
  go_wp2_with fail
  refine (alive_true w hE).mono ?_
  rintro e w1 ⟨rfl, hB1⟩
  have hE1 := hE.grown hB1
  go_wp2_with fail
  refine (new_some a w1 ha).mono ?_
  rintro e w2 ⟨rfl, rfl⟩
  have hB2 : Below w1.heap.size w1 (w1.alloc (.cells #[.string ⟨#[]⟩, .int .i64 a, .nilIface] 28)) := (Below.refl _ _).alloc (Nat.le_refl _) _
  have hbA : (w1.alloc (.cells #[.string ⟨#[]⟩, .int .i64 a, .nilIface] 28)).heap[w1.heap.size]? = some (.cells #[.string ⟨#[]⟩, .int .i64 a, .nilIface] 28 (0, 0)) := heap_alloc_new w1 _
  have hchA : Chain (w1.alloc (.cells #[.string ⟨#[]⟩, .int .i64 a, .nilIface] 28)) (.iface 24 (.pointer (some ⟨w1.heap.size, 0, none⟩))) [(⟨#[]⟩, a)] := .cons hbA .nil
  have hE2 := hE1.grown hB2
  generalize (w1.alloc (.cells #[.string ⟨#[]⟩, .int .i64 a, .nilIface] 28)) = w2 at *
  have hka : w.heap.size ≤ w1.heap.size := hB1.size
  generalize w1.heap.size = ka at *
  go_wp2_with fail
  refine (wrap_chain op _ _ _ _ _ hE2 hchA).mono ?_
  rintro e w3 ⟨v, rfl, hchB, hB3⟩
  have hbA3 := (hB3.block ka (lt_of_heap hbA)).trans hbA
  have hE3 := hE2.grown hB3
  have hz1 := hB1.size
  have hz2 := hB2.size
  have hz3 := hB3.size
  have hall : Below w.heap.size w w3 := (hB1.trans (hB2.mono hka)).trans (hB3.mono (by omega))
  have hz : w.heap.size ≤ w3.heap.size := by omega
  clear hB1 hB2 hB3 hbA hchA hE1 hE2 hz1 hz2 hz3 hE hka
  cases hchB with
  | @cons kb _ _ v2 _ hbB htl =>
  cases htl with
  | @cons k2 _ _ v3 _ hb2 htl2 =>
  cases htl2
  have hka := lt_of_heap hbA3
  have hkb := lt_of_heap hbB
  have hk2 := lt_of_heap hb2
  go_wp2_with fail
  refine (as_hit ⟨ka, 0, none⟩ w3.heap.size (.pointer none) _ ?_ ?_).mono ?_
  · rw [World.cell?_alloc_lt _ _ ⟨1, 0, none⟩ (by have := hE3.two; simp; omega), World.cell?_alloc_lt _ _ ⟨1, 0, none⟩ (by have := hE3.two; simp; omega)]; exact hE3.etype
  · rw [Below.heap_alloc _ _ _ (by simp)]; exact heap_alloc_new w3 _
  rintro e w4 ⟨rfl, h4, k4⟩
  have hz4 : w3.heap.size + 1 + 1 ≤ w4.heap.size := by have := k4.size; simpa using this
  have hB4 : Below w3.heap.size w3 w4 := k4.below (((Below.refl _ _).alloc (Nat.le_refl _) _).alloc (by simp) _) (by omega) (by simp; omega)
  have hE4 := hE3.grown hB4
  have g4 : w4.heap[w3.heap.size + 1]? = some (.cells #[.pointer none] 24 (0, 0)) := by
    rw [k4.block _ (by simp) (by omega)]
    have := heap_alloc_new (w3.alloc (.cells #[.pointer none] 24)) (.cells #[.pointer none] 24)
    simpa using this
  clear k4
  go_wp2_with fail
  refine (as_hit ⟨kb, 0, none⟩ (w3.heap.size + 1) (.pointer none) w4 hE4.etype g4).mono ?_
  rintro e w5 ⟨rfl, h5, k5⟩
  have f5 : w5.heap[w3.heap.size]? = some (.cells #[.pointer (some ⟨ka, 0, none⟩)] 24 (0, 0)) := by
    rw [k5.block _ (by omega) (by omega)]; exact h4
  have hB5 : Below w3.heap.size w3 w5 := k5.below hB4 (by omega) (by omega)
  have hE5 := hE3.grown hB5
  have hA5 := (hB5.block ka hka).trans hbA3
  have hB5' := (hB5.block kb hkb).trans hbB
  have h25 := (hB5.block k2 hk2).trans hb2
  clear k5 h4 g4 hB4 hE4 hz4
  have cf : w5.cell? ⟨w3.heap.size, 0, none⟩ = some (.pointer (some ⟨ka, 0, none⟩)) := by simp [World.cell?, f5]
  have cg : w5.cell? ⟨w3.heap.size + 1, 0, none⟩ = some (.pointer (some ⟨kb, 0, none⟩)) := by simp [World.cell?, h5]
  have ca0 : w5.cell? ⟨ka, 0, none⟩ = some (.string ⟨#[]⟩) := by simp [World.cell?, hA5]
  have ca2 : w5.cell? ⟨ka, 2, none⟩ = some .nilIface := by simp [World.cell?, hA5]
  have cb0 : w5.cell? ⟨kb, 0, none⟩ = some (.string op) := by simp [World.cell?, hB5']
  have cb1 : w5.cell? ⟨kb, 1, none⟩ = some (.int .i64 a) := by simp [World.cell?, hB5']
  have HA : Hid (w5.heap[ka]? = some (.cells #[.string ⟨#[]⟩, .int .i64 a, .nilIface] 28 (0, 0))) := hA5
  have HB : Hid (w5.heap[kb]? = some (.cells #[.string op, .int .i64 a, .iface 24 (.pointer (some ⟨k2, 0, none⟩))] 28 (0, 0))) := hB5'
  have H2 : Hid (w5.heap[k2]? = some (.cells #[.string ⟨#[]⟩, .int .i64 a, .nilIface] 28 (0, 0))) := h25
  clear hA5 hB5' h25 f5 h5 hbA3 hbB hb2
  go_wp2_with fail
  refine (unwrap_any ka _ _ _ w5 HA.out).mono ?_
  rintro e w6 ⟨rfl, rfl⟩
  go_wp2_with fail
  refine (unwrapE kb _ _ _ w6 HB.out).mono ?_
  rintro e w7 ⟨rfl, rfl⟩
  go_wp2_with fail
  refine (unwrap_any kb _ _ _ w7 HB.out).mono ?_
  rintro e w8 ⟨rfl, rfl⟩
  go_wp2_with fail
  refine (code_chain _ _ _ _ w8 hE5 (.cons H2.out .nil)).mono ?_
  rintro e w9 ⟨rfl, hB9⟩
  have HB9 : Hid (w9.heap[kb]? = some (.cells #[.string op, .int .i64 a, .iface 24 (.pointer (some ⟨k2, 0, none⟩))] 28 (0, 0))) := (hB9.block kb (lt_of_heap HB.out)).trans HB.out
  have H29 : Hid (w9.heap[k2]? = some (.cells #[.string ⟨#[]⟩, .int .i64 a, .nilIface] 28 (0, 0))) := (hB9.block k2 (lt_of_heap H2.out)).trans H2.out
  clear cf cg ca0 ca2 cb0 cb1
  go_wp2_with fail
  refine (unwrapE kb _ _ _ w9 HB9.out).mono ?_
  rintro e w10 ⟨rfl, rfl⟩
  go_wp2_with fail
  refine (unwrapE k2 _ _ _ w10 H29.out).mono ?_
  rintro e w11 ⟨rfl, rfl⟩
  go_wp2_with fail
  go_ret
  have z5 := hB5.size
  exact ⟨rfl, (hall.trans (hB5.mono hz)).trans (hB9.mono (by omega))⟩

theorem failUnwraps_true (a : Int) (op : ByteArray) (w : World) (hE : Env w) (hop : op.size ≤ maxLen) :
    Calls Tryd.prog 5 #[.int .i64 a, .string op] w fun e w' => e = .returned (.bool true) ∧ Below w.heap.size w w' := by
  cases ha : (a == 0)
  · by_cases h60 : 60 < op.size
    · exact failUnwraps_short a op w hE hop (.inr ⟨ha, h60⟩)
    · exact failUnwraps_main a op w hE ha (by omega)
  · exact failUnwraps_short a op w hE hop (.inl ha)
end Go.Proofs.YtdlnfojohkoifaaDoor
