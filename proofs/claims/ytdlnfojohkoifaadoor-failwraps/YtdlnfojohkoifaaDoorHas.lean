/-
  errors.Is and package fail's Has, at nil and at a chain of failures; errors.Unwrap.
-/
import Derived.Test.YtdlnfojohkoifaaDoorIsLoop
namespace Go.Proofs.YtdlnfojohkoifaaDoor
open Go.RowKit Go.Extern.Stop Go.Stop Go.Extern

theorem comparable24 (w : World) : (callFunc 67 #[.agg #[.pointer (some ⟨2, 24, none⟩)]]).run Tryd.prog w = .ok (Next.value (.bool true)) w := by kernel_rfl
theorem methodComparable (v : Value) (w : World) : (Go.method 221 80 v "Comparable").run Tryd.prog w = .ok (67, v) w := by kernel_rfl

theorem errorsIs_nil (tb : Nat) (w : World) :
    Calls Tryd.prog 21 #[.nilIface, .iface 24 (.pointer (some ⟨tb, 0, none⟩))] w fun e w' => e = .returned (.bool false) ∧ w' = w := by
  have hn := run_eql_iface_nil_left (P := Tryd.prog) w 24 (.pointer (some ⟨tb, 0, none⟩)) Tryd.underlying26
  go_enter Tryd.func21, Tryd.ntmps21
  go_wp2
  go_ret
  exact ⟨rfl, rfl⟩

theorem errorsIs_chain (v : Value) (tb : Nat) (t : Int) (l : List (ByteArray × Int)) (w0 w : World) (h : Chain w0 v l) (hne : l ≠ []) (ht0 : (t != 0) = true) (hk : Below w0.heap.size w0 w) (htb : w0.heap.size ≤ tb) (ht : w.heap[tb]? = some (.cells #[.string ⟨#[]⟩, .int .i64 t, .nilIface] 28 (0, 0))) :
    Calls Tryd.prog 21 #[v, .iface 24 (.pointer (some ⟨tb, 0, none⟩))] w fun e w' => e = .returned (.bool (hasT t l)) ∧ Below w.heap.size w w' := by
  have hc := is_chain v tb t l w0 w h hne ht0 hk htb ht
  have h8 := @run_callFunc_extern Tryd.prog 34 _ ReflectliteType.typeOf Tryd.func34 (by kernel_rfl) (by kernel_rfl) (by kernel_rfl) (by kernel_rfl)
  have tT := typeOf24
  have cT := comparable24
  have mR := methodComparable
  cases h with
  | nil => exact absurd rfl hne
  | @cons b op c v' l2 hb htail =>
  go_enter Tryd.func21, Tryd.ntmps21
  go_wp2_with fail
  refine Calls.mono hc ?_
  rintro e w' ⟨rfl, hB⟩
  go_wp2
  go_ret
  exact ⟨rfl, hB⟩

theorem has_idle (p : Addr) (w : World) :
    CallsD Tryd.prog 33 #[.pointer (some p)] .returning w fun e u' w' => e = .returned (.tuple #[]) ∧ u' = .returning ∧ w' = w := by
  refine callsD_of_wpS Tryd.func33 rfl fun c₀ cs hu => ?_
  apply wpS_seq
  apply wpS_region
  simp [wpOpsS, go_sem, recoverD, hu, Tryd.ntmps33, Exit.thenS]
  refine wpS_cond (t := false) (by simp [Act.eval, Array.replicate]) ?_
  simp only [Bool.false_eq_true, if_false]
  refine wpS_of_wp (wp_skip ?_)
  cases c₀
  simp_all [bodyPostS, results, Tryd.results33]

theorem has_ok (v : Value) (l : List (ByteArray × Int)) (w : World) (h : Chain w v l) : Calls Tryd.prog 20 #[v, .int .i64 0] w fun e w' => e = .returned (.bool l.isEmpty) ∧ Below w.heap.size w w' := by
  cases h with
  | nil =>
    go_enter_defers Tryd.func20, Tryd.ntmps20
    go_wp2
    simp [bodyPostD, Leaves, results, Tryd.results20, go_sem]
    exact (Below.refl _ _).alloc (Nat.le_refl _) _
  | cons hb ht =>
    go_enter_defers Tryd.func20, Tryd.ntmps20
    go_wp2
    simp [bodyPostD, Leaves, results, Tryd.results20, go_sem]
    exact (Below.refl _ _).alloc (Nat.le_refl _) _

set_option maxHeartbeats 1000000 in
theorem has_some (v : Value) (t : Int) (l : List (ByteArray × Int)) (w : World) (h : Chain w v l) (ht : (t == 0) = false) : Calls Tryd.prog 20 #[v, .int .i64 t] w fun e w' => e = .returned (.bool (hasT t l)) ∧ Below w.heap.size w w' := by
  have hmf : ∀ (fn : Fn) (first cap : Array Value) (w : World), (Instr.makeFunc fn first cap).run Tryd.prog w = .ok (.func fn first cap) w := fun _ _ _ _ => rfl
  have htn : (t != 0) = true := by simp [bne, ht]
  have HIs : Hid (∀ w2 : World, Below w.heap.size w w2 → w2.heap[w.heap.size + 1]? = some (.cells #[.string ⟨#[]⟩, .int .i64 t, .nilIface] 28 (0, 0)) → Calls Tryd.prog 21 #[v, .iface 24 (.pointer (some ⟨w.heap.size + 1, 0, none⟩))] w2 fun e w' => e = .returned (.bool (hasT t l)) ∧ Below w2.heap.size w2 w') := by
    intro w2 hB h2
    cases h with
    | nil => exact (errorsIs_nil _ w2).mono (by rintro e w' ⟨rfl, rfl⟩; exact ⟨rfl, Below.refl _ _⟩)
    | cons hb htl => exact errorsIs_chain _ (w.heap.size + 1) t _ w w2 (.cons hb htl) (by simp) htn hB (by omega) h2
  clear htn
  rcases h.errish with rfl | ⟨u, x, rfl⟩
  all_goals
    clear h
    go_enter_defers Tryd.func20, Tryd.ntmps20
    go_wp2_with fail
    refine (new_some t _ ht).mono ?_
    rintro e w1 ⟨rfl, rfl⟩
    go_wp2_with fail
    refine (HIs.out _ (((Below.refl _ _).alloc (Nat.le_refl _) _).alloc (by simp) _) ?_).mono ?_
    · have := heap_alloc_new (w.alloc (.cells #[.bool false] 4)) (.cells #[.string ⟨#[]⟩, .int .i64 t, .nilIface] 28); simpa using this
    rintro e w2 ⟨rfl, hB⟩
    have hz : w.heap.size + 1 + 1 ≤ w2.heap.size := by have := hB.size; simpa using this
    have hn1 : w2.heap[w.heap.size]? = some (.cells #[.bool false] 4 (0, 0)) := by
      rw [hB.block _ (by simp; omega), Below.heap_alloc _ _ _ (by simp)]; exact heap_alloc_new w _
    have c3 : w2.cell? ⟨w.heap.size, 0, none⟩ = some (.bool false) := by simp [World.cell?, hn1]
    have f3 : w2.frozen? ⟨w.heap.size, 0, none⟩ = false := by simp [World.frozen?, hn1]
    have hB2 : Below w.heap.size w w2 := (((Below.refl _ _).alloc (Nat.le_refl _) _).alloc (by simp) _).trans (hB.mono (by simp; omega))
    clear hn1 hB HIs
    go_wp2
    refine leaves_cons (f := 33) (args := #[.pointer (some ⟨w.heap.size, 0, none⟩)]) (by simp) (by simp [go_sem]) ?_
    refine (has_idle ⟨w.heap.size, 0, none⟩ _).mono ?_
    rintro e u' w'' ⟨rfl, rfl, rfl⟩
    refine ⟨.bool (hasT t l), ?_, rfl, hB2.setCell (p := ⟨w.heap.size, 0, none⟩) (Nat.le_refl _) _⟩
    simp [results, Tryd.results20, go_sem, c3]
end Go.Proofs.YtdlnfojohkoifaaDoor
