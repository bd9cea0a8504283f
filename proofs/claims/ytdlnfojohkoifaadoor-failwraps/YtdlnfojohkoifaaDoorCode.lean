/-
  Package fail's Code and Wrap, at nil and at a chain of failures.
-/
import Derived.Test.YtdlnfojohkoifaaDoorBase
namespace Go.Proofs.YtdlnfojohkoifaaDoor
open Go.RowKit Go.Extern.Stop Go.Stop Go.Extern

theorem code_idle (p : Addr) (w : World) :
    CallsD Tryd.prog 32 #[.pointer (some p)] .returning w fun e u' w' => e = .returned (.tuple #[]) ∧ u' = .returning ∧ w' = w := by
  refine callsD_of_wpS Tryd.func32 rfl fun c₀ cs hu => ?_
  apply wpS_seq
  apply wpS_region
  simp [wpOpsS, go_sem, recoverD, hu, Tryd.ntmps32, Exit.thenS]
  refine wpS_cond (t := false) (by simp [Act.eval, Array.replicate]) ?_
  simp only [Bool.false_eq_true, if_false]
  refine wpS_of_wp (wp_skip ?_)
  cases c₀
  simp_all [bodyPostS, results, Tryd.results32]

theorem code_nil (w : World) : Calls Tryd.prog 18 #[.nilIface] w fun e w' => e = .returned (.int .i64 0) ∧ Below w.heap.size w w' := by
  go_enter_defers Tryd.func18, Tryd.ntmps18
  go_wp2
  simp [bodyPostD, Leaves, results, Tryd.results18, go_sem]
  exact (Below.refl _ _).alloc (Nat.le_refl _) _

theorem code_chain (v : Value) (op : ByteArray) (c : Int) (l : List (ByteArray × Int)) (w : World) (hE : Env w) (h : Chain w v ((op, c) :: l)) : Calls Tryd.prog 18 #[v] w fun e w' => e = .returned (.int .i64 c) ∧ Below w.heap.size w w' := by
  have hmf : ∀ (fn : Fn) (first cap : Array Value) (w : World), (Instr.makeFunc fn first cap).run Tryd.prog w = .ok (.func fn first cap) w := fun _ _ _ _ => rfl
  cases h with
  | @cons b _ _ v' _ hb ht =>
  go_enter_defers Tryd.func18, Tryd.ntmps18
  go_wp2_with fail
  have hbl := lt_of_heap hb
  refine (as_hit ⟨b, 0, none⟩ (w.heap.size + 1) (.pointer none) _ ?_ ?_).mono ?_
  · rw [World.cell?_alloc_lt _ _ ⟨1, 0, none⟩ (by have := hE.two; simp; omega), World.cell?_alloc_lt _ _ ⟨1, 0, none⟩ (by have := hE.two; simp; omega)]; exact hE.etype
  · have := heap_alloc_new (w.alloc (.cells #[.int .i64 0] 22)) (.cells #[.pointer none] 24); simpa using this
  rintro e w1 ⟨rfl, h1, k1⟩
  have hz : w.heap.size + 1 + 1 ≤ w1.heap.size := by have := k1.size; simpa using this
  have c1 : w1.cell? ⟨w.heap.size + 1, 0, none⟩ = some (.pointer (some ⟨b, 0, none⟩)) := by simp [World.cell?, h1]
  have hb1 : w1.heap[b]? = some (.cells #[.string op, .int .i64 c, v'] 28 (0, 0)) := by
    rw [k1.block b (by simp; omega) (by omega), Below.heap_alloc _ _ b (by simp; omega), Below.heap_alloc _ _ b hbl]; exact hb
  have hn1 : w1.heap[w.heap.size]? = some (.cells #[.int .i64 0] 22 (0, 0)) := by
    rw [k1.block _ (by simp; omega) (by omega), Below.heap_alloc _ _ _ (by simp)]; exact heap_alloc_new w _
  have c2 : w1.cell? ⟨b, 1, none⟩ = some (.int .i64 c) := by simp [World.cell?, hb1]
  have c3 : w1.cell? ⟨w.heap.size, 0, none⟩ = some (.int .i64 0) := by simp [World.cell?, hn1]
  have f3 : w1.frozen? ⟨w.heap.size, 0, none⟩ = false := by simp [World.frozen?, hn1]
  have hB : Below w.heap.size w w1 := k1.below (((Below.refl _ _).alloc (Nat.le_refl _) _).alloc (by simp) _) (by omega) (by simp; omega)
  clear h1 k1 hb1 hn1
  go_wp2
  refine leaves_cons (f := 32) (args := #[.pointer (some ⟨w.heap.size, 0, none⟩)]) (by simp) (by simp [go_sem]) ?_
  refine (code_idle ⟨w.heap.size, 0, none⟩ _).mono ?_
  rintro e u' w'' ⟨rfl, rfl, rfl⟩
  refine ⟨.int .i64 c, ?_, rfl, hB.setCell (p := ⟨w.heap.size, 0, none⟩) (Nat.le_refl _) _⟩
  simp [results, Tryd.results18, go_sem, c3]

theorem wrap_nil (op : ByteArray) (w : World) : Calls Tryd.prog 19 #[.string op, .nilIface] w fun e w' => e = .returned .nilIface ∧ w' = w := by
  go_enter Tryd.func19, Tryd.ntmps19
  go_wp2_with fail
  go_ret
  exact ⟨rfl, rfl⟩

theorem wrap_chain (s : ByteArray) (v : Value) (op : ByteArray) (c : Int) (l : List (ByteArray × Int)) (w : World) (hE : Env w) (h : Chain w v ((op, c) :: l)) :
    Calls Tryd.prog 19 #[.string s, v] w fun e w' => ∃ v', e = .returned v' ∧ Chain w' v' ((s, c) :: (op, c) :: l) ∧ Below w.heap.size w w' := by
  have hc := code_chain v op c l w hE h
  have h0 := h
  cases h with
  | @cons b _ _ v' _ hb ht =>
  go_enter Tryd.func19, Tryd.ntmps19
  go_wp2_with fail
  refine hc.mono ?_
  rintro e w1 ⟨rfl, hB⟩
  go_wp2
  go_ret
  exact ⟨_, rfl, .cons (heap_alloc_new w1 _) ((h0.grown hB).kept fun k hk => Below.heap_alloc _ _ k hk), hB.alloc hB.size _⟩
end Go.Proofs.YtdlnfojohkoifaaDoor
