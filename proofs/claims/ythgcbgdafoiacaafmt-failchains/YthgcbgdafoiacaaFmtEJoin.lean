/-
  errors.Join of an error and one more, that may be nil.
-/
import Derived.Test.YthgcbgdafoiacaaFmtESays
namespace Go.Proofs.YthgcbgdafoiacaaFmt
open Go.RowKit Go.Extern.Stop Go.Stop Go.Extern

theorem make_one (w : World) : (Instr.makeSlice 49 (.int .i64 0) (.int .i64 1)).run Tryf.prog w = .ok (.slice (some ⟨w.heap.size, 0, none⟩) 0 1) (w.alloc (.cells #[.nilIface] 26)) := by kernel_rfl
theorem make_two (w : World) : (Instr.makeSlice 49 (.int .i64 0) (.int .i64 2)).run Tryf.prog w = .ok (.slice (some ⟨w.heap.size, 0, none⟩) 0 2) (w.alloc (.cells #[.nilIface, .nilIface] 26)) := by kernel_rfl
theorem infoE : (Tryf.prog.info? 26).map (fun i => i.size) = some 1 := by kernel_rfl
/-- append of one error where there is room. -/
theorem app_room (W : World) (g s j n : Nat) (T : Nat) (x : Value) (hs : W.cell? ⟨s, 0, none⟩ = some (.iface T x)) (hc : (W.cell? ⟨g, j, none⟩).isSome = true) (hf : W.frozen? ⟨g, j, none⟩ = false) (hj : j + 1 ≤ n) (ty : TypeId) :
    (Builtin.append_ #[49, 49] ty #[.slice (some ⟨g, 0, none⟩) j n, .slice (some ⟨s, 0, none⟩) 1 1]).run Tryf.prog W = .ok (.slice (some ⟨g, 0, none⟩) (j + 1) n) (W.setCell ⟨g, j, none⟩ (.iface T x)) := by
  obtain ⟨i, hi, hi1⟩ := Option.map_eq_some_iff.1 infoE
  have hsrc : Src Tryf.prog i.size 49 (.slice (some ⟨s, 0, none⟩) 1 1) 1 [.iface T x] W := by
    rw [hi1]
    refine Src.ofSlice W Tryf.underlying49 ⟨s, 0, none⟩ 1 1 [.iface T x] rfl (fun k u hk => ?_) (fun u hu => by simp at hu; subst hu; rfl)
    match k, hk with
    | 0, hk => simp at hk; subst hk; rw [Addr.add_mid]; exact hs
  have := run_append_room_src (P := Tryf.prog) W 49 49 ty 26 i Tryf.underlying49 hi g 0 j n (.slice (some ⟨s, 0, none⟩) 1 1) 1 [.iface T x] hsrc hj
    (fun k hk => by
      have : k = 0 := by simpa using hk
      subst this
      rw [hi1]
      simpa using hc)
    (fun k hk => by
      have : k = 0 := by simpa using hk
      subst this
      rw [hi1]
      simpa using hf)
  rw [hi1] at this
  simpa [World.setCells] using this

theorem heap3a (w : World) (o1 o2 o3 : Obj) : (((w.alloc o1).alloc o2).alloc o3).heap[w.heap.size]? = some o1 := by
  rw [Below.heap_alloc _ _ _ (by simp; omega), Below.heap_alloc _ _ _ (by simp)]
  exact heap_alloc_new w o1
theorem heap3b (w : World) (o1 o2 o3 : Obj) : (((w.alloc o1).alloc o2).alloc o3).heap[w.heap.size + 1]? = some o2 := by
  rw [Below.heap_alloc _ _ _ (by simp)]
  have := heap_alloc_new (w.alloc o1) o2
  simpa using this
theorem heap3c (w : World) (o1 o2 o3 : Obj) : (((w.alloc o1).alloc o2).alloc o3).heap[w.heap.size + 1 + 1]? = some o3 := by
  have := heap_alloc_new ((w.alloc o1).alloc o2) o3
  simpa using this
set_option maxRecDepth 100000 in
set_option maxHeartbeats 2000000 in
theorem join_one (g T : Nat) (x : Value) (w : World) (h0 : w.cell? ⟨g, 0, none⟩ = some (.iface T x)) (h1 : w.cell? ⟨g, 1, none⟩ = some .nilIface) :
    Calls Tryf.prog 10 #[.slice (some ⟨g, 0, none⟩) 2 2] w fun e w' => ∃ b g', e = .returned (jnV b) ∧ w'.heap[b]? = some (jnObj g' 1) ∧ w'.heap[g']? = some (.cells #[.iface T x] 26 (0, 0)) ∧ Keeps nobody w w' := by
  have hm := make_one
  have hgl := lt_of_cell h0
  simp only at hgl
  have k3 : ∀ o1 o2, Keeps nobody w ((w.alloc o1).alloc o2) := fun o1 o2 => (keeps_alloc _ _).alloc _
  have d0 := fun o1 o2 => ((k3 o1 o2).cell (p := ⟨g, 0, none⟩) hgl id).trans h0
  have d1 := fun o1 o2 o3 => (((k3 o1 o2).alloc o3).cell (p := ⟨g, 1, none⟩) hgl id).trans h1
  go_enter Tryf.func10, Tryf.ntmps10
  go_wp2_with fail
  refine wp_loop_rounds 3 ?_
  rw [rounds_succ]
  go_wp2_with fail
  rw [rounds_succ]
  go_wp2_with fail
  rw [rounds_succ]
  go_wp2_with fail
  refine wp_loop_rounds 3 ?_
  rw [rounds_succ]
  have hap := app_room (((w.alloc (.cells #[.nilIface] 26)).alloc (.cells #[.slice (some ⟨w.heap.size, 0, none⟩) 0 1] 52)).alloc (.cells #[.iface T x] 26)) w.heap.size (w.heap.size + 1 + 1) 0 1 T x (cells_of (heap3c w _ _ _) 0 _ rfl) (by rw [cells_of (heap3a w _ _ _) 0 _ rfl]; rfl) (thaw (heap3a w _ _ _) 0) (by omega) 49
  go_wp2_with (at_builtin; refine wpList_append_run rfl _ _ _ _ rfl (.slice (some ⟨w.heap.size, 0, none⟩) 0 1) (.slice (some ⟨w.heap.size + 1 + 1, 0, none⟩) 1 1) rfl rfl hap ?_)
  go_wp2_with fail
  rw [rounds_succ]
  go_wp2_with fail
  rw [rounds_succ]
  go_wp2_with fail
  go_ret
  exact ⟨_, _, rfl, heap3b w _ _ _, heap3a w _ _ _, ((keeps_alloc _ _).alloc _).alloc _⟩

theorem heap4a (w : World) (o1 o2 o3 o4 : Obj) : ((((w.alloc o1).alloc o2).alloc o3).alloc o4).heap[w.heap.size]? = some o1 := by
  rw [Below.heap_alloc _ _ _ (by simp; omega)]
  exact heap3a w o1 o2 o3
theorem heap4b (w : World) (o1 o2 o3 o4 : Obj) : ((((w.alloc o1).alloc o2).alloc o3).alloc o4).heap[w.heap.size + 1]? = some o2 := by
  rw [Below.heap_alloc _ _ _ (by simp)]
  exact heap3b w o1 o2 o3
theorem heap4d (w : World) (o1 o2 o3 o4 : Obj) : ((((w.alloc o1).alloc o2).alloc o3).alloc o4).heap[w.heap.size + 1 + 1 + 1]? = some o4 := by
  have := heap_alloc_new (((w.alloc o1).alloc o2).alloc o3) o4
  simpa using this
set_option maxRecDepth 100000 in
set_option maxHeartbeats 2000000 in
theorem join_two (g T T2 : Nat) (x x2 : Value) (w : World) (h0 : w.cell? ⟨g, 0, none⟩ = some (.iface T x)) (h1 : w.cell? ⟨g, 1, none⟩ = some (.iface T2 x2)) :
    Calls Tryf.prog 10 #[.slice (some ⟨g, 0, none⟩) 2 2] w fun e w' => ∃ b g', e = .returned (jnV b) ∧ w'.heap[b]? = some (jnObj g' 2) ∧ w'.heap[g']? = some (.cells #[.iface T x, .iface T2 x2] 26 (0, 0)) ∧ Keeps nobody w w' := by
  have hm := make_two
  have hgl := lt_of_cell h0
  simp only at hgl
  have k3 : ∀ o1 o2, Keeps nobody w ((w.alloc o1).alloc o2) := fun o1 o2 => (keeps_alloc _ _).alloc _
  have d0 := fun o1 o2 => ((k3 o1 o2).cell (p := ⟨g, 0, none⟩) hgl id).trans h0
  have d1 := fun o1 o2 o3 => (((k3 o1 o2).alloc o3).cell (p := ⟨g, 1, none⟩) hgl id).trans h1
  go_enter Tryf.func10, Tryf.ntmps10
  go_wp2_with fail
  refine wp_loop_rounds 3 ?_
  rw [rounds_succ]
  go_wp2_with fail
  rw [rounds_succ]
  go_wp2_with fail
  rw [rounds_succ]
  go_wp2_with fail
  refine wp_loop_rounds 3 ?_
  rw [rounds_succ]
  have hap := app_room (((w.alloc (.cells #[.nilIface, .nilIface] 26)).alloc (.cells #[.slice (some ⟨w.heap.size, 0, none⟩) 0 2] 52)).alloc (.cells #[.iface T x] 26)) w.heap.size (w.heap.size + 1 + 1) 0 2 T x (cells_of (heap3c w _ _ _) 0 _ rfl) (by rw [cells_of (heap3a w _ _ _) 0 _ rfl]; rfl) (thaw (heap3a w _ _ _) 0) (by omega) 49
  go_wp2_with (at_builtin; refine wpList_append_run rfl _ _ _ _ rfl (.slice (some ⟨w.heap.size, 0, none⟩) 0 2) (.slice (some ⟨w.heap.size + 1 + 1, 0, none⟩) 1 1) rfl rfl hap ?_)
  go_wp2_with fail
  clear hap
  rw [rounds_succ]
  have hap := app_room ((((w.alloc (.cells #[.iface T x, .nilIface] 26)).alloc (.cells #[.slice (some ⟨w.heap.size, 0, none⟩) 1 2] 52)).alloc (.cells #[.iface T x] 26)).alloc (.cells #[.iface T2 x2] 26)) w.heap.size (w.heap.size + 1 + 1 + 1) 1 2 T2 x2 (cells_of (heap4d w _ _ _ _) 0 _ rfl) (by rw [cells_of (heap4a w _ _ _ _) 1 _ rfl]; rfl) (thaw (heap4a w _ _ _ _) 1) (by omega) 49
  go_wp2_with (at_builtin; refine wpList_append_run rfl _ _ _ _ rfl (.slice (some ⟨w.heap.size, 0, none⟩) 1 2) (.slice (some ⟨w.heap.size + 1 + 1 + 1, 0, none⟩) 1 1) rfl rfl hap ?_)
  go_wp2_with fail
  rw [rounds_succ]
  go_wp2_with fail
  go_ret
  exact ⟨_, _, rfl, heap4b w _ _ _ _, heap4a w _ _ _ _, (((keeps_alloc _ _).alloc _).alloc _).alloc _⟩
end Go.Proofs.YthgcbgdafoiacaaFmt
