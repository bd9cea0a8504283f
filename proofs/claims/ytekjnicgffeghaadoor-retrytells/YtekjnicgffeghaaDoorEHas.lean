/-
  errors.Is, package fail's Has, errors.Unwrap, package fail's below.
-/
import Derived.Test.YtekjnicgffeghaaDoorEIs
namespace Go.Proofs.YtekjnicgffeghaaDoor
open Go.RowKit Go.Extern.Stop Go.Stop Go.Extern

theorem errorsIs_nil (tb : Nat) (w : World) :
    Calls Tryd.prog 17 #[.nilIface, flV tb] w fun e w' => e = .returned (.bool false) ∧ w = w' := by
  have hn := run_eql_iface_nil_left (P := Tryd.prog) w 30 (.pointer (some ⟨tb, 0, none⟩)) Tryd.underlying27
  go_enter Tryd.func17, Tryd.ntmps17
  go_wp2
  go_ret
  exact ⟨rfl, rfl⟩
theorem errorsIs_ok (q : Int) (hq : (q != 0) = true) (t : Er) (v : Value) (w0 w : World) (tb : Nat) (hn : t.isNil = false) (hE : Err w0 v t) (hk : Keeps nobody w0 w) (htb : w0.heap.size ≤ tb) (ht : w.heap[tb]? = some (flObj ⟨#[]⟩ q .nilIface)) :
    Calls Tryd.prog 17 #[v, flV tb] w fun e w' => e = .returned (.bool (t.has q)) ∧ Keeps nobody w w' := by
  have HC := hid (is_ok q hq t.deep t v w0 w tb (Nat.le_refl _) hn hE hk htb ht)
  have h8 := hTO
  have tT := typeOfFl
  have cT := comparableP
  have mR := methodComparable
  obtain ⟨T, x, rfl⟩ := hE.some hn
  clear hE ht
  go_enter Tryd.func17, Tryd.ntmps17
  go_wp2_with fail
  refine Calls.mono HC.out ?_
  rintro e w' ⟨rfl, hB⟩
  go_wp2
  go_ret
  exact ⟨rfl, hB⟩
theorem has_idle (p : Addr) (w : World) :
    CallsD Tryd.prog 26 #[.pointer (some p)] .returning w fun e u' w' => e = .returned (.tuple #[]) ∧ u' = .returning ∧ w' = w := by
  refine callsD_of_wpS Tryd.func26 rfl fun c₀ cs hu => ?_
  apply wpS_seq
  apply wpS_region
  simp [wpOpsS, go_sem, recoverD, hu, Tryd.ntmps26, Exit.thenS]
  refine wpS_cond (t := false) (by simp [Act.eval, Array.replicate]) ?_
  simp only [Bool.false_eq_true, if_false]
  refine wpS_of_wp (wp_skip ?_)
  cases c₀
  simp_all [bodyPostS, results, Tryd.results26]
theorem has_zero (t : Er) (v : Value) (w : World) (hE : Err w v t) : Calls Tryd.prog 15 #[v, .int .i64 0] w fun e w' => e = .returned (.bool t.isNil) ∧ Keeps nobody w w' := by
  cases hn : t.isNil with
  | true =>
    cases hE with
    | nil =>
      go_enter_defers Tryd.func15, Tryd.ntmps15
      go_wp2
      simp [bodyPostD, Leaves, results, Tryd.results15, go_sem]
      exact keeps_alloc _ _
    | _ => simp [Er.isNil] at hn
  | false =>
    obtain ⟨T, x, rfl⟩ := hE.some hn
    go_enter_defers Tryd.func15, Tryd.ntmps15
    go_wp2
    simp [bodyPostD, Leaves, results, Tryd.results15, go_sem]
    exact keeps_alloc _ _
set_option maxHeartbeats 1000000 in
theorem has_some (q : Int) (hq : (q == 0) = false) (t : Er) (v : Value) (w : World) (hE : Err w v t) : Calls Tryd.prog 15 #[v, .int .i64 q] w fun e w' => e = .returned (.bool (t.has q)) ∧ Keeps nobody w w' := by
  have hmf : ∀ (fn : Fn) (first cap : Array Value) (w : World), (Instr.makeFunc fn first cap).run Tryd.prog w = .ok (.func fn first cap) w := fun _ _ _ _ => rfl
  have htn : (q != 0) = true := by simp [bne, hq]
  have HIs : Hid (∀ w2 : World, Keeps nobody w w2 → w2.heap[w.heap.size + 1]? = some (flObj ⟨#[]⟩ q .nilIface) → Calls Tryd.prog 17 #[v, flV (w.heap.size + 1)] w2 fun e w' => e = .returned (.bool (t.has q)) ∧ Keeps nobody w2 w') := by
    intro w2 hB h2
    cases hn : t.isNil with
    | true =>
      cases hE with
      | nil => exact (errorsIs_nil _ w2).mono (by rintro e w' ⟨rfl, rfl⟩; exact ⟨rfl, Keeps.refl _ _⟩)
      | _ => simp [Er.isNil] at hn
    | false => exact errorsIs_ok q htn t v w w2 _ hn hE hB (by omega) h2
  clear htn
  rcases hE.errish with rfl | ⟨u, x, rfl⟩
  all_goals
    clear hE
    go_enter_defers Tryd.func15, Tryd.ntmps15
    go_wp2_with fail
    refine (new_some q _ hq).mono ?_
    rintro e w1 ⟨rfl, rfl⟩
    go_wp2_with fail
    refine (HIs.out _ ((keeps_alloc _ _).alloc _) ?_).mono ?_
    · have := heap_alloc_new (w.alloc (.cells #[.bool false] 4)) (flObj ⟨#[]⟩ q .nilIface); simpa using this
    rintro e w2 ⟨rfl, hB⟩
    have hn1 : w2.heap[w.heap.size]? = some (.cells #[.bool false] 4 (0, 0)) := by
      rw [hB.block _ (by simp; omega) id, Below.heap_alloc _ _ _ (by simp)]; exact heap_alloc_new w _
    have c3 := cells_of hn1 0 _ rfl
    have f3 := thaw hn1 0
    have hB2 : Keeps nobody w w2 := ((keeps_alloc _ _).alloc _).then hB
    clear hn1 hB HIs
    go_wp2
    refine leaves_cons (f := 26) (args := #[.pointer (some ⟨w.heap.size, 0, none⟩)]) (by simp) (by simp [go_sem]) ?_
    refine (has_idle ⟨w.heap.size, 0, none⟩ _).mono ?_
    rintro e u' w'' ⟨rfl, rfl, rfl⟩
    refine ⟨.bool (t.has q), ?_, rfl, Keeps.setCell (p := ⟨w.heap.size, 0, none⟩) hB2 (.inr (Nat.le_refl _)) _⟩
    simp [results, Tryd.results15, go_sem, c3]

/-- What errors.Unwrap tells. -/
def Er.under : Er → Er
  | nil => nil
  | pl _ => nil
  | fl _ _ e => e
theorem Unwrap_ok (t : Er) (v : Value) (w0 : World) (hn : t.isNil = false) (hE : Err w0 v t) : ∃ v', Err w0 v' t.under ∧ ∀ w, Keeps nobody w0 w → Calls Tryd.prog 38 #[v] w fun e w' => e = .returned v' ∧ w = w' := by
  cases hE with
  | nil => simp [Er.isNil] at hn
  | @fl b op c v' e hb he =>
    refine ⟨v', he, fun w hk => ?_⟩
    have hU := fl_U1
    have mU := fl_mUnwrap
    have HC := hid (flUnwrap b op c v' w ((hk.block b (lt_of_heap hb) id).trans hb))
    clear hb he hk
    go_enter Tryd.func38, Tryd.ntmps38
    go_wp2_with fail
    refine Calls.mono HC.out ?_
    rintro e w1 ⟨rfl, rfl⟩
    go_wp2
    go_ret
    exact ⟨rfl, rfl⟩
  | @pl b m hb =>
    refine ⟨_, .nil, fun w hk => ?_⟩
    have hU := pl_U1
    clear hk
    go_enter Tryd.func38, Tryd.ntmps38
    go_wp2
    go_ret
    exact ⟨rfl, rfl⟩
theorem below_idle (p : Addr) (w : World) :
    CallsD Tryd.prog 37 #[.pointer (some p)] .returning w fun e u' w' => e = .returned (.tuple #[]) ∧ u' = .returning ∧ w' = w := by
  refine callsD_of_wpS Tryd.func37 rfl fun c₀ cs hu => ?_
  apply wpS_seq
  apply wpS_region
  simp [wpOpsS, go_sem, recoverD, hu, Tryd.ntmps37, Exit.thenS]
  refine wpS_cond (t := false) (by simp [Act.eval, Array.replicate]) ?_
  simp only [Bool.false_eq_true, if_false]
  refine wpS_of_wp (wp_skip ?_)
  cases c₀
  simp_all [bodyPostS, results, Tryd.results37]
theorem below_ok (t : Er) (v : Value) (w0 w : World) (hn : t.isNil = false) (hE : Err w0 v t) (hk : Keeps nobody w0 w) : Calls Tryd.prog 33 #[v] w fun e w' => ∃ v', e = .returned v' ∧ Err w0 v' t.under ∧ Keeps nobody w w' := by
  have hmf : ∀ (fn : Fn) (first cap : Array Value) (w : World), (Instr.makeFunc fn first cap).run Tryd.prog w = .ok (.func fn first cap) w := fun _ _ _ _ => rfl
  obtain ⟨v', hv', hC⟩ := Unwrap_ok t v w0 hn hE
  have HU : Hid (∀ o, Calls Tryd.prog 38 #[v] (w.alloc o) fun e w' => e = .returned v' ∧ w.alloc o = w') := fun o => hC _ (hk.alloc o)
  have HV := hid hv'
  obtain ⟨T, x, rfl⟩ := hE.some hn
  clear hC hE hk
  rcases hv'.errish with rfl | ⟨t', x', rfl⟩
  all_goals
    clear hv'
    go_enter_defers Tryd.func33, Tryd.ntmps33
    go_wp2_with fail
    refine Calls.mono (HU.out _) ?_
    rintro e w1 ⟨rfl, rfl⟩
    clear HU
    go_wp2
    refine leaves_cons (f := 37) (args := #[.pointer (some ⟨w.heap.size, 0, none⟩)]) (by simp) (by simp [go_sem]) ?_
    refine (below_idle ⟨w.heap.size, 0, none⟩ _).mono ?_
    rintro e u' w'' ⟨rfl, rfl, rfl⟩
    refine ⟨_, ?_, ⟨_, rfl, HV.out, keeps_alloc _ _⟩⟩
    simp [results, Tryd.results33, go_sem]
end Go.Proofs.YtekjnicgffeghaaDoor
