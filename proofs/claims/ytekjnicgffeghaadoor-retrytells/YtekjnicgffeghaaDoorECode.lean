/-
  errors.As; package fail's Code and Wrap.
-/
import Derived.Test.YtekjnicgffeghaaDoorEAs
namespace Go.Proofs.YtekjnicgffeghaaDoor
open Go.RowKit Go.Extern.Stop Go.Stop Go.Extern

set_option maxRecDepth 100000 in
set_option maxHeartbeats 4000000 in
theorem As_ok (t : Er) (v : Value) (w : World) (tb : Nat) (old : Value) (hEnv : Env w) (hn : t.isNil = false) (hE : Err w v t) (ht : w.heap[tb]? = some (.cells #[old] 30 (0, 0))) :
    Calls Tryd.prog 16 #[v, .iface 35 (.pointer (some ⟨tb, 0, none⟩))] w (AsPost t tb w) := by
  have hka : Keeps nobody w (w.alloc (.cells #[.pointer (some ⟨tb, 0, none⟩)] 35)) := keeps_alloc _ _
  have hkb := hka.alloc (valObj w.heap.size)
  have ha : ((w.alloc (.cells #[.pointer (some ⟨tb, 0, none⟩)] 35)).alloc (valObj w.heap.size)).heap[w.heap.size]? = some (.cells #[.pointer (some ⟨tb, 0, none⟩)] 35 (0, 0)) :=
    (Below.heap_alloc _ _ _ (by simp)).trans (heap_alloc_new w _)
  have h1 := hVO
  have h2 := hVT
  have h3 := hVN
  have h4 := hTK
  have h5 := hTE
  have h6 := hTI
  have f6 := valueOfPP
  have f7 := typePP
  have mK := methodKind
  have mE := methodElem
  have mI := methodImplements
  have k27 := kindPP
  have k25 := kindP
  have e27 := elemPP
  have i25 := implementsP
  have n8 := isNilPP ⟨w.heap.size, 0, none⟩ ⟨tb, 0, none⟩ ((w.alloc (.cells #[.pointer (some ⟨tb, 0, none⟩)] 35)).alloc (valObj w.heap.size)) (cells_of ha 0 _ rfl)
  have hg2 := (hEnv.quiet hkb).etype
  have HC : Hid (Calls Tryd.prog 30 #[v, .iface 35 (.pointer (some ⟨tb, 0, none⟩)), ppV ⟨w.heap.size, 0, none⟩, rtV 30] ((w.alloc (.cells #[.pointer (some ⟨tb, 0, none⟩)] 35)).alloc (valObj w.heap.size)) (AsPost t tb ((w.alloc (.cells #[.pointer (some ⟨tb, 0, none⟩)] 35)).alloc (valObj w.heap.size)))) :=
    as_ok t.deep t v _ w.heap.size tb old (Nat.le_refl _) hn (hE.quiet hkb) ha ((hkb.block tb (lt_of_heap ht) id).trans ht)
  have HK := hid hkb
  obtain ⟨T, x, rfl⟩ := hE.some hn
  clear hka ha hE ht hEnv hkb
  go_enter Tryd.func16, Tryd.ntmps16
  go_wp2_with fail
  refine Calls.mono HC.out ?_
  rintro e w1 (⟨c, hc, rfl, hF, kF⟩ | ⟨hc, rfl, kF⟩)
  · go_wp2_with fail
    go_ret
    exact .inl ⟨c, hc, rfl, hF, (HK.out.mono fun _ _ h => h.elim).trans kF fun _ _ h => h⟩
  · go_wp2_with fail
    go_ret
    exact .inr ⟨hc, rfl, HK.out.then kF⟩

theorem code_idle (p : Addr) (w : World) :
    CallsD Tryd.prog 25 #[.pointer (some p)] .returning w fun e u' w' => e = .returned (.tuple #[]) ∧ u' = .returning ∧ w' = w := by
  refine callsD_of_wpS Tryd.func25 rfl fun c₀ cs hu => ?_
  apply wpS_seq
  apply wpS_region
  simp [wpOpsS, go_sem, recoverD, hu, Tryd.ntmps25, Exit.thenS]
  refine wpS_cond (t := false) (by simp [Act.eval, Array.replicate]) ?_
  simp only [Bool.false_eq_true, if_false]
  refine wpS_of_wp (wp_skip ?_)
  cases c₀
  simp_all [bodyPostS, results, Tryd.results25]

theorem code_nil (w : World) : Calls Tryd.prog 14 #[.nilIface] w fun e w' => e = .returned (.int .i64 0) ∧ Keeps nobody w w' := by
  go_enter_defers Tryd.func14, Tryd.ntmps14
  go_wp2
  simp [bodyPostD, Leaves, results, Tryd.results14, go_sem]
  exact keeps_alloc _ _

/-- The code that is told. -/
def Er.code (t : Er) : Int := t.first.getD 8
set_option maxRecDepth 100000 in
set_option maxHeartbeats 1000000 in
theorem code_ok (t : Er) (v : Value) (w : World) (hEnv : Env w) (hn : t.isNil = false) (hE : Err w v t) : Calls Tryd.prog 14 #[v] w fun e w' => e = .returned (.int .i64 t.code) ∧ Keeps nobody w w' := by
  have hmf : ∀ (fn : Fn) (first cap : Array Value) (w : World), (Instr.makeFunc fn first cap).run Tryd.prog w = .ok (.func fn first cap) w := fun _ _ _ _ => rfl
  have hk1 : Keeps nobody w ((w.alloc (.cells #[.int .i64 0] 22)).alloc (.cells #[.pointer none] 30)) := (keeps_alloc _ _).alloc _
  have HA : Hid (Calls Tryd.prog 16 #[v, .iface 35 (.pointer (some ⟨w.heap.size + 1, 0, none⟩))] ((w.alloc (.cells #[.int .i64 0] 22)).alloc (.cells #[.pointer none] 30)) (AsPost t (w.heap.size + 1) ((w.alloc (.cells #[.int .i64 0] 22)).alloc (.cells #[.pointer none] 30)))) := by
    refine As_ok t v _ (w.heap.size + 1) (.pointer none) (hEnv.quiet hk1) hn (hE.quiet hk1) ?_
    have := heap_alloc_new (w.alloc (.cells #[.int .i64 0] 22)) (.cells #[.pointer none] 30)
    simpa using this
  have hr0 : ((w.alloc (.cells #[.int .i64 0] 22)).alloc (.cells #[.pointer none] 30)).heap[w.heap.size]? = some (.cells #[.int .i64 0] 22 (0, 0)) := (Below.heap_alloc _ _ _ (by simp)).trans (heap_alloc_new w _)
  have HZ : Hid (∀ (S : Nat → Prop) w1, Keeps S ((w.alloc (.cells #[.int .i64 0] 22)).alloc (.cells #[.pointer none] 30)) w1 → (∀ k, S k → k = w.heap.size + 1) → w1.cell? ⟨w.heap.size, 0, none⟩ = some (.int .i64 0) ∧ w1.frozen? ⟨w.heap.size, 0, none⟩ = false ∧ Keeps nobody w w1) := by
    intro S w1 k hS
    have h0 := (k.block w.heap.size (lt_of_heap hr0) (fun h => by have := hS _ h; omega)).trans hr0
    exact ⟨cells_of h0 0 _ rfl, thaw h0 0, hk1.trans k fun n hn h => by have := hS n h; omega⟩
  obtain ⟨T, x, rfl⟩ := hE.some hn
  clear hr0 hk1 hE hEnv
  go_enter_defers Tryd.func14, Tryd.ntmps14
  go_wp2_with fail
  refine Calls.mono HA.out ?_
  rintro e w1 (⟨c, hc, rfl, ⟨b, op, v', hF1, hF2⟩, kF⟩ | ⟨hc, rfl, kF⟩)
  · obtain ⟨c3, f3, k3⟩ := HZ.out _ w1 kF (fun _ h => h)
    have c1 := cells_of hF1 0 _ rfl
    have c2 := cells_of hF2 1 _ rfl
    have HD : Hid (t.code = c) := by show _ = _; simp [Er.code, hc]
    clear hF1 hF2 kF HZ HA hc
    go_wp2
    refine leaves_cons (f := 25) (args := #[.pointer (some ⟨w.heap.size, 0, none⟩)]) (by simp) (by simp [go_sem]) ?_
    refine (code_idle ⟨w.heap.size, 0, none⟩ _).mono ?_
    rintro e u' w'' ⟨rfl, rfl, rfl⟩
    refine ⟨.int .i64 t.code, ?_, rfl, Keeps.setCell (p := ⟨w.heap.size, 0, none⟩) k3 (.inr (Nat.le_refl _)) _⟩
    simp [results, Tryd.results14, go_sem, c3, HD.out]
  · obtain ⟨c3, f3, k3⟩ := HZ.out _ w1 kF (fun _ h => h.elim)
    have HD : Hid (t.code = 8) := by show _ = _; simp [Er.code, hc]
    clear kF HZ HA hc
    go_wp2
    refine leaves_cons (f := 25) (args := #[.pointer (some ⟨w.heap.size, 0, none⟩)]) (by simp) (by simp [go_sem]) ?_
    refine (code_idle ⟨w.heap.size, 0, none⟩ _).mono ?_
    rintro e u' w'' ⟨rfl, rfl, rfl⟩
    refine ⟨.int .i64 t.code, ?_, rfl, Keeps.setCell (p := ⟨w.heap.size, 0, none⟩) k3 (.inr (Nat.le_refl _)) _⟩
    simp [results, Tryd.results14, go_sem, c3, HD.out]

end Go.Proofs.YtekjnicgffeghaaDoor
