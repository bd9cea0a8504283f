/-
  The law FailTells as a walk; the document's own names of the codes; errors.New's errors, which are no failures.
-/
import Derived.Test.YtdlnfojohkoifaaDoorJoinedLaw
namespace Go.Proofs.YtdlnfojohkoifaaDoor
open Go.RowKit Go.Extern.Stop Go.Stop Go.Extern

/-- The reference's table, laid anew by each call. -/
def refCells : Array Value := (namesL.map fun l => Value.string ⟨l.toArray⟩).toArray
theorem refCells_at (i : Nat) (h : i < 24) : refCells[i]? = some (.string (nameAt i)) := by
  have hl : namesL.length = 24 := rfl
  unfold refCells nameAt
  rw [List.getElem?_toArray, List.getElem?_map, List.getD_eq_getElem?_getD, List.getElem?_eq_getElem (by omega)]
  rfl

set_option maxRecDepth 100000 in
set_option maxHeartbeats 2000000 in
theorem ref_code_in (c : Int) (w : World) (h0 : 0 ≤ c) (h1 : c < 24) : Calls Tryd.prog 12 #[.int .i64 c] w fun e w' => e = .returned (.string (nameOf c)) ∧ Below w.heap.size w w' := by
  have hn0 : ¬ c < 0 := by omega
  go_enter Tryd.func12, Tryd.ntmps12
  go_wp2
  go_ret
  have e : ∀ (L : List Value) (h : c.toNat < L.length), L = namesL.map (fun l => Value.string ⟨l.toArray⟩) → L[c.toNat] = .string (nameAt c.toNat) := by
    rintro L h rfl
    simp only [List.length_map] at h
    simp [nameAt, List.getElem?_eq_getElem h]
  refine ⟨congrArg Ending.returned ((e _ _ rfl).trans ?_), (Below.refl _ _).alloc (Nat.le_refl _) _⟩
  rw [nameOf, if_pos ⟨h0, h1⟩]

set_option maxRecDepth 100000 in
set_option maxHeartbeats 2000000 in
theorem ref_code_out (c : Int) (w : World) (h : c < 0 ∨ 24 ≤ c) : Calls Tryd.prog 12 #[.int .i64 c] w fun e w' => e = .returned (.string (nameOf c)) ∧ Below w.heap.size w w' := by
  rw [show nameOf c = ⟨#[101, 114, 114, 111, 114]⟩ by rw [nameOf, if_neg (by omega)]]
  rcases h with h | h
  · go_enter Tryd.func12, Tryd.ntmps12
    go_wp2
    go_ret
    exact ⟨rfl, (Below.refl _ _).alloc (Nat.le_refl _) _⟩
  · have hn0 : ¬ c < 0 := by omega
    go_enter Tryd.func12, Tryd.ntmps12
    go_wp2
    go_ret
    exact ⟨rfl, (Below.refl _ _).alloc (Nat.le_refl _) _⟩
theorem ref_code (c : Int) (w : World) : Calls Tryd.prog 12 #[.int .i64 c] w fun e w' => e = .returned (.string (nameOf c)) ∧ Below w.heap.size w w' := by
  by_cases h : 0 ≤ c ∧ c < 24
  · exact ref_code_in c w h.1 h.2
  · exact ref_code_out c w (by omega)

theorem errorsNew (s : ByteArray) (w : World) : Calls Tryd.prog 16 #[.string s] w fun e w' => e = .returned (.iface 59 (.pointer (some ⟨w.heap.size, 0, none⟩))) ∧ Below w.heap.size w w' := by
  go_enter Tryd.func16, Tryd.ntmps16
  go_wp2
  go_ret
  exact ⟨rfl, (Below.refl _ _).alloc (Nat.le_refl _) _⟩

theorem typeOf59 (v : Value) (w : World) : (ReflectliteType.typeOf #[.iface 59 v]).run Tryd.prog w = .ok (.iface 80 (.agg #[.pointer (some ⟨2, 59, none⟩)])) w := by kernel_rfl
theorem assignable59 (w : World) : (ReflectliteType.relation "AssignableTo" ReflectliteType.assignableTo #[.agg #[.pointer (some ⟨2, 59, none⟩)], .iface 80 (.agg #[.pointer (some ⟨2, 24, none⟩)])]).run Tryd.prog w = .ok (.bool false) w := by kernel_rfl
theorem noAs59 (v : Value) (w : World) : (Instr.typeAssert (.iface 59 v) 26 84 true).run Tryd.prog w = .ok (.tuple #[.nilIface, .bool false]) w := run_typeAssert_lacksB Tryd.underlying84 (by kernel_rfl) (by kernel_rfl) v 26 w
theorem noUnwrap59 (v : Value) (w : World) : (Instr.typeAssert (.iface 59 v) 26 76 true).run Tryd.prog w = .ok (.tuple #[.nilIface, .bool false]) w := run_typeAssert_lacksB Tryd.underlying76 (by kernel_rfl) (by kernel_rfl) v 26 w
theorem noUnwraps59 (v : Value) (w : World) : (Instr.typeAssert (.iface 59 v) 26 87 true).run Tryd.prog w = .ok (.tuple #[.nilIface, .bool false]) w := run_typeAssert_lacksB Tryd.underlying87 (by kernel_rfl) (by kernel_rfl) v 26 w
theorem no24 (v : Value) (w : World) : (Instr.typeAssert (.iface 59 v) 26 24 true).run Tryd.prog w = .ok (.tuple #[.pointer none, .bool false]) w := by kernel_rfl

set_option maxHeartbeats 4000000 in
theorem as_miss (e t : Addr) (w : World) (hg : w.cell? ⟨1, 0, none⟩ = some (.iface 80 (.agg #[.pointer (some ⟨2, 26, none⟩)]))) :
    Calls Tryd.prog 17 #[.iface 59 (.pointer (some e)), .iface 37 (.pointer (some t))] w fun ev w' => ev = .returned (.bool false) ∧ Below w.heap.size w w' := by
  have h6 := @run_callFunc_extern Tryd.prog 28 _ (fun args => ReflectliteValue.unpack (args.getD 0 (.tuple #[]))) Tryd.func28 (by kernel_rfl) (by kernel_rfl) (by kernel_rfl) (by kernel_rfl)
  have h7 := @run_callFunc_extern Tryd.prog 29 _ (ReflectliteValue.methodAny (ReflectliteValue.valueError "reflectlite.Value.Type" 0) (fun t _ _ _ => ReflectliteType.toType t)) Tryd.func29 (by kernel_rfl) (by kernel_rfl) (by kernel_rfl) (by kernel_rfl)
  have h8 := @run_callFunc_extern Tryd.prog 30 _ (ReflectliteValue.method (ReflectliteValue.valueError "reflectlite.Value.IsNil" 0) ReflectliteValue.isNil) Tryd.func30 (by kernel_rfl) (by kernel_rfl) (by kernel_rfl) (by kernel_rfl)
  have h27 := @run_callFunc_extern Tryd.prog 57 _ (ReflectliteType.abiMethod fun t => do pure (.int .u8 (← Rtype.kind t))) Tryd.func57 (by kernel_rfl) (by kernel_rfl) (by kernel_rfl) (by kernel_rfl)
  have h37 := @run_callFunc_extern Tryd.prog 68 _ (ReflectliteType.method ReflectliteType.elem) Tryd.func68 (by kernel_rfl) (by kernel_rfl) (by kernel_rfl) (by kernel_rfl)
  have h38 := @run_callFunc_extern Tryd.prog 69 _ (ReflectliteType.relation "Implements" ReflectliteType.implements_) Tryd.func69 (by kernel_rfl) (by kernel_rfl) (by kernel_rfl) (by kernel_rfl)
  have h10 := @run_callFunc_extern Tryd.prog 34 _ ReflectliteType.typeOf Tryd.func34 (by kernel_rfl) (by kernel_rfl) (by kernel_rfl) (by kernel_rfl)
  have h35 := @run_callFunc_extern Tryd.prog 66 _ (ReflectliteType.relation "AssignableTo" ReflectliteType.assignableTo) Tryd.func66 (by kernel_rfl) (by kernel_rfl) (by kernel_rfl) (by kernel_rfl)
  have h11 := @run_callFunc_extern Tryd.prog 39 _ (ReflectliteValue.method (ReflectliteValue.valueError "reflectlite.Value.Elem" 0) ReflectliteValue.elem) Tryd.func39 (by kernel_rfl) (by kernel_rfl) (by kernel_rfl) (by kernel_rfl)
  have h12 := @run_callFunc_extern Tryd.prog 40 _ ReflectliteValue.set Tryd.func40 (by kernel_rfl) (by kernel_rfl) (by kernel_rfl) (by kernel_rfl)
  have tO := typeOf59
  have mA := methodAssignableTo
  have a25 := assignable59
  have f6 := valueOf37
  have f7 := type37
  have mK := methodKind
  have mE := methodElem
  have mI := methodImplements
  have k27 := kind37
  have k25 := kind24
  have e27 := elem37
  have i25 := implements24
  have n8 := isNil37 ⟨w.heap.size, 0, none⟩ t ((w.alloc (.cells #[.pointer (some t)] 37)).alloc (.cells #[.pointer (some ⟨2, 37, none⟩), .pointer (some ⟨w.heap.size, 0, none⟩), .int .u64 150] 65)) (by simp)
  have hlt : 1 < w.heap.size := lt_of_cell hg
  have hg2 : ((w.alloc (.cells #[.pointer (some t)] 37)).alloc (.cells #[.pointer (some ⟨2, 37, none⟩), .pointer (some ⟨w.heap.size, 0, none⟩), .int .u64 150] 65)).cell? ⟨1, 0, none⟩ = some (.iface 80 (.agg #[.pointer (some ⟨2, 26, none⟩)])) := by
    rw [World.cell?_alloc_lt _ _ ⟨1, 0, none⟩ (by simp; omega), World.cell?_alloc_lt _ _ ⟨1, 0, none⟩ hlt]; exact hg
  have hA := noAs59
  have hU := noUnwrap59
  have hUs := noUnwraps59
  go_enter Tryd.func17, Tryd.ntmps17
  go_wp2
  refine wp_loop_rounds 1 ?_
  rw [rounds_succ]
  go_wp2
  go_ret
  exact ⟨rfl, (((Below.refl _ _).alloc (Nat.le_refl _) _).alloc (by simp) _).alloc (by simp; omega) _⟩

theorem isM_recv (v : Value) (w : World) : Calls Tryd.prog 15 #[.pointer none, v] w fun e w' => e = .returned (.bool false) ∧ w' = w := by
  go_enter Tryd.func15, Tryd.ntmps15
  go_wp2
  go_ret
  exact ⟨rfl, rfl⟩
theorem isM_nil (b : Nat) (w : World) : Calls Tryd.prog 15 #[.pointer (some ⟨b, 0, none⟩), .nilIface] w fun e w' => e = .returned (.bool false) ∧ w' = w := by
  have hN := assertNil
  go_enter Tryd.func15, Tryd.ntmps15
  go_wp2
  go_ret
  exact ⟨rfl, rfl⟩
theorem isM_other (b : Nat) (v : Value) (w : World) : Calls Tryd.prog 15 #[.pointer (some ⟨b, 0, none⟩), .iface 59 v] w fun e w' => e = .returned (.bool false) ∧ w' = w := by
  have hN := no24
  go_enter Tryd.func15, Tryd.ntmps15
  go_wp2
  go_ret
  exact ⟨rfl, rfl⟩

theorem code_other (e : Addr) (w : World) (hE : Env w) : Calls Tryd.prog 18 #[.iface 59 (.pointer (some e))] w fun e w' => e = .returned (.int .i64 8) ∧ Below w.heap.size w w' := by
  have hmf : ∀ (fn : Fn) (first cap : Array Value) (w : World), (Instr.makeFunc fn first cap).run Tryd.prog w = .ok (.func fn first cap) w := fun _ _ _ _ => rfl
  go_enter_defers Tryd.func18, Tryd.ntmps18
  go_wp2_with fail
  refine (as_miss e ⟨w.heap.size + 1, 0, none⟩ _ ?_).mono ?_
  · rw [World.cell?_alloc_lt _ _ ⟨1, 0, none⟩ (by have := hE.two; simp; omega), World.cell?_alloc_lt _ _ ⟨1, 0, none⟩ (by have := hE.two; simp; omega)]; exact hE.etype
  rintro ev w1 ⟨rfl, k1⟩
  have hz : w.heap.size + 1 + 1 ≤ w1.heap.size := by have := k1.size; simpa using this
  have hn1 : w1.heap[w.heap.size]? = some (.cells #[.int .i64 0] 22 (0, 0)) := by
    rw [k1.block _ (by simp; omega), Below.heap_alloc _ _ _ (by simp)]; exact heap_alloc_new w _
  have c3 : w1.cell? ⟨w.heap.size, 0, none⟩ = some (.int .i64 0) := by simp [World.cell?, hn1]
  have f3 : w1.frozen? ⟨w.heap.size, 0, none⟩ = false := by simp [World.frozen?, hn1]
  have hB : Below w.heap.size w w1 := (((Below.refl _ _).alloc (Nat.le_refl _) _).alloc (by simp) _).trans (k1.mono (by simp; omega))
  clear k1 hn1
  go_wp2
  refine leaves_cons (f := 32) (args := #[.pointer (some ⟨w.heap.size, 0, none⟩)]) (by simp) (by simp [go_sem]) ?_
  refine (code_idle ⟨w.heap.size, 0, none⟩ _).mono ?_
  rintro e u' w'' ⟨rfl, rfl, rfl⟩
  refine ⟨.int .i64 8, ?_, rfl, hB.setCell (p := ⟨w.heap.size, 0, none⟩) (Nat.le_refl _) _⟩
  simp [results, Tryd.results18, go_sem, c3]
end Go.Proofs.YtdlnfojohkoifaaDoor
