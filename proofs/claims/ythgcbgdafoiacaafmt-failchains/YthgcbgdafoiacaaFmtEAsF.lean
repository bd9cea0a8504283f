/-
  The library's reflection as errors.As asks it, at a target that is the address of a *fail.Failure variable: closed facts.
-/
import Derived.Test.YthgcbgdafoiacaaFmtESmall
namespace Go.Proofs.YthgcbgdafoiacaaFmt
open Go.RowKit Go.Extern.Stop Go.Stop Go.Extern

abbrev rtV (t : Nat) : Value := .iface 77 (.agg #[.pointer (some ⟨2, t, none⟩)])
abbrev ppV (a : Addr) : Value := .agg #[.pointer (some ⟨2, 54, none⟩), .pointer (some a), .int .u64 150]
theorem valueOfPP (t : Addr) (w : World) : (ReflectliteValue.unpack (.iface 54 (.pointer (some t)))).run Tryf.prog w
    = .ok (ppV ⟨w.heap.size, 0, none⟩) (w.alloc (.cells #[.pointer (some t)] 54)) := by kernel_rfl
theorem typePP (a : Addr) (w : World) : (ReflectliteValue.methodAny (ReflectliteValue.valueError "reflectlite.Value.Type" 0) (fun t _ _ _ => ReflectliteType.toType t) #[ppV a]).run Tryf.prog w = .ok (rtV 54) w := by kernel_rfl
theorem methodKind (h : Value) (w : World) : (Go.method 231 77 (.agg #[h]) "Kind").run Tryf.prog w = .ok (47, h) w := by kernel_rfl
theorem kindPP (w : World) : ((ReflectliteType.abiMethod fun t => (fun a : Nat => Value.int IntKind.u8 (a : Int)) <$> Rtype.kind t) #[.pointer (some ⟨2, 54, none⟩)]).run Tryf.prog w = .ok (.int .u8 22) w := by kernel_rfl
theorem kindP (w : World) : ((ReflectliteType.abiMethod fun t => (fun a : Nat => Value.int IntKind.u8 (a : Int)) <$> Rtype.kind t) #[.pointer (some ⟨2, 43, none⟩)]).run Tryf.prog w = .ok (.int .u8 22) w := by kernel_rfl
theorem set_match (motive : Array Value → Sort _) (v x : Value) (h1 : (v x : Value) → motive #[v, x]) (h2 : (a : Array Value) → motive a) : ReflectliteValue.set.match_3 motive #[v, x] h1 h2 = h1 v x := rfl
theorem method_match (motive : Array Value → Sort _) (v : Value) (h1 : (v : Value) → motive #[v]) (h2 : (a : Array Value) → motive a) : ReflectliteValue.method.match_2 motive #[v] h1 h2 = h1 v := rfl
theorem partsPP (a : Addr) (w : World) : (ReflectliteValue.parts (ppV a)).run Tryf.prog w = .ok (some (54, a, 150)) w := by kernel_rfl
theorem isNilPP (a p : Addr) (W : World) (ha : W.cell? a = some (.pointer (some p))) :
    (ReflectliteValue.method (ReflectliteValue.valueError "reflectlite.Value.IsNil" 0) ReflectliteValue.isNil #[ppV a]).run Tryf.prog W = .ok (.bool false) W := by
  unfold ReflectliteValue.method
  rw [method_match]
  simp only [Sem.run_bind, partsPP, Result.andThen]
  simp [ReflectliteValue.isNil, loadVar, isAgg, underlying, Tryf.underlying54, ha, Result.andThen]
theorem methodElem (h : Value) (w : World) : (Go.method 231 77 (.agg #[h]) "Elem").run Tryf.prog w = .ok (70, .agg #[h]) w := by kernel_rfl
theorem methodImplements (h : Value) (w : World) : (Go.method 231 77 (.agg #[h]) "Implements").run Tryf.prog w = .ok (71, .agg #[h]) w := by kernel_rfl
theorem methodAssignableTo (h : Value) (w : World) : (Go.method 231 77 (.agg #[h]) "AssignableTo").run Tryf.prog w = .ok (68, .agg #[h]) w := by kernel_rfl
theorem methodComparable (v : Value) (w : World) : (Go.method 231 77 v "Comparable").run Tryf.prog w = .ok (69, v) w := by kernel_rfl
theorem elemPP (w : World) : (ReflectliteType.method ReflectliteType.elem #[.agg #[.pointer (some ⟨2, 54, none⟩)]]).run Tryf.prog w = .ok (rtV 43) w := by kernel_rfl
theorem implementsP (w : World) : (ReflectliteType.relation "Implements" ReflectliteType.implements_ #[.agg #[.pointer (some ⟨2, 43, none⟩)], rtV 26]).run Tryf.prog w = .ok (.bool true) w := by kernel_rfl
theorem typeOfFl (v : Value) (w : World) : (ReflectliteType.typeOf #[.iface 43 v]).run Tryf.prog w = .ok (rtV 43) w := by kernel_rfl
theorem typeOfWr (v : Value) (w : World) : (ReflectliteType.typeOf #[.iface 48 v]).run Tryf.prog w = .ok (rtV 48) w := by kernel_rfl
theorem typeOfJn (v : Value) (w : World) : (ReflectliteType.typeOf #[.iface 50 v]).run Tryf.prog w = .ok (rtV 50) w := by kernel_rfl
theorem typeOfPl (v : Value) (w : World) : (ReflectliteType.typeOf #[.iface 59 v]).run Tryf.prog w = .ok (rtV 59) w := by kernel_rfl
theorem assignFl (w : World) : (ReflectliteType.relation "AssignableTo" ReflectliteType.assignableTo #[.agg #[.pointer (some ⟨2, 43, none⟩)], rtV 43]).run Tryf.prog w = .ok (.bool true) w := by kernel_rfl
theorem assignWr (w : World) : (ReflectliteType.relation "AssignableTo" ReflectliteType.assignableTo #[.agg #[.pointer (some ⟨2, 48, none⟩)], rtV 43]).run Tryf.prog w = .ok (.bool false) w := by kernel_rfl
theorem assignJn (w : World) : (ReflectliteType.relation "AssignableTo" ReflectliteType.assignableTo #[.agg #[.pointer (some ⟨2, 50, none⟩)], rtV 43]).run Tryf.prog w = .ok (.bool false) w := by kernel_rfl
theorem assignPl (w : World) : (ReflectliteType.relation "AssignableTo" ReflectliteType.assignableTo #[.agg #[.pointer (some ⟨2, 59, none⟩)], rtV 43]).run Tryf.prog w = .ok (.bool false) w := by kernel_rfl
theorem valueOfFl (e : Addr) (w : World) : (ReflectliteValue.unpack (.iface 43 (.pointer (some e)))).run Tryf.prog w
    = .ok (.agg #[.pointer (some ⟨2, 43, none⟩), .pointer (some ⟨w.heap.size, 0, none⟩), .int .u64 150]) (w.alloc (.cells #[.pointer (some e)] 43)) := by kernel_rfl
theorem elemOfPP (w : World) : (Rtype.elem? 54).run Tryf.prog w = .ok (some 43) w := by kernel_rfl
theorem mkP (p : Addr) (w : World) : (ReflectliteValue.mk 43 p ReflectliteValue.flagAddr).run Tryf.prog w = .ok (.agg #[.pointer (some ⟨2, 43, none⟩), .pointer (some p), .int .u64 406]) w := by kernel_rfl
theorem elemVPP (a p : Addr) (W : World) (ha : W.cell? a = some (.pointer (some p))) :
    (ReflectliteValue.method (ReflectliteValue.valueError "reflectlite.Value.Elem" 0) ReflectliteValue.elem #[ppV a]).run Tryf.prog W
      = .ok (.agg #[.pointer (some ⟨2, 43, none⟩), .pointer (some p), .int .u64 406]) W := by
  unfold ReflectliteValue.method
  rw [method_match]
  simp only [Sem.run_bind, partsPP, Result.andThen]
  simp [ReflectliteValue.elem, loadVar, isAgg, underlying, Tryf.underlying54, ha, Result.andThen, elemOfPP, mkP]
theorem partsPa (a : Addr) (w : World) : (ReflectliteValue.parts (.agg #[.pointer (some ⟨2, 43, none⟩), .pointer (some a), .int .u64 406])).run Tryf.prog w = .ok (some (43, a, 406)) w := by kernel_rfl
theorem partsP (a : Addr) (w : World) : (ReflectliteValue.parts (.agg #[.pointer (some ⟨2, 43, none⟩), .pointer (some a), .int .u64 150])).run Tryf.prog w = .ok (some (43, a, 150)) w := by kernel_rfl
theorem directP (w : World) : (Rtype.directlyAssignable 43 43).run Tryf.prog w = .ok true w := by kernel_rfl
theorem setP (ta b e : Addr) (old : Value) (W : World) (hb : W.cell? b = some (.pointer (some e))) (ht : W.cell? ta = some old) (hf : W.frozen? ta = false) :
    (ReflectliteValue.set #[.agg #[.pointer (some ⟨2, 43, none⟩), .pointer (some ta), .int .u64 406], .agg #[.pointer (some ⟨2, 43, none⟩), .pointer (some b), .int .u64 150]]).run Tryf.prog W
      = .ok (.tuple #[]) (W.setCell ta (.pointer (some e))) := by
  unfold ReflectliteValue.set
  rw [set_match]
  simp only [Sem.run_bind, partsPa, partsP, Result.andThen]
  simp [ReflectliteValue.flagAddr, loadVar, isAgg, underlying, Tryf.underlying43, hb, Result.andThen, directP, storeVar, Value.cells, storeCells, Addr.add]
  rw [run_store Tryf.prog W ta _ _ (by rfl)]
  simp [ht, hf]
theorem comparableP (w : World) : (callFunc 69 #[.agg #[.pointer (some ⟨2, 43, none⟩)]]).run Tryf.prog w = .ok (Next.value (.bool true)) w := by kernel_rfl
theorem hVO (args : Array Value) (w : World) : (callFunc 23 args).run Tryf.prog w = (((fun args => ReflectliteValue.unpack (args.getD 0 (.tuple #[]))) args).run Tryf.prog w).andThen fun v w' => .ok (.value v) w' := @run_callFunc_extern Tryf.prog 23 _ (fun args => ReflectliteValue.unpack (args.getD 0 (.tuple #[]))) Tryf.func23 (by kernel_rfl) (by kernel_rfl) (by kernel_rfl) (by kernel_rfl) args w
theorem hVT (args : Array Value) (w : World) : (callFunc 24 args).run Tryf.prog w = (((ReflectliteValue.methodAny (ReflectliteValue.valueError "reflectlite.Value.Type" 0) (fun t _ _ _ => ReflectliteType.toType t)) args).run Tryf.prog w).andThen fun v w' => .ok (.value v) w' := @run_callFunc_extern Tryf.prog 24 _ (ReflectliteValue.methodAny (ReflectliteValue.valueError "reflectlite.Value.Type" 0) (fun t _ _ _ => ReflectliteType.toType t)) Tryf.func24 (by kernel_rfl) (by kernel_rfl) (by kernel_rfl) (by kernel_rfl) args w
theorem hVN (args : Array Value) (w : World) : (callFunc 25 args).run Tryf.prog w = (((ReflectliteValue.method (ReflectliteValue.valueError "reflectlite.Value.IsNil" 0) ReflectliteValue.isNil) args).run Tryf.prog w).andThen fun v w' => .ok (.value v) w' := @run_callFunc_extern Tryf.prog 25 _ (ReflectliteValue.method (ReflectliteValue.valueError "reflectlite.Value.IsNil" 0) ReflectliteValue.isNil) Tryf.func25 (by kernel_rfl) (by kernel_rfl) (by kernel_rfl) (by kernel_rfl) args w
theorem hTK (args : Array Value) (w : World) : (callFunc 47 args).run Tryf.prog w = (((ReflectliteType.abiMethod fun t => do pure (.int .u8 (← Rtype.kind t))) args).run Tryf.prog w).andThen fun v w' => .ok (.value v) w' := @run_callFunc_extern Tryf.prog 47 _ (ReflectliteType.abiMethod fun t => do pure (.int .u8 (← Rtype.kind t))) Tryf.func47 (by kernel_rfl) (by kernel_rfl) (by kernel_rfl) (by kernel_rfl) args w
theorem hTE (args : Array Value) (w : World) : (callFunc 70 args).run Tryf.prog w = (((ReflectliteType.method ReflectliteType.elem) args).run Tryf.prog w).andThen fun v w' => .ok (.value v) w' := @run_callFunc_extern Tryf.prog 70 _ (ReflectliteType.method ReflectliteType.elem) Tryf.func70 (by kernel_rfl) (by kernel_rfl) (by kernel_rfl) (by kernel_rfl) args w
theorem hTI (args : Array Value) (w : World) : (callFunc 71 args).run Tryf.prog w = (((ReflectliteType.relation "Implements" ReflectliteType.implements_) args).run Tryf.prog w).andThen fun v w' => .ok (.value v) w' := @run_callFunc_extern Tryf.prog 71 _ (ReflectliteType.relation "Implements" ReflectliteType.implements_) Tryf.func71 (by kernel_rfl) (by kernel_rfl) (by kernel_rfl) (by kernel_rfl) args w
theorem hTO (args : Array Value) (w : World) : (callFunc 27 args).run Tryf.prog w = ((ReflectliteType.typeOf args).run Tryf.prog w).andThen fun v w' => .ok (.value v) w' := @run_callFunc_extern Tryf.prog 27 _ ReflectliteType.typeOf Tryf.func27 (by kernel_rfl) (by kernel_rfl) (by kernel_rfl) (by kernel_rfl) args w
theorem hTA (args : Array Value) (w : World) : (callFunc 68 args).run Tryf.prog w = (((ReflectliteType.relation "AssignableTo" ReflectliteType.assignableTo) args).run Tryf.prog w).andThen fun v w' => .ok (.value v) w' := @run_callFunc_extern Tryf.prog 68 _ (ReflectliteType.relation "AssignableTo" ReflectliteType.assignableTo) Tryf.func68 (by kernel_rfl) (by kernel_rfl) (by kernel_rfl) (by kernel_rfl) args w
theorem hVE (args : Array Value) (w : World) : (callFunc 31 args).run Tryf.prog w = (((ReflectliteValue.method (ReflectliteValue.valueError "reflectlite.Value.Elem" 0) ReflectliteValue.elem) args).run Tryf.prog w).andThen fun v w' => .ok (.value v) w' := @run_callFunc_extern Tryf.prog 31 _ (ReflectliteValue.method (ReflectliteValue.valueError "reflectlite.Value.Elem" 0) ReflectliteValue.elem) Tryf.func31 (by kernel_rfl) (by kernel_rfl) (by kernel_rfl) (by kernel_rfl) args w
theorem hVS (args : Array Value) (w : World) : (callFunc 32 args).run Tryf.prog w = ((ReflectliteValue.set args).run Tryf.prog w).andThen fun v w' => .ok (.value v) w' := @run_callFunc_extern Tryf.prog 32 _ ReflectliteValue.set Tryf.func32 (by kernel_rfl) (by kernel_rfl) (by kernel_rfl) (by kernel_rfl) args w
end Go.Proofs.YthgcbgdafoiacaaFmt
