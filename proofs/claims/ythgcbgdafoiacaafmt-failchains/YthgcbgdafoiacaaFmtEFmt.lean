/-
  fmt.Errorf at one error: "at %w" and "no %v": closed facts on the stop that asks its operand's Error.
-/
import Derived.Test.YthgcbgdafoiacaaFmtEJoin
import Derived.Stop.CallBack
import Derived.Stop.IfaceNil
import Derived.Stop.FmtTextKit
import Derived.Stop.FmtTextVerbs
import Derived.Stop.Told
import Derived.Stop.Texts
namespace Go.Proofs.YthgcbgdafoiacaaFmt
open Go.RowKit Go.Extern.Stop Go.Stop Go.Extern

theorem xcall (args : Array Value) (w : World) : (callFunc 16 args).run Tryf.prog w = (FmtCalls.errorf #[9, 46] #[26] args).run Tryf.prog w :=
  run_callFunc_next Tryf.func16 (by kernel_rfl) (by kernel_rfl) (by kernel_rfl) args w
theorem xguard (name : String) (w : World) : (FmtStop.guard name).run Tryf.prog w = .ok () w := by kernel_rfl
theorem xturns : Extern.next FmtCalls.turnsRow = some (FmtCalls.begun #[] #[]) := by kernel_rfl
theorem xreturned : Extern.next FmtCalls.returnedRow = some (FmtCalls.returned #[] #[]) := by kernel_rfl
theorem xp_at : FmtStop.printed? ⟨#[97, 116, 32, 37, 119]⟩ 1 = some [(0, 119, false)] := by kernel_rfl
theorem xpr_at (w : World) : (FmtDoors.printed ⟨#[97, 116, 32, 37, 119]⟩ 1).run Tryf.prog w = .ok [(0, 119, false)] w := by kernel_rfl
theorem xp_no : FmtStop.printed? ⟨#[110, 111, 32, 37, 118]⟩ 1 = some [(0, 118, false)] := by kernel_rfl
theorem xpr_no (w : World) : (FmtDoors.printed ⟨#[110, 111, 32, 37, 118]⟩ 1).run Tryf.prog w = .ok [(0, 118, false)] w := by kernel_rfl
theorem fl_act118 (name : String) (x : Value) (w : World) : (FmtCalls.act name true 118 false (.iface 43 x)).run Tryf.prog w = .ok (.call true) w := by kernel_rfl
theorem fl_act119 (name : String) (x : Value) (w : World) : (FmtCalls.act name true 119 false (.iface 43 x)).run Tryf.prog w = .ok (.call true) w := by kernel_rfl
theorem fl_isError (w : World) : (FmtDoors.textMethod 43 "Error").run Tryf.prog w = .ok true w := by kernel_rfl
theorem fl_invoke (x : Value) (w : World) : (invoke (.fn (.method "Error") #[]) #[.iface 43 x]).run Tryf.prog w = .ok (.enter 50 #[x]) w := by kernel_rfl
theorem fl_str (w : World) : (typeStr 43).run Tryf.prog w = .ok "*fail.Failure" w := by kernel_rfl
theorem jn_act118 (name : String) (x : Value) (w : World) : (FmtCalls.act name true 118 false (.iface 50 x)).run Tryf.prog w = .ok (.call true) w := by kernel_rfl
theorem jn_act119 (name : String) (x : Value) (w : World) : (FmtCalls.act name true 119 false (.iface 50 x)).run Tryf.prog w = .ok (.call true) w := by kernel_rfl
theorem jn_isError (w : World) : (FmtDoors.textMethod 50 "Error").run Tryf.prog w = .ok true w := by kernel_rfl
theorem jn_invoke (x : Value) (w : World) : (invoke (.fn (.method "Error") #[]) #[.iface 50 x]).run Tryf.prog w = .ok (.enter 61 #[x]) w := by kernel_rfl
theorem jn_str (w : World) : (typeStr 50).run Tryf.prog w = .ok "*errors.joinError" w := by kernel_rfl
theorem wr_act118 (name : String) (x : Value) (w : World) : (FmtCalls.act name true 118 false (.iface 48 x)).run Tryf.prog w = .ok (.closed true) w := by kernel_rfl
theorem wr_act119 (name : String) (x : Value) (w : World) : (FmtCalls.act name true 119 false (.iface 48 x)).run Tryf.prog w = .ok (.closed true) w := by kernel_rfl
theorem wr_isError (w : World) : (FmtDoors.textMethod 48 "Error").run Tryf.prog w = .ok true w := by kernel_rfl
theorem wr_invoke (x : Value) (w : World) : (invoke (.fn (.method "Error") #[]) #[.iface 48 x]).run Tryf.prog w = .ok (.enter 59 #[x]) w := by kernel_rfl
theorem wr_str (w : World) : (typeStr 48).run Tryf.prog w = .ok "*fmt.wrapError" w := by kernel_rfl
theorem pl_act118 (name : String) (x : Value) (w : World) : (FmtCalls.act name true 118 false (.iface 59 x)).run Tryf.prog w = .ok (.closed true) w := by kernel_rfl
theorem pl_act119 (name : String) (x : Value) (w : World) : (FmtCalls.act name true 119 false (.iface 59 x)).run Tryf.prog w = .ok (.closed true) w := by kernel_rfl
theorem pl_isError (w : World) : (FmtDoors.textMethod 59 "Error").run Tryf.prog w = .ok true w := by kernel_rfl
theorem pl_invoke (x : Value) (w : World) : (invoke (.fn (.method "Error") #[]) #[.iface 59 x]).run Tryf.prog w = .ok (.enter 63 #[x]) w := by kernel_rfl
theorem pl_str (w : World) : (typeStr 59).run Tryf.prog w = .ok "*errors.errorString" w := by kernel_rfl
theorem wr_ptr (w : World) : (FmtStop.ptrTo "fmt.wrapError").run Tryf.prog w = .ok 48 w := by kernel_rfl
theorem wr_elem (w : World) : (elemOf 48).run Tryf.prog w = .ok 116 w := by kernel_rfl
def wr_plain : List UInt8 := 14 :: FmtStop.pack "*fmt.wrapError".toUTF8.data.toList
theorem wr_op118 (name : String) (a : Addr) (s : ByteArray) (w : World) (hc : w.cell? a = some (.string s)) :
    (FmtStop.operand name true 118 false (.iface 48 (.pointer (some a)))).run Tryf.prog w = .ok (wr_plain, s.data.toList) w := by
  have h1 : (typeStr 48).run Tryf.prog w = .ok "*fmt.wrapError" w := by kernel_rfl
  have d2 : Tryf.t48.desc = .pointer 116 := rfl
  have d3 : Tryf.t116.desc = .named "fmt.wrapError" 115 := rfl
  simp [FmtStop.operand, h1, d2, d3, run_load, hc, wr_plain]
theorem wr_op119 (name : String) (a : Addr) (s : ByteArray) (w : World) (hc : w.cell? a = some (.string s)) :
    (FmtStop.operand name true 119 false (.iface 48 (.pointer (some a)))).run Tryf.prog w = .ok (wr_plain, s.data.toList) w := by
  have h1 : (typeStr 48).run Tryf.prog w = .ok "*fmt.wrapError" w := by kernel_rfl
  have d2 : Tryf.t48.desc = .pointer 116 := rfl
  have d3 : Tryf.t116.desc = .named "fmt.wrapError" 115 := rfl
  simp [FmtStop.operand, h1, d2, d3, run_load, hc, wr_plain]
theorem pl_ptr (w : World) : (FmtStop.ptrTo "errors.errorString").run Tryf.prog w = .ok 59 w := by kernel_rfl
theorem pl_elem (w : World) : (elemOf 59).run Tryf.prog w = .ok 61 w := by kernel_rfl
def pl_plain : List UInt8 := 14 :: FmtStop.pack "*errors.errorString".toUTF8.data.toList
theorem pl_op118 (name : String) (a : Addr) (s : ByteArray) (w : World) (hc : w.cell? a = some (.string s)) :
    (FmtStop.operand name true 118 false (.iface 59 (.pointer (some a)))).run Tryf.prog w = .ok (pl_plain, s.data.toList) w := by
  have h1 : (typeStr 59).run Tryf.prog w = .ok "*errors.errorString" w := by kernel_rfl
  have d2 : Tryf.t59.desc = .pointer 61 := rfl
  have d3 : Tryf.t61.desc = .named "errors.errorString" 60 := rfl
  simp [FmtStop.operand, h1, d2, d3, run_load, hc, pl_plain]
theorem pl_op119 (name : String) (a : Addr) (s : ByteArray) (w : World) (hc : w.cell? a = some (.string s)) :
    (FmtStop.operand name true 119 false (.iface 59 (.pointer (some a)))).run Tryf.prog w = .ok (pl_plain, s.data.toList) w := by
  have h1 : (typeStr 59).run Tryf.prog w = .ok "*errors.errorString" w := by kernel_rfl
  have d2 : Tryf.t59.desc = .pointer 61 := rfl
  have d3 : Tryf.t61.desc = .named "errors.errorString" 60 := rfl
  simp [FmtStop.operand, h1, d2, d3, run_load, hc, pl_plain]
end Go.Proofs.YthgcbgdafoiacaaFmt
