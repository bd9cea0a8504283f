/-
  Which frames a server may send: as data. No program.
-/
import Derived.Test.YtdpbnlamdgdljaaRName
namespace Go.Proofs.Ytdpbnlamdgdljaa
open Go.RowKit

def streamed (k : Int) : Bool := k == 0 || k == 1 || k == 2 || k == 3 || k == 9
def known (k : Int) : Bool := decide (0 ≤ k) && decide (k ≤ 9)
def placed (k id : Int) : Bool := if streamed k then id != 0 else if k = 5 then false else if k = 4 ∨ k = 6 ∨ k = 7 then id == 0 else true
abbrev ackB (fl : Int) : Bool := bits .and .i64 fl 1 != 0
def sized (k : Int) (a : Bool) (n : Nat) : Bool :=
  if k = 4 then (if a then decide (n = 0) else decide (n % 6 = 0))
  else if k = 7 then decide (8 ≤ n) else if k = 2 then decide (n = 5) else if k = 6 then decide (n = 8) else if k = 3 ∨ k = 8 then decide (n = 4) else true
/-- The code of an error that a body's stripping tells. -/
def codeOf (e : Int) : Int := if e = 0 then 0 else if e = 5 then 6 else 1
def stripE (f : Frm) : Int := (stripA f.kind (padB f.flags) (weighB f.flags) f.body).2.2
/-- The code, the error. -/
def checkA (f : Frm) : Int × Int :=
  if ¬ right f then (1, 1) else if placed f.kind f.id = false then (1, 11) else if sized f.kind (ackB f.flags) f.body.size = false then (6, 5) else (codeOf (stripE f), stripE f)
abbrev checkV (c : Int × Int) : Value := .tuple #[.int .i64 c.1, .int .i64 c.2]
def resetE (c : Int) : Int := if c = 0 then 0 else if c = 7 then 15 else if c = 8 then 17 else 16
theorem stripA_err (k : Int) (p q : Bool) (b : ByteArray) : (stripA k p q b).2.2 = 0 ∨ (stripA k p q b).2.2 = 5 ∨ (stripA k p q b).2.2 = 11 := by
  unfold stripA
  split
  · simp
  · split <;> simp
theorem stripE_cases (f : Frm) : stripE f = 0 ∨ stripE f = 5 ∨ stripE f = 11 := stripA_err _ _ _ _
theorem strip_other_err (k : Int) (p q : Bool) (b : ByteArray) (h0 : k ≠ 0) (h1 : k ≠ 1) : (stripA k p q b).2.2 = 0 := by
  unfold stripA
  simp [pads, aheadN, h0, h1]
end Go.Proofs.Ytdpbnlamdgdljaa
