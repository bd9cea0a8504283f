/-
  NARROWER THAN 'FOR EVERY INPUT', by the rows' own cells (each row's printed sentence says how): FailChains: laid.
  DERIVED. THE GIVEN ROWS OF THIS SEAT. 1 by the template 'for every input the law returns true; each argument reads behind the call as it read before'; 0 by the template 'total and deterministic' (their statements: YthgcbgdafoiacaaFmtTotals.lean).
  GIVEN WITH THE SEED: the statements are not yours to turn. If you find one false, say at which input.
  Laid BY PROGRAM, IN A SANDBOX (cutbox-rows.mjs): the forced cells as the released guide's own fill.sh prints them over the translation ea8c477b28d17705… (all of the seat's roots in one cut). By AI agents, Wed Nov 11 2026. No macro, syntax, notation, axiom, sorry.
-/
import Derived.Test.YthgcbgdafoiacaaFmtChecked
import GoSem.Claim
import GoSem.ClaimJoined
import GoSem.ClaimMapViews
import Derived.JoinedTies
import Derived.KernelRfl
namespace Go.Proofs.YthgcbgdafoiacaaFmt
/- THE CELL 'sum', in the pinned program and in every row, IS THE sha256 OF THE DUMP (.gsa) THAT YthgcbgdafoiacaaFmtProg.lean LOADS. Nothing in Lean hashes anything: it is a label: what it is worth is what the hold of that sum in a sandbox is worth. -/
noncomputable def Tryf.pinned : Pinned := { name := "ythgcbgdafoiacaafmt", sum := "ea8c477b28d177052dc384277bb2f6953b1ba1db61f5a7917abe86285687d4ec", checked := Tryf.checked }
namespace Rows
def none {H : Type} : Left H := { results := [], args := [] }

/- WHAT THE LISTED PACKAGE-LEVEL VARIABLES READ AS WHEN THE CALL BEGINS. Each datum BY PROGRAM (the guide's laid-datum.mjs) off the statement by which the dump's own 'gosem.cut.vars' lays the variable. In a bare row this is a premise. The card (YthgcbgdafoiacaaFmtCards.lean) ties it to the program's text. -/
def laid_errors_errorType {H : Type} : DataW H := .iface "internal/reflectlite.rtype" (.agg [.ptr (.lit (.string [101, 114, 114, 111, 114]))])
def laid_bywash_fail_names {H : Type} : DataW H := .agg [.lit (.string [111, 107]), .lit (.string [97, 114, 103]), .lit (.string [109, 111, 114, 101]), .lit (.string [102, 111, 114, 109]), .lit (.string [114, 97, 110, 103, 101]), .lit (.string [115, 105, 122, 101]), .lit (.string [110, 97, 109, 101]), .lit (.string [111, 114, 100, 101, 114]), .lit (.string [115, 116, 97, 116, 101]), .lit (.string [102, 108, 111, 119]), .lit (.string [112, 97, 99, 107]), .lit (.string [112, 114, 111, 116, 111]), .lit (.string [99, 108, 111, 115, 101, 100]), .lit (.string [98, 117, 115, 121]), .lit (.string [103, 111, 110, 101]), .lit (.string [114, 101, 102, 117, 115, 101, 100]), .lit (.string [114, 101, 115, 101, 116]), .lit (.string [99, 97, 110, 99, 101, 108]), .lit (.string [108, 97, 116, 101]), .lit (.string [100, 101, 97, 100]), .lit (.string [100, 105, 97, 108]), .lit (.string [110, 111, 110, 101]), .lit (.string [108, 101, 110, 103, 116, 104]), .lit (.string [109, 97, 110, 121])]

/-- 'bywashlaw1.FailChains': WHATEVER THE INPUT: true; the input reads as it did. -/
def failChainsSpec : ChangeSpec := { name := "failChains", fn := fun _ => fun
  | [d1, d2, d3] => { results := [.lit (.bool true)], args := [d1, d2, d3] }
  | _ => none }
def failChainsRow : OpenClaim := { program := "ythgcbgdafoiacaafmt", sum := "ea8c477b28d177052dc384277bb2f6953b1ba1db61f5a7917abe86285687d4ec", func := "bywash/bywashlaw1.FailChains", spec := "failChains", stops := ["fmt.errorf, its operands' methods called"], inPlace := ["internal/reflectlite.ValueOf", "(internal/reflectlite.Value).Type", "(internal/reflectlite.Value).IsNil", "internal/reflectlite.TypeOf", "(internal/reflectlite.Value).Elem", "(internal/reflectlite.Value).Set", "fmt.errorf"], unfollowed := true, recurses := true, named := ["errors.errorType", "bywash/fail.names"], apart := false, laid := [("errors.errorType", laid_errors_errorType), ("bywash/fail.names", laid_bywash_fail_names)] }
/-- NO THEOREM (fmt's text is open here; it may be false): for the released tool's asking of the row's closed facts alone. THE STATEMENT IS 'FailChainsToldSaid' (YthgcbgdafoiacaaFmtCards.lean). -/
def FailChainsFormAsk : Prop := failChainsRow.holds Tryf.pinned (OpenSpec.ofChange failChainsSpec)

/-- ITS FALSE NEIGHBOUR: 'it returns false'. Refute it at one input. -/
def failChainsWrong : ChangeSpec := { name := "failChains", fn := fun _ => fun
  | [d1, d2, d3] => { results := [.lit (.bool false)], args := [d1, d2, d3] }
  | _ => none }
def FailChainsWrongFormAsk : Prop := failChainsRow.holds Tryf.pinned (OpenSpec.ofChange failChainsWrong)

end Rows
end Go.Proofs.YthgcbgdafoiacaaFmt
