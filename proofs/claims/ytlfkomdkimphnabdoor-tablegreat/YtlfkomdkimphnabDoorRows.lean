/-
  NARROWER THAN 'FOR EVERY INPUT', by the rows' own cells (each row's printed sentence says how): TableGreat: laid.
  DERIVED. THE GIVEN ROWS OF THIS SEAT. 1 by the template 'for every input the law returns true; each argument reads behind the call as it read before'; 0 by the template 'total and deterministic' (their statements: YtlfkomdkimphnabDoorTotals.lean).
  GIVEN WITH THE SEED: the statements are not yours to turn. If you find one false, say at which input.
  Laid BY PROGRAM, IN A SANDBOX (cutbox-rows.mjs): the forced cells as the released guide's own fill.sh prints them over the translation be57d2eb3d835356… (all of the seat's roots in one cut). By AI agents, Wed Nov 11 2026. No macro, syntax, notation, axiom, sorry.
-/
import Derived.Test.YtlfkomdkimphnabDoorChecked
import GoSem.Claim
import GoSem.ClaimJoined
import GoSem.ClaimMapViews
import Derived.JoinedTies
import Derived.KernelRfl
namespace Go.Proofs.YtlfkomdkimphnabDoor
/- THE CELL 'sum', in the pinned program and in every row, IS THE sha256 OF THE DUMP (.gsa) THAT YtlfkomdkimphnabDoorProg.lean LOADS. Nothing in Lean hashes anything: it is a label: what it is worth is what the hold of that sum in a sandbox is worth. -/
noncomputable def Tryd.pinned : Pinned := { name := "ytlfkomdkimphnabdoor", sum := "be57d2eb3d83535686f0bbb8c4afbce6be4615738e031e708a024fbdb7799b34", checked := Tryd.checked }
namespace Rows
def none {H : Type} : Left H := { results := [], args := [] }

/- WHAT THE LISTED PACKAGE-LEVEL VARIABLES READ AS WHEN THE CALL BEGINS. Each datum BY PROGRAM (the guide's laid-datum.mjs) off the statement by which the dump's own 'gosem.cut.vars' lays the variable. In a bare row this is a premise. The card (YtlfkomdkimphnabDoorCards.lean) ties it to the program's text. -/
def laid_bywash_table_always {H : Type} : DataW H := .agg [.agg [.lit (.string [58, 97, 117, 116, 104, 111, 114, 105, 116, 121]), .lit (.string [])], .agg [.lit (.string [58, 109, 101, 116, 104, 111, 100]), .lit (.string [71, 69, 84])], .agg [.lit (.string [58, 109, 101, 116, 104, 111, 100]), .lit (.string [80, 79, 83, 84])], .agg [.lit (.string [58, 112, 97, 116, 104]), .lit (.string [47])], .agg [.lit (.string [58, 115, 99, 104, 101, 109, 101]), .lit (.string [104, 116, 116, 112])], .agg [.lit (.string [58, 115, 99, 104, 101, 109, 101]), .lit (.string [104, 116, 116, 112, 115])], .agg [.lit (.string [58, 115, 116, 97, 116, 117, 115]), .lit (.string [50, 48, 48])], .agg [.lit (.string [58, 115, 116, 97, 116, 117, 115]), .lit (.string [50, 48, 52])], .agg [.lit (.string [58, 115, 116, 97, 116, 117, 115]), .lit (.string [52, 48, 52])], .agg [.lit (.string [58, 115, 116, 97, 116, 117, 115]), .lit (.string [53, 48, 48])], .agg [.lit (.string [97, 99, 99, 101, 112, 116]), .lit (.string [])], .agg [.lit (.string [99, 111, 110, 116, 101, 110, 116, 45, 108, 101, 110, 103, 116, 104]), .lit (.string [])], .agg [.lit (.string [99, 111, 110, 116, 101, 110, 116, 45, 116, 121, 112, 101]), .lit (.string [])], .agg [.lit (.string [99, 111, 111, 107, 105, 101]), .lit (.string [])], .agg [.lit (.string [100, 97, 116, 101]), .lit (.string [])], .agg [.lit (.string [117, 115, 101, 114, 45, 97, 103, 101, 110, 116]), .lit (.string [])]]

/-- 'bywashlaw4.TableGreat': WHATEVER THE INPUT: true; the input reads as it did. -/
def tableGreatSpec : ChangeSpec := { name := "tableGreat", fn := fun _ => fun
  | [d1, d2] => { results := [.lit (.bool true)], args := [d1, d2] }
  | _ => none }
def tableGreatRow : OpenClaim := { program := "ytlfkomdkimphnabdoor", sum := "be57d2eb3d83535686f0bbb8c4afbce6be4615738e031e708a024fbdb7799b34", func := "bywash/bywashlaw4.TableGreat", spec := "tableGreat", inPlace := ["slices.overlaps[bywash/api.Field]"], named := ["bywash/table.always"], apart := false, laid := [("bywash/table.always", laid_bywash_table_always)] }
def TableGreatSaid : Prop := tableGreatRow.holds Tryd.pinned (OpenSpec.ofChange tableGreatSpec)

/-- ITS FALSE NEIGHBOUR: 'it returns false'. Refute it at one input. -/
def tableGreatWrong : ChangeSpec := { name := "tableGreat", fn := fun _ => fun
  | [d1, d2] => { results := [.lit (.bool false)], args := [d1, d2] }
  | _ => none }
def TableGreatWrongFalsely : Prop := tableGreatRow.holds Tryd.pinned (OpenSpec.ofChange tableGreatWrong)

/- THE SECOND FORM. 'bulk': how many values and letters a reading holds, each counted each time it is reached (what is shared counts as often as it is met; a slice's spare places count too). A statement '..UptoSaid' is the law's where the arguments, and the package variables that the reading takes, are together of bulk at most 1048576: NARROWER than '..Said'. Prove '..Said' where nothing that the law and all that it calls make is longer than what came in: it says more and counts as full. Else prove '..UptoSaid'. A law counts once. -/
mutual
def uptoBulk {H : Type} : DataW H → Nat
  | .lit (.string bytes) => bytes.length + 1
  | .lit _ => 1
  | .nil => 1
  | .ptr d => uptoBulk d + 1
  | .slice elems spare => uptoBulkAll elems + uptoBulkAll spare + 1
  | .agg parts => uptoBulkAll parts + 1
  | .iface _ d => uptoBulk d + 1
  | .map entries => uptoBulkEntries entries + 1
  | .held _ => 1
def uptoBulkAll {H : Type} : List (DataW H) → Nat
  | [] => 0
  | d :: r => uptoBulk d + uptoBulkAll r
def uptoBulkEntries {H : Type} : List (Lit × DataW H) → Nat
  | [] => 0
  | x :: r => uptoBulkEntry x + uptoBulkEntries r
def uptoBulkEntry {H : Type} : Lit × DataW H → Nat
  | (.string bytes, d) => bytes.length + uptoBulk d + 1
  | (_, d) => uptoBulk d + 1
 end
def uptoSmall : (H : Type) → List (DataW H) → Bool := fun _ ds => decide (uptoBulkAll ds ≤ 1048576)
def OpenSpec.upto (s : _root_.Go.ChangeSpec) : _root_.Go.OpenSpec := { _root_.Go.OpenSpec.ofChange s with cond := some uptoSmall }

/-- 'bywashlaw4.TableGreat', WHERE WHAT IT READS IS OF BULK AT MOST 1048576: true; the input reads as it did. -/
def tableGreatUptoRow : OpenClaim := { program := "ytlfkomdkimphnabdoor", sum := "be57d2eb3d83535686f0bbb8c4afbce6be4615738e031e708a024fbdb7799b34", func := "bywash/bywashlaw4.TableGreat", spec := "tableGreat", inPlace := ["slices.overlaps[bywash/api.Field]"], named := ["bywash/table.always"], apart := false, laid := [("bywash/table.always", laid_bywash_table_always)], narrowed := true }
def TableGreatUptoSaid : Prop := tableGreatUptoRow.holds Tryd.pinned (OpenSpec.upto tableGreatSpec)

end Rows
end Go.Proofs.YtlfkomdkimphnabDoor
