/-
  NARROWER THAN 'FOR EVERY INPUT', by the rows' own cells (each row's printed sentence says how): TablePlays: laid · TableRoom: laid · TableFixed: laid · TableFinds: laid · TableShrinks: laid · TableCosts: laid.
  DERIVED. THE GIVEN ROWS OF THIS SEAT. 6 by the template 'for every input the law returns true; each argument reads behind the call as it read before'; 0 by the template 'total and deterministic' (their statements: YtlfkomdkimphnaaDoorTotals.lean).
  GIVEN WITH THE SEED: the statements are not yours to turn. If you find one false, say at which input.
  Laid BY PROGRAM, IN A SANDBOX (cutbox-rows.mjs): the forced cells as the released guide's own fill.sh prints them over the translation eb5e718f194534fa… (all of the seat's roots in one cut). By AI agents, Wed Nov 11 2026. No macro, syntax, notation, axiom, sorry.
-/
import Derived.Test.YtlfkomdkimphnaaDoorChecked
import GoSem.Claim
import GoSem.ClaimJoined
import GoSem.ClaimMapViews
import Derived.JoinedTies
import Derived.KernelRfl
namespace Go.Proofs.YtlfkomdkimphnaaDoor
/- THE CELL 'sum', in the pinned program and in every row, IS THE sha256 OF THE DUMP (.gsa) THAT YtlfkomdkimphnaaDoorProg.lean LOADS. Nothing in Lean hashes anything: it is a label: what it is worth is what the hold of that sum in a sandbox is worth. -/
noncomputable def Tryd.pinned : Pinned := { name := "ytlfkomdkimphnaadoor", sum := "eb5e718f194534faee72b3f61363b0bb3f4dc59fcc905d1c5fd5e27462cf9114", checked := Tryd.checked }
namespace Rows
def none {H : Type} : Left H := { results := [], args := [] }

/- WHAT THE LISTED PACKAGE-LEVEL VARIABLES READ AS WHEN THE CALL BEGINS. Each datum BY PROGRAM (the guide's laid-datum.mjs) off the statement by which the dump's own 'gosem.cut.vars' lays the variable. In a bare row this is a premise. The card (YtlfkomdkimphnaaDoorCards.lean) ties it to the program's text. -/
def laid_bywash_table_always {H : Type} : DataW H := .agg [.agg [.lit (.string [58, 97, 117, 116, 104, 111, 114, 105, 116, 121]), .lit (.string [])], .agg [.lit (.string [58, 109, 101, 116, 104, 111, 100]), .lit (.string [71, 69, 84])], .agg [.lit (.string [58, 109, 101, 116, 104, 111, 100]), .lit (.string [80, 79, 83, 84])], .agg [.lit (.string [58, 112, 97, 116, 104]), .lit (.string [47])], .agg [.lit (.string [58, 115, 99, 104, 101, 109, 101]), .lit (.string [104, 116, 116, 112])], .agg [.lit (.string [58, 115, 99, 104, 101, 109, 101]), .lit (.string [104, 116, 116, 112, 115])], .agg [.lit (.string [58, 115, 116, 97, 116, 117, 115]), .lit (.string [50, 48, 48])], .agg [.lit (.string [58, 115, 116, 97, 116, 117, 115]), .lit (.string [50, 48, 52])], .agg [.lit (.string [58, 115, 116, 97, 116, 117, 115]), .lit (.string [52, 48, 52])], .agg [.lit (.string [58, 115, 116, 97, 116, 117, 115]), .lit (.string [53, 48, 48])], .agg [.lit (.string [97, 99, 99, 101, 112, 116]), .lit (.string [])], .agg [.lit (.string [99, 111, 110, 116, 101, 110, 116, 45, 108, 101, 110, 103, 116, 104]), .lit (.string [])], .agg [.lit (.string [99, 111, 110, 116, 101, 110, 116, 45, 116, 121, 112, 101]), .lit (.string [])], .agg [.lit (.string [99, 111, 111, 107, 105, 101]), .lit (.string [])], .agg [.lit (.string [100, 97, 116, 101]), .lit (.string [])], .agg [.lit (.string [117, 115, 101, 114, 45, 97, 103, 101, 110, 116]), .lit (.string [])]]

/-- 'bywashlaw4.TablePlays': WHATEVER THE INPUT: true; the input reads as it did. -/
def tablePlaysSpec : ChangeSpec := { name := "tablePlays", fn := fun _ => fun
  | [d1, d2] => { results := [.lit (.bool true)], args := [d1, d2] }
  | _ => none }
def tablePlaysRow : OpenClaim := { program := "ytlfkomdkimphnaadoor", sum := "eb5e718f194534faee72b3f61363b0bb3f4dc59fcc905d1c5fd5e27462cf9114", func := "bywash/bywashlaw4.TablePlays", spec := "tablePlays", inPlace := ["slices.overlaps[bywash/api.Field]"], named := ["bywash/table.always"], apart := false, laid := [("bywash/table.always", laid_bywash_table_always)] }
def TablePlaysSaid : Prop := tablePlaysRow.holds Tryd.pinned (OpenSpec.ofChange tablePlaysSpec)

/-- ITS FALSE NEIGHBOUR: 'it returns false'. Refute it at one input. -/
def tablePlaysWrong : ChangeSpec := { name := "tablePlays", fn := fun _ => fun
  | [d1, d2] => { results := [.lit (.bool false)], args := [d1, d2] }
  | _ => none }
def TablePlaysWrongFalsely : Prop := tablePlaysRow.holds Tryd.pinned (OpenSpec.ofChange tablePlaysWrong)

/-- 'bywashlaw4.TableRoom': WHATEVER THE INPUT: true; the input reads as it did. -/
def tableRoomSpec : ChangeSpec := { name := "tableRoom", fn := fun _ => fun
  | [d1, d2] => { results := [.lit (.bool true)], args := [d1, d2] }
  | _ => none }
def tableRoomRow : OpenClaim := { program := "ytlfkomdkimphnaadoor", sum := "eb5e718f194534faee72b3f61363b0bb3f4dc59fcc905d1c5fd5e27462cf9114", func := "bywash/bywashlaw4.TableRoom", spec := "tableRoom", inPlace := ["slices.overlaps[bywash/api.Field]"], named := ["bywash/table.always"], apart := false, laid := [("bywash/table.always", laid_bywash_table_always)] }
def TableRoomSaid : Prop := tableRoomRow.holds Tryd.pinned (OpenSpec.ofChange tableRoomSpec)

/-- ITS FALSE NEIGHBOUR: 'it returns false'. Refute it at one input. -/
def tableRoomWrong : ChangeSpec := { name := "tableRoom", fn := fun _ => fun
  | [d1, d2] => { results := [.lit (.bool false)], args := [d1, d2] }
  | _ => none }
def TableRoomWrongFalsely : Prop := tableRoomRow.holds Tryd.pinned (OpenSpec.ofChange tableRoomWrong)

/-- 'bywashlaw4.TableFixed': WHATEVER THE INPUT: true; the input reads as it did. -/
def tableFixedSpec : ChangeSpec := { name := "tableFixed", fn := fun _ => fun
  | [d1, d2, d3] => { results := [.lit (.bool true)], args := [d1, d2, d3] }
  | _ => none }
def tableFixedRow : OpenClaim := { program := "ytlfkomdkimphnaadoor", sum := "eb5e718f194534faee72b3f61363b0bb3f4dc59fcc905d1c5fd5e27462cf9114", func := "bywash/bywashlaw4.TableFixed", spec := "tableFixed", inPlace := ["slices.overlaps[bywash/api.Field]"], named := ["bywash/table.always"], apart := false, laid := [("bywash/table.always", laid_bywash_table_always)] }
def TableFixedSaid : Prop := tableFixedRow.holds Tryd.pinned (OpenSpec.ofChange tableFixedSpec)

/-- ITS FALSE NEIGHBOUR: 'it returns false'. Refute it at one input. -/
def tableFixedWrong : ChangeSpec := { name := "tableFixed", fn := fun _ => fun
  | [d1, d2, d3] => { results := [.lit (.bool false)], args := [d1, d2, d3] }
  | _ => none }
def TableFixedWrongFalsely : Prop := tableFixedRow.holds Tryd.pinned (OpenSpec.ofChange tableFixedWrong)

/-- 'bywashlaw4.TableFinds': WHATEVER THE INPUT: true; the input reads as it did. -/
def tableFindsSpec : ChangeSpec := { name := "tableFinds", fn := fun _ => fun
  | [d1, d2] => { results := [.lit (.bool true)], args := [d1, d2] }
  | _ => none }
def tableFindsRow : OpenClaim := { program := "ytlfkomdkimphnaadoor", sum := "eb5e718f194534faee72b3f61363b0bb3f4dc59fcc905d1c5fd5e27462cf9114", func := "bywash/bywashlaw4.TableFinds", spec := "tableFinds", inPlace := ["slices.overlaps[bywash/api.Field]"], named := ["bywash/table.always"], apart := false, laid := [("bywash/table.always", laid_bywash_table_always)] }
def TableFindsSaid : Prop := tableFindsRow.holds Tryd.pinned (OpenSpec.ofChange tableFindsSpec)

/-- ITS FALSE NEIGHBOUR: 'it returns false'. Refute it at one input. -/
def tableFindsWrong : ChangeSpec := { name := "tableFinds", fn := fun _ => fun
  | [d1, d2] => { results := [.lit (.bool false)], args := [d1, d2] }
  | _ => none }
def TableFindsWrongFalsely : Prop := tableFindsRow.holds Tryd.pinned (OpenSpec.ofChange tableFindsWrong)

/-- 'bywashlaw4.TableShrinks': WHATEVER THE INPUT: true; the input reads as it did. -/
def tableShrinksSpec : ChangeSpec := { name := "tableShrinks", fn := fun _ => fun
  | [d1, d2, d3] => { results := [.lit (.bool true)], args := [d1, d2, d3] }
  | _ => none }
def tableShrinksRow : OpenClaim := { program := "ytlfkomdkimphnaadoor", sum := "eb5e718f194534faee72b3f61363b0bb3f4dc59fcc905d1c5fd5e27462cf9114", func := "bywash/bywashlaw4.TableShrinks", spec := "tableShrinks", inPlace := ["slices.overlaps[bywash/api.Field]"], named := ["bywash/table.always"], apart := false, laid := [("bywash/table.always", laid_bywash_table_always)] }
def TableShrinksSaid : Prop := tableShrinksRow.holds Tryd.pinned (OpenSpec.ofChange tableShrinksSpec)

/-- ITS FALSE NEIGHBOUR: 'it returns false'. Refute it at one input. -/
def tableShrinksWrong : ChangeSpec := { name := "tableShrinks", fn := fun _ => fun
  | [d1, d2, d3] => { results := [.lit (.bool false)], args := [d1, d2, d3] }
  | _ => none }
def TableShrinksWrongFalsely : Prop := tableShrinksRow.holds Tryd.pinned (OpenSpec.ofChange tableShrinksWrong)

/-- 'bywashlaw4.TableCosts': WHATEVER THE INPUT: true; the input reads as it did. -/
def tableCostsSpec : ChangeSpec := { name := "tableCosts", fn := fun _ => fun
  | [d] => { results := [.lit (.bool true)], args := [d] }
  | _ => none }
def tableCostsRow : OpenClaim := { program := "ytlfkomdkimphnaadoor", sum := "eb5e718f194534faee72b3f61363b0bb3f4dc59fcc905d1c5fd5e27462cf9114", func := "bywash/bywashlaw4.TableCosts", spec := "tableCosts", inPlace := ["slices.overlaps[bywash/api.Field]"], named := ["bywash/table.always"], apart := false, laid := [("bywash/table.always", laid_bywash_table_always)] }
def TableCostsSaid : Prop := tableCostsRow.holds Tryd.pinned (OpenSpec.ofChange tableCostsSpec)

/-- ITS FALSE NEIGHBOUR: 'it returns false'. Refute it at one input. -/
def tableCostsWrong : ChangeSpec := { name := "tableCosts", fn := fun _ => fun
  | [d] => { results := [.lit (.bool false)], args := [d] }
  | _ => none }
def TableCostsWrongFalsely : Prop := tableCostsRow.holds Tryd.pinned (OpenSpec.ofChange tableCostsWrong)

/- THE SECOND FORM. 'bulk': how many values and letters a reading holds, each counted each time it is reached (what is shared counts as often as it is met; a slice's spare places count too). A statement '..UptoSaid' is the law's where the arguments, and the package variables that the reading takes, are together of bulk at most 1048576: NARROWER than '..Said'. Prove '..Said' where nothing that the law and all that it calls make is longer than what came in: it says more and counts as full. Else prove '..UptoSaid'. A law counts once. -/
mutual
def uptoBulk {H : Type} : DataW H → Nat
  | .lit (.string bytes) => bytes.length + 1
  | .lit _ => 1
  | .nil => 1
  | .ptr d => uptoBulk d + 1
  | .slice elems spare => uptoBulkAll elems + uptoBulkAll spare + 1
  | .agg parts => uptoBulkAll parts + 1
  | .iface _ d => uptoBulk d + 1
  | .map entries => uptoBulkEntries entries + 1
  | .held _ => 1
def uptoBulkAll {H : Type} : List (DataW H) → Nat
  | [] => 0
  | d :: r => uptoBulk d + uptoBulkAll r
def uptoBulkEntries {H : Type} : List (Lit × DataW H) → Nat
  | [] => 0
  | x :: r => uptoBulkEntry x + uptoBulkEntries r
def uptoBulkEntry {H : Type} : Lit × DataW H → Nat
  | (.string bytes, d) => bytes.length + uptoBulk d + 1
  | (_, d) => uptoBulk d + 1
 end
def uptoSmall : (H : Type) → List (DataW H) → Bool := fun _ ds => decide (uptoBulkAll ds ≤ 1048576)
def OpenSpec.upto (s : _root_.Go.ChangeSpec) : _root_.Go.OpenSpec := { _root_.Go.OpenSpec.ofChange s with cond := some uptoSmall }

/-- 'bywashlaw4.TablePlays', WHERE WHAT IT READS IS OF BULK AT MOST 1048576: true; the input reads as it did. -/
def tablePlaysUptoRow : OpenClaim := { program := "ytlfkomdkimphnaadoor", sum := "eb5e718f194534faee72b3f61363b0bb3f4dc59fcc905d1c5fd5e27462cf9114", func := "bywash/bywashlaw4.TablePlays", spec := "tablePlays", inPlace := ["slices.overlaps[bywash/api.Field]"], named := ["bywash/table.always"], apart := false, laid := [("bywash/table.always", laid_bywash_table_always)], narrowed := true }
def TablePlaysUptoSaid : Prop := tablePlaysUptoRow.holds Tryd.pinned (OpenSpec.upto tablePlaysSpec)

/-- 'bywashlaw4.TableRoom', WHERE WHAT IT READS IS OF BULK AT MOST 1048576: true; the input reads as it did. -/
def tableRoomUptoRow : OpenClaim := { program := "ytlfkomdkimphnaadoor", sum := "eb5e718f194534faee72b3f61363b0bb3f4dc59fcc905d1c5fd5e27462cf9114", func := "bywash/bywashlaw4.TableRoom", spec := "tableRoom", inPlace := ["slices.overlaps[bywash/api.Field]"], named := ["bywash/table.always"], apart := false, laid := [("bywash/table.always", laid_bywash_table_always)], narrowed := true }
def TableRoomUptoSaid : Prop := tableRoomUptoRow.holds Tryd.pinned (OpenSpec.upto tableRoomSpec)

/-- 'bywashlaw4.TableFixed', WHERE WHAT IT READS IS OF BULK AT MOST 1048576: true; the input reads as it did. -/
def tableFixedUptoRow : OpenClaim := { program := "ytlfkomdkimphnaadoor", sum := "eb5e718f194534faee72b3f61363b0bb3f4dc59fcc905d1c5fd5e27462cf9114", func := "bywash/bywashlaw4.TableFixed", spec := "tableFixed", inPlace := ["slices.overlaps[bywash/api.Field]"], named := ["bywash/table.always"], apart := false, laid := [("bywash/table.always", laid_bywash_table_always)], narrowed := true }
def TableFixedUptoSaid : Prop := tableFixedUptoRow.holds Tryd.pinned (OpenSpec.upto tableFixedSpec)

/-- 'bywashlaw4.TableFinds', WHERE WHAT IT READS IS OF BULK AT MOST 1048576: true; the input reads as it did. -/
def tableFindsUptoRow : OpenClaim := { program := "ytlfkomdkimphnaadoor", sum := "eb5e718f194534faee72b3f61363b0bb3f4dc59fcc905d1c5fd5e27462cf9114", func := "bywash/bywashlaw4.TableFinds", spec := "tableFinds", inPlace := ["slices.overlaps[bywash/api.Field]"], named := ["bywash/table.always"], apart := false, laid := [("bywash/table.always", laid_bywash_table_always)], narrowed := true }
def TableFindsUptoSaid : Prop := tableFindsUptoRow.holds Tryd.pinned (OpenSpec.upto tableFindsSpec)

/-- 'bywashlaw4.TableShrinks', WHERE WHAT IT READS IS OF BULK AT MOST 1048576: true; the input reads as it did. -/
def tableShrinksUptoRow : OpenClaim := { program := "ytlfkomdkimphnaadoor", sum := "eb5e718f194534faee72b3f61363b0bb3f4dc59fcc905d1c5fd5e27462cf9114", func := "bywash/bywashlaw4.TableShrinks", spec := "tableShrinks", inPlace := ["slices.overlaps[bywash/api.Field]"], named := ["bywash/table.always"], apart := false, laid := [("bywash/table.always", laid_bywash_table_always)], narrowed := true }
def TableShrinksUptoSaid : Prop := tableShrinksUptoRow.holds Tryd.pinned (OpenSpec.upto tableShrinksSpec)

/-- 'bywashlaw4.TableCosts', WHERE WHAT IT READS IS OF BULK AT MOST 1048576: true; the input reads as it did. -/
def tableCostsUptoRow : OpenClaim := { program := "ytlfkomdkimphnaadoor", sum := "eb5e718f194534faee72b3f61363b0bb3f4dc59fcc905d1c5fd5e27462cf9114", func := "bywash/bywashlaw4.TableCosts", spec := "tableCosts", inPlace := ["slices.overlaps[bywash/api.Field]"], named := ["bywash/table.always"], apart := false, laid := [("bywash/table.always", laid_bywash_table_always)], narrowed := true }
def TableCostsUptoSaid : Prop := tableCostsUptoRow.holds Tryd.pinned (OpenSpec.upto tableCostsSpec)

end Rows
end Go.Proofs.YtlfkomdkimphnaaDoor
