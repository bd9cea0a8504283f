/-
  No cell of these rows narrows 'for every input' (looked for: loops, veiled, ifaces, maps, wideKeys, modest, calm, conditions, laid).
  DERIVED. THE GIVEN ROWS OF THIS SEAT. 3 by the template 'for every input the law returns true; each argument reads behind the call as it read before'; 0 by the template 'total and deterministic' (their statements: YtpjmiiihninhnaaTotals.lean).
  GIVEN WITH THE SEED: the statements are not yours to turn. If you find one false, say at which input.
  Laid BY PROGRAM, IN A SANDBOX (cutbox-rows.mjs): the forced cells as the released guide's own fill.sh prints them over the translation ac59a662ddd74ab1… (all of the seat's roots in one cut). By AI agents, Wed Nov 11 2026. No macro, syntax, notation, axiom, sorry.
-/
import Derived.Test.YtpjmiiihninhnaaChecked
import GoSem.Claim
import GoSem.ClaimJoined
import GoSem.ClaimMapViews
import Derived.JoinedTies
import Derived.KernelRfl
namespace Go.Proofs.Ytpjmiiihninhnaa
/- THE CELL 'sum', in the pinned program and in every row, IS THE sha256 OF THE DUMP (.gsa) THAT YtpjmiiihninhnaaProg.lean LOADS. Nothing in Lean hashes anything: it is a label: what it is worth is what the hold of that sum in a sandbox is worth. -/
noncomputable def Try.pinned : Pinned := { name := "ytpjmiiihninhnaa", sum := "ac59a662ddd74ab130c4aebe56c794b08af42ec0315846284ad433d633bc2c3b", checked := Try.checked }
namespace Rows
def none {H : Type} : Left H := { results := [], args := [] }

/-- 'bywashlaw18.IdsPlays': WHATEVER THE INPUT: true; the input reads as it did. -/
def idsPlaysSpec : ChangeSpec := { name := "idsPlays", fn := fun _ => fun
  | [d1, d2, d3] => { results := [.lit (.bool true)], args := [d1, d2, d3] }
  | _ => none }
def idsPlaysRow : OpenClaim := { program := "ytpjmiiihninhnaa", sum := "ac59a662ddd74ab130c4aebe56c794b08af42ec0315846284ad433d633bc2c3b", func := "bywash/bywashlaw18.IdsPlays", spec := "idsPlays", apart := false }
def IdsPlaysSaid : Prop := idsPlaysRow.holds Try.pinned (OpenSpec.ofChange idsPlaysSpec)

/-- ITS FALSE NEIGHBOUR: 'it returns false'. Refute it at one input. -/
def idsPlaysWrong : ChangeSpec := { name := "idsPlays", fn := fun _ => fun
  | [d1, d2, d3] => { results := [.lit (.bool false)], args := [d1, d2, d3] }
  | _ => none }
def IdsPlaysWrongFalsely : Prop := idsPlaysRow.holds Try.pinned (OpenSpec.ofChange idsPlaysWrong)

/-- 'bywashlaw18.IdsRise': WHATEVER THE INPUT: true; the input reads as it did. -/
def idsRiseSpec : ChangeSpec := { name := "idsRise", fn := fun _ => fun
  | [d1, d2] => { results := [.lit (.bool true)], args := [d1, d2] }
  | _ => none }
def idsRiseRow : OpenClaim := { program := "ytpjmiiihninhnaa", sum := "ac59a662ddd74ab130c4aebe56c794b08af42ec0315846284ad433d633bc2c3b", func := "bywash/bywashlaw18.IdsRise", spec := "idsRise", apart := false }
def IdsRiseSaid : Prop := idsRiseRow.holds Try.pinned (OpenSpec.ofChange idsRiseSpec)

/-- ITS FALSE NEIGHBOUR: 'it returns false'. Refute it at one input. -/
def idsRiseWrong : ChangeSpec := { name := "idsRise", fn := fun _ => fun
  | [d1, d2] => { results := [.lit (.bool false)], args := [d1, d2] }
  | _ => none }
def IdsRiseWrongFalsely : Prop := idsRiseRow.holds Try.pinned (OpenSpec.ofChange idsRiseWrong)

/-- 'bywashlaw18.IdsOdd': WHATEVER THE INPUT: true; the input reads as it did. -/
def idsOddSpec : ChangeSpec := { name := "idsOdd", fn := fun _ => fun
  | [d1, d2] => { results := [.lit (.bool true)], args := [d1, d2] }
  | _ => none }
def idsOddRow : OpenClaim := { program := "ytpjmiiihninhnaa", sum := "ac59a662ddd74ab130c4aebe56c794b08af42ec0315846284ad433d633bc2c3b", func := "bywash/bywashlaw18.IdsOdd", spec := "idsOdd", apart := false }
def IdsOddSaid : Prop := idsOddRow.holds Try.pinned (OpenSpec.ofChange idsOddSpec)

/-- ITS FALSE NEIGHBOUR: 'it returns false'. Refute it at one input. -/
def idsOddWrong : ChangeSpec := { name := "idsOdd", fn := fun _ => fun
  | [d1, d2] => { results := [.lit (.bool false)], args := [d1, d2] }
  | _ => none }
def IdsOddWrongFalsely : Prop := idsOddRow.holds Try.pinned (OpenSpec.ofChange idsOddWrong)

/- THE SECOND FORM. 'bulk': how many values and letters a reading holds, each counted each time it is reached (what is shared counts as often as it is met; a slice's spare places count too). A statement '..UptoSaid' is the law's where the arguments, and the package variables that the reading takes, are together of bulk at most 1048576: NARROWER than '..Said'. Prove '..Said' where nothing that the law and all that it calls make is longer than what came in: it says more and counts as full. Else prove '..UptoSaid'. A law counts once. -/
mutual
def uptoBulk {H : Type} : DataW H → Nat
  | .lit (.string bytes) => bytes.length + 1
  | .lit _ => 1
  | .nil => 1
  | .ptr d => uptoBulk d + 1
  | .slice elems spare => uptoBulkAll elems + uptoBulkAll spare + 1
  | .agg parts => uptoBulkAll parts + 1
  | .iface _ d => uptoBulk d + 1
  | .map entries => uptoBulkEntries entries + 1
  | .held _ => 1
def uptoBulkAll {H : Type} : List (DataW H) → Nat
  | [] => 0
  | d :: r => uptoBulk d + uptoBulkAll r
def uptoBulkEntries {H : Type} : List (Lit × DataW H) → Nat
  | [] => 0
  | x :: r => uptoBulkEntry x + uptoBulkEntries r
def uptoBulkEntry {H : Type} : Lit × DataW H → Nat
  | (.string bytes, d) => bytes.length + uptoBulk d + 1
  | (_, d) => uptoBulk d + 1
 end
def uptoSmall : (H : Type) → List (DataW H) → Bool := fun _ ds => decide (uptoBulkAll ds ≤ 1048576)
def OpenSpec.upto (s : _root_.Go.ChangeSpec) : _root_.Go.OpenSpec := { _root_.Go.OpenSpec.ofChange s with cond := some uptoSmall }

/-- 'bywashlaw18.IdsPlays', WHERE WHAT IT READS IS OF BULK AT MOST 1048576: true; the input reads as it did. -/
def idsPlaysUptoRow : OpenClaim := { program := "ytpjmiiihninhnaa", sum := "ac59a662ddd74ab130c4aebe56c794b08af42ec0315846284ad433d633bc2c3b", func := "bywash/bywashlaw18.IdsPlays", spec := "idsPlays", apart := false, narrowed := true }
def IdsPlaysUptoSaid : Prop := idsPlaysUptoRow.holds Try.pinned (OpenSpec.upto idsPlaysSpec)

/-- 'bywashlaw18.IdsRise', WHERE WHAT IT READS IS OF BULK AT MOST 1048576: true; the input reads as it did. -/
def idsRiseUptoRow : OpenClaim := { program := "ytpjmiiihninhnaa", sum := "ac59a662ddd74ab130c4aebe56c794b08af42ec0315846284ad433d633bc2c3b", func := "bywash/bywashlaw18.IdsRise", spec := "idsRise", apart := false, narrowed := true }
def IdsRiseUptoSaid : Prop := idsRiseUptoRow.holds Try.pinned (OpenSpec.upto idsRiseSpec)

/-- 'bywashlaw18.IdsOdd', WHERE WHAT IT READS IS OF BULK AT MOST 1048576: true; the input reads as it did. -/
def idsOddUptoRow : OpenClaim := { program := "ytpjmiiihninhnaa", sum := "ac59a662ddd74ab130c4aebe56c794b08af42ec0315846284ad433d633bc2c3b", func := "bywash/bywashlaw18.IdsOdd", spec := "idsOdd", apart := false, narrowed := true }
def IdsOddUptoSaid : Prop := idsOddUptoRow.holds Try.pinned (OpenSpec.upto idsOddSpec)

end Rows
end Go.Proofs.Ytpjmiiihninhnaa
