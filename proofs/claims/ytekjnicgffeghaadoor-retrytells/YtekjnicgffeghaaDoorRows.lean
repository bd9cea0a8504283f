/-
  NARROWER THAN 'FOR EVERY INPUT', by the rows' own cells (each row's printed sentence says how): RetryTells: laid · RetryOnce: laid · RetryMost: laid · RetryWraps: laid · RetryFinal: laid.
  DERIVED. THE GIVEN ROWS OF THIS SEAT. 5 by the template 'for every input the law returns true; each argument reads behind the call as it read before'; 0 by the template 'total and deterministic' (their statements: YtekjnicgffeghaaDoorTotals.lean).
  GIVEN WITH THE SEED: the statements are not yours to turn. If you find one false, say at which input.
  Laid BY PROGRAM, IN A SANDBOX (cutbox-rows.mjs): the forced cells as the released guide's own fill.sh prints them over the translation 49c45c3b01263c59… (all of the seat's roots in one cut). By AI agents, Wed Nov 11 2026. No macro, syntax, notation, axiom, sorry.
-/
import Derived.Test.YtekjnicgffeghaaDoorChecked
import GoSem.Claim
import GoSem.ClaimJoined
import GoSem.ClaimMapViews
import Derived.JoinedTies
import Derived.KernelRfl
namespace Go.Proofs.YtekjnicgffeghaaDoor
/- THE CELL 'sum', in the pinned program and in every row, IS THE sha256 OF THE DUMP (.gsa) THAT YtekjnicgffeghaaDoorProg.lean LOADS. Nothing in Lean hashes anything: it is a label: what it is worth is what the hold of that sum in a sandbox is worth. -/
noncomputable def Tryd.pinned : Pinned := { name := "ytekjnicgffeghaadoor", sum := "49c45c3b01263c59fbfed075921ddb62e26c3f32b31003b382cb31ca9a080b53", checked := Tryd.checked }
namespace Rows
def none {H : Type} : Left H := { results := [], args := [] }

/- WHAT THE LISTED PACKAGE-LEVEL VARIABLES READ AS WHEN THE CALL BEGINS. Each datum BY PROGRAM (the guide's laid-datum.mjs) off the statement by which the dump's own 'gosem.cut.vars' lays the variable. In a bare row this is a premise. The card (YtekjnicgffeghaaDoorCards.lean) ties it to the program's text. -/
def laid_errors_errorType {H : Type} : DataW H := .iface "internal/reflectlite.rtype" (.agg [.ptr (.lit (.string [101, 114, 114, 111, 114]))])
def laid_bywash_fail_names {H : Type} : DataW H := .agg [.lit (.string [111, 107]), .lit (.string [97, 114, 103]), .lit (.string [109, 111, 114, 101]), .lit (.string [102, 111, 114, 109]), .lit (.string [114, 97, 110, 103, 101]), .lit (.string [115, 105, 122, 101]), .lit (.string [110, 97, 109, 101]), .lit (.string [111, 114, 100, 101, 114]), .lit (.string [115, 116, 97, 116, 101]), .lit (.string [102, 108, 111, 119]), .lit (.string [112, 97, 99, 107]), .lit (.string [112, 114, 111, 116, 111]), .lit (.string [99, 108, 111, 115, 101, 100]), .lit (.string [98, 117, 115, 121]), .lit (.string [103, 111, 110, 101]), .lit (.string [114, 101, 102, 117, 115, 101, 100]), .lit (.string [114, 101, 115, 101, 116]), .lit (.string [99, 97, 110, 99, 101, 108]), .lit (.string [108, 97, 116, 101]), .lit (.string [100, 101, 97, 100]), .lit (.string [100, 105, 97, 108]), .lit (.string [110, 111, 110, 101]), .lit (.string [108, 101, 110, 103, 116, 104]), .lit (.string [109, 97, 110, 121])]
def laid_bywash_retry_errFinal {H : Type} : DataW H := .iface "*errors.errorString" (.ptr (.agg [.lit (.string [116, 104, 101, 32, 101, 114, 114, 111, 114, 32, 105, 115, 32, 116, 104, 101, 32, 108, 97, 115, 116, 32, 119, 111, 114, 100])]))
def laid_bywash_retry_errTwice {H : Type} : DataW H := .iface "*errors.errorString" (.ptr (.agg [.lit (.string [116, 104, 101, 32, 115, 101, 114, 118, 101, 114, 32, 109, 105, 103, 104, 116, 32, 100, 111, 32, 105, 116, 32, 116, 119, 105, 99, 101])]))

/-- 'bywashlaw21.RetryTells': WHATEVER THE INPUT: true; the input reads as it did. -/
def retryTellsSpec : ChangeSpec := { name := "retryTells", fn := fun _ => fun
  | [d1, d2, d3, d4, d5] => { results := [.lit (.bool true)], args := [d1, d2, d3, d4, d5] }
  | _ => none }
def retryTellsRow : OpenClaim := { program := "ytekjnicgffeghaadoor", sum := "49c45c3b01263c59fbfed075921ddb62e26c3f32b31003b382cb31ca9a080b53", func := "bywash/bywashlaw21.RetryTells", spec := "retryTells", inPlace := ["internal/reflectlite.TypeOf", "internal/reflectlite.ValueOf", "(internal/reflectlite.Value).Type", "(internal/reflectlite.Value).IsNil", "(internal/reflectlite.Value).Elem", "(internal/reflectlite.Value).Set"], unfollowed := true, recurses := true, named := ["bywash/retry.errTwice", "bywash/retry.errFinal", "bywash/fail.names", "errors.errorType"], apart := false, laid := [("errors.errorType", laid_errors_errorType), ("bywash/fail.names", laid_bywash_fail_names), ("bywash/retry.errFinal", laid_bywash_retry_errFinal), ("bywash/retry.errTwice", laid_bywash_retry_errTwice)] }
def RetryTellsSaid : Prop := retryTellsRow.holds Tryd.pinned (OpenSpec.ofChange retryTellsSpec)

/-- ITS FALSE NEIGHBOUR: 'it returns false'. Refute it at one input. -/
def retryTellsWrong : ChangeSpec := { name := "retryTells", fn := fun _ => fun
  | [d1, d2, d3, d4, d5] => { results := [.lit (.bool false)], args := [d1, d2, d3, d4, d5] }
  | _ => none }
def RetryTellsWrongFalsely : Prop := retryTellsRow.holds Tryd.pinned (OpenSpec.ofChange retryTellsWrong)

/-- 'bywashlaw21.RetryOnce': WHATEVER THE INPUT: true; the input reads as it did. -/
def retryOnceSpec : ChangeSpec := { name := "retryOnce", fn := fun _ => fun
  | [d1, d2, d3, d4] => { results := [.lit (.bool true)], args := [d1, d2, d3, d4] }
  | _ => none }
def retryOnceRow : OpenClaim := { program := "ytekjnicgffeghaadoor", sum := "49c45c3b01263c59fbfed075921ddb62e26c3f32b31003b382cb31ca9a080b53", func := "bywash/bywashlaw21.RetryOnce", spec := "retryOnce", inPlace := ["internal/reflectlite.TypeOf"], unfollowed := true, recurses := true, named := ["bywash/retry.errTwice", "bywash/retry.errFinal"], apart := false, laid := [("bywash/retry.errFinal", laid_bywash_retry_errFinal), ("bywash/retry.errTwice", laid_bywash_retry_errTwice)] }
def RetryOnceSaid : Prop := retryOnceRow.holds Tryd.pinned (OpenSpec.ofChange retryOnceSpec)

/-- ITS FALSE NEIGHBOUR: 'it returns false'. Refute it at one input. -/
def retryOnceWrong : ChangeSpec := { name := "retryOnce", fn := fun _ => fun
  | [d1, d2, d3, d4] => { results := [.lit (.bool false)], args := [d1, d2, d3, d4] }
  | _ => none }
def RetryOnceWrongFalsely : Prop := retryOnceRow.holds Tryd.pinned (OpenSpec.ofChange retryOnceWrong)

/-- 'bywashlaw21.RetryMost': WHATEVER THE INPUT: true; the input reads as it did. -/
def retryMostSpec : ChangeSpec := { name := "retryMost", fn := fun _ => fun
  | [d1, d2, d3, d4] => { results := [.lit (.bool true)], args := [d1, d2, d3, d4] }
  | _ => none }
def retryMostRow : OpenClaim := { program := "ytekjnicgffeghaadoor", sum := "49c45c3b01263c59fbfed075921ddb62e26c3f32b31003b382cb31ca9a080b53", func := "bywash/bywashlaw21.RetryMost", spec := "retryMost", inPlace := ["internal/reflectlite.TypeOf"], unfollowed := true, recurses := true, named := ["bywash/retry.errTwice", "bywash/retry.errFinal"], apart := false, laid := [("bywash/retry.errFinal", laid_bywash_retry_errFinal), ("bywash/retry.errTwice", laid_bywash_retry_errTwice)] }
def RetryMostSaid : Prop := retryMostRow.holds Tryd.pinned (OpenSpec.ofChange retryMostSpec)

/-- ITS FALSE NEIGHBOUR: 'it returns false'. Refute it at one input. -/
def retryMostWrong : ChangeSpec := { name := "retryMost", fn := fun _ => fun
  | [d1, d2, d3, d4] => { results := [.lit (.bool false)], args := [d1, d2, d3, d4] }
  | _ => none }
def RetryMostWrongFalsely : Prop := retryMostRow.holds Tryd.pinned (OpenSpec.ofChange retryMostWrong)

/-- 'bywashlaw21.RetryWraps': WHATEVER THE INPUT: true; the input reads as it did. -/
def retryWrapsSpec : ChangeSpec := { name := "retryWraps", fn := fun _ => fun
  | [d1, d2] => { results := [.lit (.bool true)], args := [d1, d2] }
  | _ => none }
def retryWrapsRow : OpenClaim := { program := "ytekjnicgffeghaadoor", sum := "49c45c3b01263c59fbfed075921ddb62e26c3f32b31003b382cb31ca9a080b53", func := "bywash/bywashlaw21.RetryWraps", spec := "retryWraps", inPlace := ["internal/reflectlite.TypeOf"], unfollowed := true, recurses := true, named := ["bywash/retry.errTwice", "bywash/retry.errFinal"], apart := false, laid := [("bywash/retry.errFinal", laid_bywash_retry_errFinal), ("bywash/retry.errTwice", laid_bywash_retry_errTwice)] }
def RetryWrapsSaid : Prop := retryWrapsRow.holds Tryd.pinned (OpenSpec.ofChange retryWrapsSpec)

/-- ITS FALSE NEIGHBOUR: 'it returns false'. Refute it at one input. -/
def retryWrapsWrong : ChangeSpec := { name := "retryWraps", fn := fun _ => fun
  | [d1, d2] => { results := [.lit (.bool false)], args := [d1, d2] }
  | _ => none }
def RetryWrapsWrongFalsely : Prop := retryWrapsRow.holds Tryd.pinned (OpenSpec.ofChange retryWrapsWrong)

/-- 'bywashlaw21.RetryFinal': WHATEVER THE INPUT: true; the input reads as it did. -/
def retryFinalSpec : ChangeSpec := { name := "retryFinal", fn := fun _ => fun
  | [d1, d2, d3, d4, d5] => { results := [.lit (.bool true)], args := [d1, d2, d3, d4, d5] }
  | _ => none }
def retryFinalRow : OpenClaim := { program := "ytekjnicgffeghaadoor", sum := "49c45c3b01263c59fbfed075921ddb62e26c3f32b31003b382cb31ca9a080b53", func := "bywash/bywashlaw21.RetryFinal", spec := "retryFinal", inPlace := ["internal/reflectlite.TypeOf"], unfollowed := true, recurses := true, named := ["bywash/retry.errTwice", "bywash/retry.errFinal"], apart := false, laid := [("bywash/retry.errFinal", laid_bywash_retry_errFinal), ("bywash/retry.errTwice", laid_bywash_retry_errTwice)] }
def RetryFinalSaid : Prop := retryFinalRow.holds Tryd.pinned (OpenSpec.ofChange retryFinalSpec)

/-- ITS FALSE NEIGHBOUR: 'it returns false'. Refute it at one input. -/
def retryFinalWrong : ChangeSpec := { name := "retryFinal", fn := fun _ => fun
  | [d1, d2, d3, d4, d5] => { results := [.lit (.bool false)], args := [d1, d2, d3, d4, d5] }
  | _ => none }
def RetryFinalWrongFalsely : Prop := retryFinalRow.holds Tryd.pinned (OpenSpec.ofChange retryFinalWrong)

/- THE SECOND FORM. 'bulk': how many values and letters a reading holds, each counted each time it is reached (what is shared counts as often as it is met; a slice's spare places count too). A statement '..UptoSaid' is the law's where the arguments, and the package variables that the reading takes, are together of bulk at most 1048576: NARROWER than '..Said'. Prove '..Said' where nothing that the law and all that it calls make is longer than what came in: it says more and counts as full. Else prove '..UptoSaid'. A law counts once. -/
mutual
def uptoBulk {H : Type} : DataW H → Nat
  | .lit (.string bytes) => bytes.length + 1
  | .lit _ => 1
  | .nil => 1
  | .ptr d => uptoBulk d + 1
  | .slice elems spare => uptoBulkAll elems + uptoBulkAll spare + 1
  | .agg parts => uptoBulkAll parts + 1
  | .iface _ d => uptoBulk d + 1
  | .map entries => uptoBulkEntries entries + 1
  | .held _ => 1
def uptoBulkAll {H : Type} : List (DataW H) → Nat
  | [] => 0
  | d :: r => uptoBulk d + uptoBulkAll r
def uptoBulkEntries {H : Type} : List (Lit × DataW H) → Nat
  | [] => 0
  | x :: r => uptoBulkEntry x + uptoBulkEntries r
def uptoBulkEntry {H : Type} : Lit × DataW H → Nat
  | (.string bytes, d) => bytes.length + uptoBulk d + 1
  | (_, d) => uptoBulk d + 1
 end
def uptoSmall : (H : Type) → List (DataW H) → Bool := fun _ ds => decide (uptoBulkAll ds ≤ 1048576)
def OpenSpec.upto (s : _root_.Go.ChangeSpec) : _root_.Go.OpenSpec := { _root_.Go.OpenSpec.ofChange s with cond := some uptoSmall }

/-- 'bywashlaw21.RetryTells', WHERE WHAT IT READS IS OF BULK AT MOST 1048576: true; the input reads as it did. -/
def retryTellsUptoRow : OpenClaim := { program := "ytekjnicgffeghaadoor", sum := "49c45c3b01263c59fbfed075921ddb62e26c3f32b31003b382cb31ca9a080b53", func := "bywash/bywashlaw21.RetryTells", spec := "retryTells", inPlace := ["internal/reflectlite.TypeOf", "internal/reflectlite.ValueOf", "(internal/reflectlite.Value).Type", "(internal/reflectlite.Value).IsNil", "(internal/reflectlite.Value).Elem", "(internal/reflectlite.Value).Set"], unfollowed := true, recurses := true, named := ["bywash/retry.errTwice", "bywash/retry.errFinal", "bywash/fail.names", "errors.errorType"], apart := false, laid := [("errors.errorType", laid_errors_errorType), ("bywash/fail.names", laid_bywash_fail_names), ("bywash/retry.errFinal", laid_bywash_retry_errFinal), ("bywash/retry.errTwice", laid_bywash_retry_errTwice)], narrowed := true }
def RetryTellsUptoSaid : Prop := retryTellsUptoRow.holds Tryd.pinned (OpenSpec.upto retryTellsSpec)

/-- 'bywashlaw21.RetryOnce', WHERE WHAT IT READS IS OF BULK AT MOST 1048576: true; the input reads as it did. -/
def retryOnceUptoRow : OpenClaim := { program := "ytekjnicgffeghaadoor", sum := "49c45c3b01263c59fbfed075921ddb62e26c3f32b31003b382cb31ca9a080b53", func := "bywash/bywashlaw21.RetryOnce", spec := "retryOnce", inPlace := ["internal/reflectlite.TypeOf"], unfollowed := true, recurses := true, named := ["bywash/retry.errTwice", "bywash/retry.errFinal"], apart := false, laid := [("bywash/retry.errFinal", laid_bywash_retry_errFinal), ("bywash/retry.errTwice", laid_bywash_retry_errTwice)], narrowed := true }
def RetryOnceUptoSaid : Prop := retryOnceUptoRow.holds Tryd.pinned (OpenSpec.upto retryOnceSpec)

/-- 'bywashlaw21.RetryMost', WHERE WHAT IT READS IS OF BULK AT MOST 1048576: true; the input reads as it did. -/
def retryMostUptoRow : OpenClaim := { program := "ytekjnicgffeghaadoor", sum := "49c45c3b01263c59fbfed075921ddb62e26c3f32b31003b382cb31ca9a080b53", func := "bywash/bywashlaw21.RetryMost", spec := "retryMost", inPlace := ["internal/reflectlite.TypeOf"], unfollowed := true, recurses := true, named := ["bywash/retry.errTwice", "bywash/retry.errFinal"], apart := false, laid := [("bywash/retry.errFinal", laid_bywash_retry_errFinal), ("bywash/retry.errTwice", laid_bywash_retry_errTwice)], narrowed := true }
def RetryMostUptoSaid : Prop := retryMostUptoRow.holds Tryd.pinned (OpenSpec.upto retryMostSpec)

/-- 'bywashlaw21.RetryWraps', WHERE WHAT IT READS IS OF BULK AT MOST 1048576: true; the input reads as it did. -/
def retryWrapsUptoRow : OpenClaim := { program := "ytekjnicgffeghaadoor", sum := "49c45c3b01263c59fbfed075921ddb62e26c3f32b31003b382cb31ca9a080b53", func := "bywash/bywashlaw21.RetryWraps", spec := "retryWraps", inPlace := ["internal/reflectlite.TypeOf"], unfollowed := true, recurses := true, named := ["bywash/retry.errTwice", "bywash/retry.errFinal"], apart := false, laid := [("bywash/retry.errFinal", laid_bywash_retry_errFinal), ("bywash/retry.errTwice", laid_bywash_retry_errTwice)], narrowed := true }
def RetryWrapsUptoSaid : Prop := retryWrapsUptoRow.holds Tryd.pinned (OpenSpec.upto retryWrapsSpec)

/-- 'bywashlaw21.RetryFinal', WHERE WHAT IT READS IS OF BULK AT MOST 1048576: true; the input reads as it did. -/
def retryFinalUptoRow : OpenClaim := { program := "ytekjnicgffeghaadoor", sum := "49c45c3b01263c59fbfed075921ddb62e26c3f32b31003b382cb31ca9a080b53", func := "bywash/bywashlaw21.RetryFinal", spec := "retryFinal", inPlace := ["internal/reflectlite.TypeOf"], unfollowed := true, recurses := true, named := ["bywash/retry.errTwice", "bywash/retry.errFinal"], apart := false, laid := [("bywash/retry.errFinal", laid_bywash_retry_errFinal), ("bywash/retry.errTwice", laid_bywash_retry_errTwice)], narrowed := true }
def RetryFinalUptoSaid : Prop := retryFinalUptoRow.holds Tryd.pinned (OpenSpec.upto retryFinalSpec)

end Rows
end Go.Proofs.YtekjnicgffeghaaDoor
