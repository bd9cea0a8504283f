/-
  Package frame: Strip as a whole; Name, out of the program's variable.
-/
import Derived.Test.YtkogkkjdcackcaaRGet
import Derived.Test.YtkogkkjdcackcaaRStrip
namespace Go.Proofs.Ytkogkkjdcackcaa
open Go.RowKit
attribute [local irreducible] numL byteAt endOf idOf nums str unpadA behind

abbrev padB (fl : Int) : Bool := bits .and .i64 fl 8 != 0
abbrev weighB (fl : Int) : Bool := bits .and .i64 fl 32 != 0
/-- The kinds' names. -/
def namesL : List ByteArray := [⟨#[100, 97, 116, 97]⟩, ⟨#[104, 101, 97, 100, 101, 114, 115]⟩, ⟨#[112, 114, 105, 111, 114, 105, 116, 121]⟩, ⟨#[114, 101, 115, 101, 116]⟩, ⟨#[115, 101, 116, 116, 105, 110, 103, 115]⟩, ⟨#[112, 114, 111, 109, 105, 115, 101]⟩, ⟨#[112, 105, 110, 103]⟩, ⟨#[97, 119, 97, 121]⟩, ⟨#[117, 112, 100, 97, 116, 101]⟩, ⟨#[99, 111, 110, 116, 105, 110, 117, 101]⟩]
theorem namesL_length : namesL.length = 10 := rfl
def nameA (k : Int) : ByteArray := if 0 ≤ k ∧ k ≤ 9 then namesL.getD k.toNat ⟨#[]⟩ else ⟨#[111, 116, 104, 101, 114]⟩
/-- The program's variable holds them. -/
def Env (w : World) : Prop := 0 < w.heap.size ∧ ∀ i s, namesL[i]? = some s → w.cell? ⟨0, i, none⟩ = some (.string s)
theorem Env.keeps {S : Nat → Prop} {w w' : World} (h : Env w) (hk : Keeps S w w') (hS : ¬ S 0) : Env w' :=
  ⟨Nat.lt_of_lt_of_le h.1 hk.size, fun i s hi => (hk.cell (p := ⟨0, i, none⟩) h.1 hS).trans (h.2 i s hi)⟩
theorem Env.quiet {w w' : World} (h : Env w) (hk : Keeps nobody w w') : Env w' := h.keeps hk id

end Go.Proofs.Ytkogkkjdcackcaa
