/-
  Errors as data: a failure, a wrapped one, one that is joined with none or with a plain failure, a plain text. No program.
-/
import Derived.Test.YtekjnicgffeghaaDoorGStr
namespace Go.Proofs.YtekjnicgffeghaaDoor
open Go.RowKit

def namesL : List (List UInt8) := [[111, 107], [97, 114, 103], [109, 111, 114, 101], [102, 111, 114, 109], [114, 97, 110, 103, 101], [115, 105, 122, 101], [110, 97, 109, 101], [111, 114, 100, 101, 114], [115, 116, 97, 116, 101], [102, 108, 111, 119], [112, 97, 99, 107], [112, 114, 111, 116, 111], [99, 108, 111, 115, 101, 100], [98, 117, 115, 121], [103, 111, 110, 101], [114, 101, 102, 117, 115, 101, 100], [114, 101, 115, 101, 116], [99, 97, 110, 99, 101, 108], [108, 97, 116, 101], [100, 101, 97, 100], [100, 105, 97, 108], [110, 111, 110, 101], [108, 101, 110, 103, 116, 104], [109, 97, 110, 121]]
def nameAt (i : Nat) : ByteArray := ⟨(namesL.getD i []).toArray⟩
def nameOf (c : Int) : ByteArray := if 0 ≤ c ∧ c < 24 then nameAt c.toNat else ⟨#[101, 114, 114, 111, 114]⟩
theorem nameAt_size (i : Nat) : (nameAt i).size ≤ 7 := by
  by_cases h : i < 24
  · have : ∀ i, i < 24 → (nameAt i).size ≤ 7 := by decide +kernel
    exact this i h
  · have e : namesL[i]? = none := List.getElem?_eq_none (by show 24 ≤ i; omega)
    have : nameAt i = ⟨#[]⟩ := by simp [nameAt, e]
    rw [this]
    decide
theorem nameOf_size (c : Int) : (nameOf c).size ≤ 7 := by
  unfold nameOf
  split
  · exact nameAt_size _
  · decide

/-- An error. -/
inductive Er where
  | nil
  | pl (msg : ByteArray)
  | fl (op : ByteArray) (c : Int) (e : Er)
/-- How deep it is. -/
def Er.deep : Er → Nat
  | nil => 0
  | pl _ => 1
  | fl _ _ e => e.deep + 1
/-- The first failure's code. -/
def Er.first : Er → Option Int
  | nil => none
  | pl _ => none
  | fl _ c _ => some c
/-- Is it of a code (that is not OK)? -/
def Er.has (t : Int) : Er → Bool
  | nil => false
  | pl _ => false
  | fl _ c e => t == c || e.has t
/-- An op ahead of the words. -/
def pre (op : ByteArray) : ByteArray := if op.toList.isEmpty then ⟨#[]⟩ else op ++ ⟨#[58, 32]⟩
def Er.isNil : Er → Bool
  | nil => true
  | _ => false
/-- Its words. -/
def Er.words : Er → ByteArray
  | nil => ⟨#[]⟩
  | pl m => m
  | fl op c e => pre op ++ (if e.isNil then nameOf c else e.words)
/-- The ops by which it came. -/
def Er.ops : Er → List ByteArray
  | nil => []
  | pl _ => []
  | fl op _ e => (if op.toList.isEmpty then [] else [op]) ++ e.ops
theorem Er.has_first {t : Int} {e : Er} (h : e.first = none) : e.has t = false := by
  induction e with
  | nil => rfl
  | pl => rfl
  | fl => simp [first] at h
theorem Er.deep_pos {e : Er} (h : e.isNil = false) : 0 < e.deep := by cases e <;> simp [isNil, deep] at *
end Go.Proofs.YtekjnicgffeghaaDoor
