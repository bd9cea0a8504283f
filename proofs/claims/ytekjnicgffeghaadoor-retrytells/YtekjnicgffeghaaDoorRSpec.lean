/-
  What stands against sending something again; whether it may be sent again; the error that is told. No program.
-/
import Derived.Test.YtekjnicgffeghaaDoorESpec
namespace Go.Proofs.YtekjnicgffeghaaDoor
open Go.RowKit

def safeB (m : ByteArray) : Bool := m.toList == [71, 69, 84] || (m.toList == [72, 69, 65, 68] || (m.toList == [80, 85, 84] || (m.toList == [68, 69, 76, 69, 84, 69] || m.toList == [79, 80, 84, 73, 79, 78, 83])))
/-- Refused or gone. -/
def rgB (c : Int) : Bool := c == 15 || c == 14
/-- Dead, reset, not dialled, late. -/
def drB (c : Int) : Bool := c == 19 || (c == 16 || (c == 20 || c == 18))
/-- 0: nothing stands against it; 1: the server might do it twice; 2: the error is the last word. -/
def stands (m : ByteArray) (c : Int) (wr : Bool) : Nat := if rgB c then 0 else if drB c then (if wr && !safeB m then 1 else 0) else 2
def againB (m : ByteArray) (c : Int) (wr : Bool) (tries most : Int) : Bool := decide (tries < most) && stands m c wr == 0
def finalB (c : Int) : Bool := !(rgB c || drB c)
abbrev callS : ByteArray := ⟨#[99, 97, 108, 108]⟩
abbrev againS : ByteArray := ⟨#[97, 103, 97, 105, 110]⟩
def callE (c : Int) : Er := .fl callS c (.fl ⟨#[]⟩ c .nil)
def errE (c tries : Int) : Er := if 1 < tries then .fl againS 23 (callE c) else callE c
theorem stands_rg {m : ByteArray} {c : Int} {wr : Bool} (h : rgB c = true) : stands m c wr = 0 := by simp [stands, h]
theorem stands_dr {m : ByteArray} {c : Int} {wr : Bool} (h : drB c = true) : stands m c wr = if wr && !safeB m then 1 else 0 := by
  have h0 : rgB c = false := by
    simp only [drB, Bool.or_eq_true, beq_iff_eq] at h
    rcases h with rfl | rfl | rfl | rfl <;> decide
  simp [stands, h0, h]
theorem stands_none {m : ByteArray} {c : Int} {wr : Bool} (h : rgB c = false) (h2 : drB c = false) : stands m c wr = 2 := by simp [stands, h, h2]
theorem safe_empty : safeB ⟨#[]⟩ = false := by decide +kernel
theorem final_stands (c : Int) : finalB c = (stands ⟨#[]⟩ c true == 2) := by
  cases h : rgB c
  · cases h2 : drB c
    · simp [stands_none h h2, finalB, h, h2]
    · simp [stands_dr h2, finalB, h, h2, safe_empty]
  · simp [stands_rg h, finalB, h]
theorem stands_le (m : ByteArray) (c : Int) (wr : Bool) : stands m c wr ≤ 2 := by
  unfold stands
  split
  · omega
  · split
    · split <;> omega
    · omega
theorem errE_some (c tries : Int) : (errE c tries).isNil = false := by unfold errE; split <;> rfl
theorem errE_deep (c tries : Int) : (errE c tries).deep ≤ 3 := by unfold errE callE; split <;> simp [Er.deep]
end Go.Proofs.YtekjnicgffeghaaDoor
