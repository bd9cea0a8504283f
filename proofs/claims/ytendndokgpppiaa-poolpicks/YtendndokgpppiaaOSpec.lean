/-
  Pings: what a Health knows; no program.
-/
import Derived.Test.YtendndokgpppiaaGBig
namespace Go.Proofs.Ytendndokgpppiaa.Pi

structure He where
  every : Nat
  wait : Nat
  left : Nat
  sent : Nat
  waits : Bool
/-- A ping's body. -/
def bodyB (k : Nat) : ByteArray := str (bigL 8 k)
def newH (every wait : Nat) : He := ⟨every, wait, every, 0, false⟩
/-- A tick more: what is known then, what is told. -/
def tickH (h : He) : He × ByteArray × Bool :=
  if 0 < h.left - 1 then (⟨h.every, h.wait, h.left - 1, h.sent, h.waits⟩, ⟨#[]⟩, false)
  else if h.waits = true then (⟨h.every, h.wait, 0, h.sent, true⟩, ⟨#[]⟩, true)
  else (⟨h.every, h.wait, h.wait, h.sent + 1, true⟩, bodyB (h.sent + 1), false)
/-- An answer came. -/
def gotH (h : He) (b : ByteArray) : He × Bool :=
  if h.waits = true ∧ h.left ≠ 0 ∧ b = bodyB h.sent then (⟨h.every, h.wait, h.every, h.sent, false⟩, true) else (h, false)
/-- Numbers that a machine's ints hold; few pings. -/
structure Fit (h : He) : Prop where
  every1 : 1 ≤ h.every
  every : h.every ≤ 9223372036854775807
  wait : h.wait ≤ 9223372036854775807
  left : h.left ≤ 9223372036854775807
  sent : h.sent ≤ 4294967294
theorem bodyB_size (k : Nat) : (bodyB k).size = 8 := big_size 8 k
theorem bodyB_inj {a b : Nat} (ha : a ≤ 4294967295) (hb : b ≤ 4294967295) (h : bodyB a = bodyB b) : a = b := big_inj a b (by omega) (by omega) h
theorem bodyB_some (k : Nat) : (bodyB k).toList.isEmpty = false := isEmpty_of_size _ (by rw [bodyB_size]; decide)
theorem bodyB_ne (k : Nat) : bodyB k ≠ ⟨#[]⟩ := fun e => by
  have := bodyB_size k
  rw [e] at this
  cases this
theorem bodyB_one : bodyB 1 = ⟨#[0, 0, 0, 0, 0, 0, 0, 1]⟩ := by decide +kernel
end Go.Proofs.Ytendndokgpppiaa.Pi
