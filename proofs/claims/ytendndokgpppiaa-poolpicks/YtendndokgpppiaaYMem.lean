/-
  Package buffer: a Buffer in memory; New, made, Len, Ended, Done, End, Drop.
-/
import Derived.Test.YtendndokgpppiaaGSlice
import Derived.Test.YtendndokgpppiaaGBits
import Derived.BigQuiet
namespace Go.Proofs.Ytendndokgpppiaa.Bu
open Go.RowKit
attribute [local irreducible] nums str

/-- A Buffer lies there. -/
structure Bf (w : World) (g : Nat) (v : Value) (most : Nat) (o : Bool) (B : ByteArray) : Prop where
  blk : w.heap[g]? = some (.cells #[.int .i64 (most : Int), .bool o, v] 105 (0, 0))
  held : Hb w v B
  apart : v.ownBlock ≠ some g
  bound : 1 ≤ most ∧ most ≤ 9223372036854775807
  fits : B.size ≤ most
/-- A Buffer as a thing. -/
def bfT (g : Nat) (v : Value) (most : Nat) (o : Bool) (B : ByteArray) : Thing := ⟨sfoot g v, fun w => Bf w g v most o B⟩
section
variable {w w' : World} {g : Nat} {v : Value} {most : Nat} {o : Bool} {B : ByteArray}
theorem Bf.lt (h : Bf w g v most o B) : g < w.heap.size := (Array.getElem?_eq_some_iff.1 h.blk).1
theorem Bf.cells (h : Bf w g v most o B) : w.cell? ⟨g, 0, none⟩ = some (.int .i64 (most : Int)) ∧ w.cell? ⟨g, 1, none⟩ = some (.bool o) ∧ w.cell? ⟨g, 2, none⟩ = some v ∧ ∀ n, w.frozen? ⟨g, n, none⟩ = false := by
  refine ⟨?_, ?_, ?_, fun n => ?_⟩ <;> simp [World.cell?, World.frozen?, h.blk]
theorem Bf.keeps {S : Nat → Prop} (h : Bf w g v most o B) (hk : Keeps S w w') (hS : ∀ k, sfoot g v k → ¬ S k) : Bf w' g v most o B :=
  ⟨by rw [hk.block g h.lt (hS g (.inl rfl))]; exact h.blk, h.held.keeps hk fun k e => hS k (.inr e), h.apart, h.bound, h.fits⟩
theorem Bf.quiet (h : Bf w g v most o B) (hk : Keeps nobody w w') : Bf w' g v most o B := h.keeps hk fun _ _ => id
theorem bfT_ok : (bfT g v most o B).Ok :=
  ⟨fun h hk hS => Bf.keeps h hk hS, fun {w} h k hk => by
    have h' : Bf w g v most o B := h
    rcases hk with rfl | hk
    · exact h'.lt
    · exact h'.held.lt k hk⟩
theorem Bf.did (h : Bf w g v most o B) (hk : Keeps nobody w w') : Did (bfT g v most o B) (bfT g v most o B) w w' := Did.quiet bfT_ok h hk
/-- The fields laid anew. -/
theorem Bf.relay {o' : Bool} {v' : Value} {B' : ByteArray} {w1 w2 : World} (h : Bf w g v most o B) (hg : w.grownBy w1 v.ownBlock) (hb : w2.heap[g]? = some (.cells #[.int .i64 (most : Int), .bool o', v'] 105 (0, 0)))
    (hk : Keeps (fun k => k = g) w1 w2) (hv : Hb w1 v' B') (hn : ∀ k, v'.ownBlock = some k → v.ownBlock = some k ∨ w.heap.size ≤ k) (hs : B'.size ≤ most) :
    Did (bfT g v most o B) (bfT g v' most o' B') w w2 := by
  have hap : v'.ownBlock ≠ some g := fun e => by
    rcases hn g e with h1 | h1
    · exact h.apart h1
    · have := h.lt
      omega
  refine ⟨bfT_ok, ⟨hb, hv.keeps hk fun k e hkg => hap (by rw [e, hkg]), hap, h.bound, hs⟩, ?_, ?_⟩
  · refine ((Keeps.refl (sfoot g v) w).grown hg fun k e => .inl (.inr e)).trans hk fun k _ e => .inl e
  · rintro k (rfl | e)
    · exact .inl (.inl rfl)
    · rcases hn k e with h1 | h1
      · exact .inl (.inr h1)
      · exact .inr h1
end

theorem new_no (m : Int) (w : World) (h : m < 1) : Calls Try.prog 38 #[.int .i64 m] w fun e w' => e = .returned (.pointer none) ∧ w = w' := by
  go_enter Try.func38, Try.ntmps38
  go_wp2
  go_ret
  exact ⟨rfl, rfl⟩
theorem new_ok (m : Nat) (w : World) (h1 : 1 ≤ m) (h2 : m ≤ 9223372036854775807) : Calls Try.prog 38 #[.int .i64 (m : Int)] w fun e w' => e = .returned (.pointer (some ⟨w.heap.size, 0, none⟩)) ∧ Keeps nobody w w' ∧ Bf w' w.heap.size (.slice none 0 0) m false ⟨#[]⟩ := by
  go_enter Try.func38, Try.ntmps38
  go_wp2
  go_ret
  exact ⟨rfl, keeps_alloc _ _, ⟨heap_alloc_new w _, .inl ⟨rfl, rfl⟩, by simp [Value.ownBlock], ⟨h1, h2⟩, Nat.zero_le _⟩⟩
theorem made_nil (w : World) : Calls Try.prog 65 #[.pointer none] w fun e w' => e = .returned (.bool false) ∧ w = w' := by
  go_enter Try.func65, Try.ntmps65
  go_wp2
  go_ret
  exact ⟨rfl, rfl⟩
theorem made_ok {w : World} {g : Nat} {v : Value} {most : Nat} {o : Bool} {B : ByteArray} (h : Bf w g v most o B) : Calls Try.prog 65 #[.pointer (some ⟨g, 0, none⟩)] w fun e w' => e = .returned (.bool true) ∧ w = w' := by
  obtain ⟨h0, _, _, _⟩ := h.cells
  have hm : ((most : Int) != 0) = true := by have := h.bound.1; simp; omega
  clear h
  go_enter Try.func65, Try.ntmps65
  go_wp2
  go_ret
  exact ⟨rfl, rfl⟩
theorem ended_nil (w : World) : Calls Try.prog 61 #[.pointer none] w fun e w' => e = .returned (.bool true) ∧ w = w' := by
  have HM : Hid (∀ W, Calls Try.prog 65 #[.pointer none] W fun e w' => e = .returned (.bool false) ∧ W = w') := made_nil
  go_enter Try.func61, Try.ntmps61
  go_wp2_with fail
  refine Calls.mono (HM.out _) ?_
  rintro e w1 ⟨rfl, rfl⟩
  go_wp2
  go_ret
  exact ⟨rfl, rfl⟩
theorem ended_ok {w : World} {g : Nat} {v : Value} {most : Nat} {o : Bool} {B : ByteArray} (h : Bf w g v most o B) : Calls Try.prog 61 #[.pointer (some ⟨g, 0, none⟩)] w fun e w' => e = .returned (.bool o) ∧ w = w' := by
  have HM : Hid (Calls Try.prog 65 #[.pointer (some ⟨g, 0, none⟩)] w fun e w' => e = .returned (.bool true) ∧ w = w') := made_ok h
  obtain ⟨_, h1, _, _⟩ := h.cells
  clear h
  go_enter Try.func61, Try.ntmps61
  go_wp2_with fail
  refine Calls.mono HM.out ?_
  rintro e w1 ⟨rfl, rfl⟩
  go_wp2
  go_ret
  exact ⟨rfl, rfl⟩
/-- Whether all is over. -/
def doneB (o : Bool) (B : ByteArray) : Bool := o && B.size == 0
end Go.Proofs.Ytendndokgpppiaa.Bu
