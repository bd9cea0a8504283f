/-
  Package split: tooLong.
-/
import Derived.Test.YtkogkkjdcackcaaLCode
import Derived.BigQuiet
import Derived.Test.YtkogkkjdcackcaaRPut
namespace Go.Proofs.Ytkogkkjdcackcaa
open Go.RowKit

theorem num3_bytes (B : ByteArray) (h : 3 ≤ B.size) : num3 B = byteAt B 0 * 65536 + byteAt B 1 * 256 + byteAt B 2 := by
  rw [num3, nums_extract, List.drop_zero, nums_take_snoc B 2 (by omega), nums_take_snoc B 1 (by omega), nums_take_snoc B 0 (by omega), byteAt_get, byteAt_get, byteAt_get]
  simp [numL]
  omega
theorem byte_cell (B : ByteArray) (j : Nat) (h : j < B.size) : (cellsOf (nums B))[j]? = some (.int .u8 (byteAt B j : Int)) := by
  have hl : j < (nums B).length := by rw [nums_length]; exact h
  simp [cellsOf, byteAt, List.getElem?_eq_getElem hl]
theorem or_two (a b : Nat) (ha : a < 256) (hb : b < 256) : bits .or .i64 ((a : Int) * 65536) ((b : Int) * 256) = ((a * 65536 + b * 256 : Nat) : Int) := by
  have := or_cat a 16 (b * 256) (by omega) (by omega) (by decide)
  simpa using this
theorem or_three (a b c : Nat) (ha : a < 256) (hb : b < 256) (hc : c < 256) : bits .or .i64 ((a * 65536 + b * 256 : Nat) : Int) (c : Int) = ((a * 65536 + b * 256 + c : Nat) : Int) := by
  have := or_cat (a * 256 + b) 8 c (by omega) (by omega) (by decide)
  have e : (a * 256 + b) * 2 ^ 8 = a * 65536 + b * 256 := by omega
  rw [e] at this
  exact this
theorem lt_two (a b : Nat) (ha : a < 256) (hb : b < 256) : a * 65536 < 16777216 ∧ b * 256 < 65536 ∧ a * 65536 + b * 256 < 16777216 := by omega
attribute [local irreducible] numL byteAt endOf idOf nums str num3

theorem long_few {w : World} {g : Nat} {v : Value} {most : Nat} {o : Bool} {B : ByteArray} (h : Sp w g v most o B) (hB : B.size < 3) : Calls Try.prog 20 #[.pointer (some ⟨g, 0, none⟩)] w fun e w' => e = .returned (.bool false) ∧ Keeps nobody w w' := by
  obtain ⟨_, _, h2, _⟩ := h.cells
  obtain ⟨a, c, rfl, _⟩ := h.held.slice
  clear h
  go_enter Try.func20, Try.ntmps20
  go_wp2
  go_ret
  exact ⟨rfl, Keeps.refl _ _⟩
set_option maxRecDepth 100000 in
theorem long_many {w : World} {g : Nat} {v : Value} {most : Nat} {o : Bool} {B : ByteArray} (h : Sp w g v most o B) (hB : 3 ≤ B.size) : Calls Try.prog 20 #[.pointer (some ⟨g, 0, none⟩)] w fun e w' => e = .returned (.bool (decide (most < num3 B))) ∧ Keeps nobody w w' := by
  obtain ⟨h0, _, h2, _⟩ := h.cells
  have hs := h.small
  have hm := h.most
  rcases h.held with ⟨_, rfl⟩ | ⟨rb, off, cap, rfl, hcap, hr, _, _⟩
  · exact absurd hB (by decide)
  have c0 := hr 0 _ (byte_cell B 0 (by omega))
  have c1 := hr 1 _ (byte_cell B 1 (by omega))
  have c2 := hr 2 _ (byte_cell B 2 (by omega))
  rw [Nat.add_zero] at c0
  have y0 := byteAt_lt B 0
  have y1 := byteAt_lt B 1
  have y2 := byteAt_lt B 2
  have o1 := or_two _ _ y0 y1
  have o2 := or_three _ _ _ y0 y1 y2
  rw [← num3_bytes B hB] at o2
  have hn : num3 B < 16777216 := by rw [num3_bytes B hB]; omega
  clear h hr
  generalize hp0 : byteAt B 0 = a0 at *
  generalize hp1 : byteAt B 1 = a1 at *
  generalize byteAt B 2 = a2 at *
  generalize num3 B = N at *
  have q0 : (a0 : Int) * 65536 = ((a0 * 65536 : Nat) : Int) := by omega
  have q1 : (a1 : Int) * 256 = ((a1 * 256 : Nat) : Int) := by omega
  rw [q0, q1] at o1
  obtain ⟨r0, r1, r2⟩ := lt_two a0 a1 y0 y1
  generalize a0 * 65536 + a1 * 256 = u2 at *
  generalize a0 * 65536 = u0 at *
  generalize a1 * 256 = u1 at *
  clear hp0 hp1
  go_enter Try.func20, Try.ntmps20
  go_wp2_with fail
  go_quiet (fail)
  go_wp2
  go_ret
  exact ⟨by simp, (Keeps.refl _ _).drewN _⟩
end Go.Proofs.Ytkogkkjdcackcaa
