/-
  Bytes cut off; the first bit of an id. No program.
-/
import Derived.Test.YtcbgjdfcndgaaaaRSpec
import Derived.Test.YtcbgjdfcndgaaaaGBits
namespace Go.Proofs.Ytcbgjdfcndgaaaa
open Go.RowKit

theorem put_head (f : Frm) (h : right f) : putA f = headA f ++ f.body := by rw [putA, if_pos h]
theorem whole_cut (f : Frm) (h : right f) (m : Nat) (hm : m < (putA f).size) : getA ((putA f).extract 0 m) = (noF, 0, 2) := by
  have hs := put_size f h
  have hc : ((putA f).extract 0 m).size = m := by simp; omega
  rw [getA, if_neg]
  rintro ⟨h1, h2⟩
  rw [hc] at h1 h2
  have e : endOf ((putA f).extract 0 m) = endOf (putA f) := by
    have e3 : nums (((putA f).extract 0 m).extract 0 3) = nums ((putA f).extract 0 3) := by
      rw [nums_extract, nums_extract, nums_extract, List.drop_zero, List.drop_zero, List.drop_zero, List.take_take, Nat.min_eq_left (by omega)]
    rw [endOf, endOf, e3]
  rw [e, put_head f h, endOf_head f f.body h.2.2.2] at h2
  omega
/-- The bytes with the first bit of the id. -/
def bitB (f : Frm) : ByteArray := (putA f).extract 0 5 ++ str [byteAt (putA f) 5 + 128] ++ (putA f).extract 6 (putA f).size
theorem nums_put (f : Frm) (h : right f) : nums (putA f) = headL f.body.size f.kind.toNat f.flags.toNat f.id.toNat ++ nums f.body := by rw [put_head f h, nums_append, nums_head]
theorem byteAt5 (f : Frm) (h : right f) : byteAt (putA f) 5 < 128 := by
  have h1 := h.2.2.1
  rw [byteAt, nums_put f h]
  simp [headL]
  omega
def headM (n k fl id : Nat) : List Nat := [n / 65536 % 256, n / 256 % 256, n % 256, k % 256, fl % 256, id / 16777216 % 256 + 128, id / 65536 % 256, id / 256 % 256, id % 256]
theorem nums_bit (f : Frm) (h : right f) : nums (bitB f) = headM f.body.size f.kind.toNat f.flags.toNat f.id.toNat ++ nums f.body := by
  have h5 := byteAt5 f h
  rw [bitB, nums_append, nums_append, nums_extract, nums_extract, nums_str _ (by simpa using (by omega : byteAt (putA f) 5 + 128 < 256)), ← nums_length, List.take_length, byteAt, nums_put f h]
  simp [headL, headM]
theorem bit_size (f : Frm) (h : right f) : (bitB f).size = 9 + f.body.size := by
  rw [← nums_length, nums_bit f h]
  simp [headM, nums_length]
  omega
theorem get_bit (f : Frm) (h : right f) : getA (bitB f) = (f, 9 + f.body.size, 0) := by
  have hn := nums_bit f h
  have hs := bit_size f h
  obtain ⟨⟨a1, a2⟩, ⟨b1, b2⟩, ⟨c1, c2⟩, d⟩ := h
  have he : endOf (bitB f) = 9 + f.body.size := by
    rw [endOf, nums_extract, hn]
    simp [headM, numL]
    omega
  have hi : idOf (bitB f) = f.id.toNat + 2147483648 := by
    rw [idOf, nums_extract, hn]
    simp [headM, numL]
    omega
  have hw : whole (bitB f) := by rw [whole, he, hs]; omega
  have h3 : byteAt (bitB f) 3 = f.kind.toNat % 256 := by rw [byteAt, hn]; rfl
  have h4 : byteAt (bitB f) 4 = f.flags.toNat % 256 := by rw [byteAt, hn]; rfl
  have hb : (bitB f).extract 9 (9 + f.body.size) = f.body := by
    apply nums_inj
    have hl : 9 + f.body.size = (headM f.body.size f.kind.toNat f.flags.toNat f.id.toNat ++ nums f.body).length := by simp [headM, nums_length]; omega
    rw [nums_extract, hn, hl, List.take_length]
    rfl
  rw [getA, if_pos hw, he, firstA, he, hb, h3, h4, hi]
  have e1 : ((f.kind.toNat % 256 : Nat) : Int) = f.kind := by omega
  have e2 : ((f.flags.toNat % 256 : Nat) : Int) = f.flags := by omega
  have e3 : (((f.id.toNat + 2147483648) % 2147483648 : Nat) : Int) = f.id := by omega
  rw [e1, e2, e3]
theorem u8_or_128 (y : Nat) (h : y < 128) : bits .or .u8 (y : Int) 128 = ((y + 128 : Nat) : Int) := by
  have : ∀ y : Fin 128, bits .or .u8 ((y : Nat) : Int) 128 = (((y : Nat) + 128 : Nat) : Int) := by decide +kernel
  exact this ⟨y, h⟩
end Go.Proofs.Ytcbgjdfcndgaaaa
