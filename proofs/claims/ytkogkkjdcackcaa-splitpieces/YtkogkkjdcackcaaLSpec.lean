/-
  Bytes that come in pieces, as data: the first frame of what is held. No program.
-/
import Derived.Test.YtkogkkjdcackcaaRSpec
namespace Go.Proofs.Ytkogkkjdcackcaa
open Go.RowKit

/-- What the first three bytes tell. -/
def num3 (B : ByteArray) : Nat := numL (nums (B.extract 0 3))
def great (most : Nat) (B : ByteArray) : Prop := 3 ≤ B.size ∧ most < num3 B
instance (most : Nat) (B : ByteArray) : Decidable (great most B) := by unfold great; infer_instance
/-- What stands behind the first frame. -/
def restA (B : ByteArray) : ByteArray := B.extract (endOf B) B.size
/-- What Next tells, whether it is over then, what is held then. -/
def nextR (most : Nat) (o : Bool) (B : ByteArray) : (Frm × Bool × Int) × Bool × ByteArray :=
  if o = true ∨ great most B then ((noF, false, 5), true, ⟨#[]⟩)
  else if whole B then ((firstA B, true, 0), false, restA B)
  else ((noF, false, 0), false, B)
abbrev nextV (g : Frm × Bool × Int) : Value := .tuple #[frval g.1, .bool g.2.1, .int .i64 g.2.2]
theorem endOf_num3 (B : ByteArray) : endOf B = 9 + num3 B := rfl
theorem nextR_great (most : Nat) (B : ByteArray) (h : great most B) : nextR most false B = ((noF, false, 5), true, ⟨#[]⟩) := by rw [nextR, if_pos (.inr h)]
theorem nextR_over (most : Nat) (B : ByteArray) : nextR most true B = ((noF, false, 5), true, ⟨#[]⟩) := by rw [nextR, if_pos (.inl rfl)]
theorem nextR_some (most : Nat) (B : ByteArray) (h : ¬ great most B) (hw : whole B) : nextR most false B = ((firstA B, true, 0), false, restA B) := by
  rw [nextR, if_neg (by simp [h]), if_pos hw]
theorem nextR_none (most : Nat) (B : ByteArray) (h : ¬ great most B) (hw : ¬ whole B) : nextR most false B = ((noF, false, 0), false, B) := by
  rw [nextR, if_neg (by simp [h]), if_neg hw]

theorem extract_all (B : ByteArray) (n : Nat) (h : B.size ≤ n) : B.extract 0 n = B := by
  apply nums_inj
  rw [nums_extract, List.take_of_length_le (by rw [nums_length]; exact h), List.drop_zero]
theorem extract_extract (B : ByteArray) (n i j : Nat) (h : j ≤ n) : (B.extract 0 n).extract i j = B.extract i j := by
  apply nums_inj
  simp only [nums_extract, List.drop_zero, List.take_take]
  rw [Nat.min_eq_left h]
theorem byteAt_extract (B : ByteArray) (n i : Nat) (h : i < n) : byteAt (B.extract 0 n) i = byteAt B i := by
  rw [byteAt, byteAt, nums_extract, List.drop_zero, List.getD_eq_getElem?_getD, List.getD_eq_getElem?_getD, List.getElem?_take, if_pos h]
/-- No more than one frame's bytes need be looked at. -/
theorem get_cut (most : Nat) (B : ByteArray) (h : ¬ great most B) : getA (B.extract 0 (min B.size (9 + most))) = getA B := by
  by_cases hs : B.size ≤ 9 + most
  · rw [Nat.min_eq_left hs, extract_all B _ (Nat.le_refl _)]
  · rw [Nat.min_eq_right (by omega)]
    have hn : num3 B ≤ most := by
      unfold great at h
      omega
    have he : endOf (B.extract 0 (9 + most)) = endOf B := by
      rw [endOf, endOf, extract_extract _ _ _ _ (by omega)]
    have hb : endOf B ≤ 9 + most := by rw [endOf_num3]; omega
    have hz : (B.extract 0 (9 + most)).size = 9 + most := by rw [extract_size _ _ _ (by omega)]; omega
    have w1 : whole B := ⟨by omega, by omega⟩
    have w2 : whole (B.extract 0 (9 + most)) := by
      rw [whole, he, hz]
      omega
    rw [getA, if_pos w2, getA, if_pos w1, he]
    rw [firstA, firstA, he, byteAt_extract _ _ _ (by omega), byteAt_extract _ _ _ (by omega), extract_extract _ _ _ _ hb]
    rw [idOf, idOf, extract_extract _ _ _ _ (by omega)]

section
variable {f : Frm} {B R T : ByteArray}
theorem put_nums (hf : right f) : nums (putA f) = headL f.body.size f.kind.toNat f.flags.toNat f.id.toNat ++ nums f.body := by
  rw [putA, if_pos hf, nums_append, nums_head]
theorem take_same (h : B ++ R = putA f ++ T) (n : Nat) (hn : n ≤ B.size) : (nums B).take n = (nums (putA f) ++ nums T).take n := by
  rw [← nums_append, ← h, nums_append, List.take_append_of_le_length (by rw [nums_length]; exact hn)]
theorem num3_put (hf : right f) (h : B ++ R = putA f ++ T) (h3 : 3 ≤ B.size) : num3 B = f.body.size := by
  rw [num3, nums_extract, List.drop_zero, take_same h 3 h3, put_nums hf]
  have : (headL f.body.size f.kind.toNat f.flags.toNat f.id.toNat ++ nums f.body ++ nums T).take 3 = (headL f.body.size f.kind.toNat f.flags.toNat f.id.toNat).take 3 := by simp [headL]
  rw [this, numL_head3 _ _ _ _ hf.2.2.2]
theorem not_great (most : Nat) (hf : right f) (hm : f.body.size ≤ most) (h : B ++ R = putA f ++ T) : ¬ great most B := by
  rintro ⟨h3, hx⟩
  rw [num3_put hf h h3] at hx
  omega
theorem not_whole (hf : right f) (h : B ++ R = putA f ++ T) (hs : B.size < 9 + f.body.size) : ¬ whole B := by
  rintro ⟨h9, hx⟩
  rw [endOf_num3, num3_put hf h (by omega)] at hx
  omega
theorem whole_put (hf : right f) (h : B ++ R = putA f ++ T) (hs : 9 + f.body.size ≤ B.size) : ∃ C, B = putA f ++ C ∧ C ++ R = T := by
  have hp := put_size f hf
  have hl : (nums (putA f)).length = 9 + f.body.size := by rw [nums_length, hp]
  have e : nums B ++ nums R = nums (putA f) ++ nums T := by rw [← nums_append, ← nums_append, h]
  have h1 : (nums B).take (9 + f.body.size) = nums (putA f) := by
    have := congrArg (List.take (9 + f.body.size)) e
    rwa [List.take_append_of_le_length (by rw [nums_length]; exact hs), List.take_left' hl] at this
  refine ⟨B.extract (9 + f.body.size) B.size, ?_, ?_⟩
  · apply nums_inj
    rw [nums_append, nums_extract, List.take_of_length_le (by rw [nums_length]; omega)]
    conv => lhs; rw [← List.take_append_drop (9 + f.body.size) (nums B), h1]
  · apply nums_inj
    rw [nums_append, nums_extract, List.take_of_length_le (by rw [nums_length]; omega)]
    have := congrArg (List.drop (9 + f.body.size)) e
    rwa [List.drop_append_of_le_length (by rw [nums_length]; exact hs), List.drop_left' hl] at this
/-- A frame, and what stands behind it. -/
theorem next_put (most : Nat) (hf : right f) (hm : f.body.size ≤ most) : nextR most false (putA f ++ T) = ((f, true, 0), false, T) := by
  have hg : ¬ great most (putA f ++ T) := not_great (R := ⟨#[]⟩) (T := T) most hf hm (by apply nums_inj; simp [nums])
  have hget := get_put f T hf
  have hw : whole (putA f ++ T) := by
    by_cases h : whole (putA f ++ T)
    · exact h
    · rw [getA, if_neg h] at hget
      simp at hget
  rw [getA, if_pos hw] at hget
  simp only [Prod.mk.injEq] at hget
  rw [nextR_some most _ hg hw, restA, hget.1, hget.2.1]
  have : (putA f ++ T).extract (9 + f.body.size) (putA f ++ T).size = T := by
    apply nums_inj
    rw [nums_extract, nums_append, ← put_size f hf]
    have h1 : (putA f ++ T).size = (nums (putA f) ++ nums T).length := by simp [nums_length]
    rw [h1, List.take_length, List.drop_left' (nums_length _)]
  rw [this]
end
end Go.Proofs.Ytkogkkjdcackcaa
