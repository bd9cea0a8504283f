/-
  Frames as data: bytes of a frame, the first frame of bytes, a body without padding and priority. No program.
-/
import Derived.Test.YtendndokgpppiaaGStr
namespace Go.Proofs.Ytendndokgpppiaa
open Go.RowKit

/-- A frame. -/
structure Frm where
  kind : Int
  flags : Int
  id : Int
  body : ByteArray
abbrev frval (f : Frm) : Value := .agg #[.int .i64 f.kind, .int .i64 f.flags, .int .i64 f.id, .string f.body]
def noF : Frm := ⟨0, 0, 0, ⟨#[]⟩⟩
def right (f : Frm) : Prop := (0 ≤ f.kind ∧ f.kind ≤ 255) ∧ (0 ≤ f.flags ∧ f.flags ≤ 255) ∧ (0 ≤ f.id ∧ f.id ≤ 2147483647) ∧ f.body.size ≤ 16777215
instance (f : Frm) : Decidable (right f) := by unfold right; infer_instance
/-- The nine bytes ahead of a body. -/
def headL (n k fl id : Nat) : List Nat := [n / 65536 % 256, n / 256 % 256, n % 256, k % 256, fl % 256, id / 16777216 % 256, id / 65536 % 256, id / 256 % 256, id % 256]
theorem headL_length (n k fl id : Nat) : (headL n k fl id).length = 9 := rfl
theorem headL_byte (n k fl id : Nat) : ∀ x ∈ headL n k fl id, x < 256 := by
  intro x hx
  simp only [headL, List.mem_cons, List.not_mem_nil, or_false] at hx
  omega
def headA (f : Frm) : ByteArray := str (headL f.body.size f.kind.toNat f.flags.toNat f.id.toNat)
theorem headA_size (f : Frm) : (headA f).size = 9 := by rw [headA, str_size]; rfl
def putA (f : Frm) : ByteArray := if right f then headA f ++ f.body else ⟨#[]⟩
/-- The number of bytes. -/
def numL (l : List Nat) : Nat := l.foldl (fun a x => a * 256 + x) 0
theorem numL_nil : numL [] = 0 := rfl
theorem numL_snoc (l : List Nat) (x : Nat) : numL (l ++ [x]) = numL l * 256 + x := by simp [numL]
theorem numL_lt (l : List Nat) (h : ∀ x ∈ l, x < 256) : numL l < 256 ^ l.length := by
  rw [numL]
  have : ∀ (l : List Nat) (a m : Nat), (∀ x ∈ l, x < 256) → a < 256 ^ m → l.foldl (fun a x => a * 256 + x) a < 256 ^ (m + l.length) := by
    intro l
    induction l with
    | nil => intro a m _ ha; simpa using ha
    | cons x l ih =>
      intro a m hl ha
      have hx := hl x (by simp)
      have := ih (a * 256 + x) (m + 1) (fun y hy => hl y (by simp [hy])) (by rw [Nat.pow_succ]; omega)
      rw [List.foldl_cons, List.length_cons, show m + (l.length + 1) = m + 1 + l.length by omega]
      exact this
  have := this l 0 0 h (by simp)
  simpa using this
theorem numL_head3 (n k fl id : Nat) (h : n ≤ 16777215) : numL ((headL n k fl id).take 3) = n := by
  simp [headL, numL]
  omega
theorem numL_head4 (n k fl id : Nat) (h : id ≤ 2147483647) : numL (((headL n k fl id).drop 5).take 4) = id := by
  simp [headL, numL]
  omega

/-- The byte at a place. -/
def byteAt (b : ByteArray) (i : Nat) : Nat := (nums b).getD i 0
theorem byteAt_get (b : ByteArray) (i : Nat) (h : i < b.size) : (b[i]'h).toNat = byteAt b i := by
  rw [byteAt, List.getD_eq_getElem?_getD, List.getElem?_eq_getElem (by rw [nums_length]; exact h)]
  simp [nums]
  rfl
theorem byteAt_lt (b : ByteArray) (i : Nat) : byteAt b i < 256 := by
  rw [byteAt, List.getD_eq_getElem?_getD]
  cases h : (nums b)[i]? with
  | none => simp
  | some x => simpa using nums_byte b x (List.mem_of_getElem? h)
theorem nums_extract (b : ByteArray) (i j : Nat) : nums (b.extract i j) = ((nums b).take j).drop i := by
  simp [nums, List.map_take, List.map_drop, List.take_drop]
  by_cases h : i ≤ j
  · rw [show i + (j - i) = j by omega]
  · rw [List.drop_eq_nil_of_le (by simp; omega), List.drop_eq_nil_of_le (by simp; omega)]
theorem extract_size (b : ByteArray) (i j : Nat) (h : j ≤ b.size) : (b.extract i j).size = j - i := by
  simp
  omega
theorem nums_inj {a b : ByteArray} (h : nums a = nums b) : a = b := by rw [← str_nums a, h, str_nums]

/-- A length that the first three bytes tell, with the head. -/
def endOf (b : ByteArray) : Nat := 9 + numL (nums (b.extract 0 3))
def idOf (b : ByteArray) : Nat := numL (nums (b.extract 5 9))
theorem endOf_lt (b : ByteArray) : endOf b ≤ 16777224 := by
  have h := numL_lt (nums (b.extract 0 3)) (nums_byte _)
  have h3 : (nums (b.extract 0 3)).length ≤ 3 := by rw [nums_extract]; simp; omega
  have h4 := Nat.pow_le_pow_right (n := 256) (by decide) h3
  rw [endOf]
  omega
theorem idOf_lt (b : ByteArray) : idOf b ≤ 4294967295 := by
  have h := numL_lt (nums (b.extract 5 9)) (nums_byte _)
  have h3 : (nums (b.extract 5 9)).length ≤ 4 := by rw [nums_extract]; simp; omega
  have h4 := Nat.pow_le_pow_right (n := 256) (by decide) h3
  rw [idOf]
  omega
/-- Whether bytes hold a frame. -/
def whole (b : ByteArray) : Prop := 9 ≤ b.size ∧ endOf b ≤ b.size
instance (b : ByteArray) : Decidable (whole b) := by unfold whole; infer_instance
def firstA (b : ByteArray) : Frm := ⟨(byteAt b 3 : Int), (byteAt b 4 : Int), ((idOf b % 2147483648 : Nat) : Int), b.extract 9 (endOf b)⟩
/-- The first frame of bytes, how many bytes it has, the error. -/
def getA (b : ByteArray) : Frm × Nat × Int := if whole b then (firstA b, endOf b, 0) else (noF, 0, 2)
abbrev getV (g : Frm × Nat × Int) : Value := .tuple #[frval g.1, .int .i64 (g.2.1 : Int), .int .i64 g.2.2]

theorem nums_head (f : Frm) : nums (headA f) = headL f.body.size f.kind.toNat f.flags.toNat f.id.toNat := nums_str _ (headL_byte _ _ _ _)
theorem endOf_head (f : Frm) (s : ByteArray) (h : f.body.size ≤ 16777215) : endOf (headA f ++ s) = 9 + f.body.size := by
  rw [endOf, nums_extract, nums_append, nums_head]
  have : (headL f.body.size f.kind.toNat f.flags.toNat f.id.toNat ++ nums s).take 3 = (headL f.body.size f.kind.toNat f.flags.toNat f.id.toNat).take 3 := by simp [headL]
  rw [this, List.drop_zero, numL_head3 _ _ _ _ h]
theorem idOf_head (f : Frm) (s : ByteArray) (h0 : 0 ≤ f.id) (h : f.id ≤ 2147483647) : (idOf (headA f ++ s) : Int) = f.id := by
  rw [idOf, nums_extract, nums_append, nums_head]
  have : ((headL f.body.size f.kind.toNat f.flags.toNat f.id.toNat ++ nums s).take 9).drop 5 = ((headL f.body.size f.kind.toNat f.flags.toNat f.id.toNat).drop 5).take 4 := by simp [headL]
  rw [this, numL_head4 _ _ _ _ (by omega)]
  omega
theorem extract_mid (a b c : ByteArray) (n : Nat) (h : a.size = n) : (a ++ (b ++ c)).extract n (n + b.size) = b := by
  apply nums_inj
  rw [nums_extract, nums_append, nums_append, ← List.append_assoc]
  have h1 : (nums a ++ nums b).length = n + b.size := by simp [nums_length, h]
  rw [← h1, List.take_left, List.drop_left' (by rw [nums_length]; exact h)]
/-- What was written is read: what stands behind does not matter. -/
theorem get_put (f : Frm) (s : ByteArray) (h : right f) : getA (putA f ++ s) = (f, 9 + f.body.size, 0) := by
  obtain ⟨⟨a1, a2⟩, ⟨b1, b2⟩, ⟨c1, c2⟩, d⟩ := h
  have hp : putA f ++ s = headA f ++ (f.body ++ s) := by
    rw [putA, if_pos ⟨⟨a1, a2⟩, ⟨b1, b2⟩, ⟨c1, c2⟩, d⟩, ByteArray.append_assoc]
  have he := endOf_head f (f.body ++ s) d
  have hs : (headA f ++ (f.body ++ s)).size = 9 + (f.body.size + s.size) := by simp [headA_size]
  have hw : whole (headA f ++ (f.body ++ s)) := by
    rw [whole, he, hs]
    omega
  rw [hp, getA, if_pos hw, he, firstA, he, extract_mid _ _ _ _ (headA_size f)]
  have h3 : byteAt (headA f ++ (f.body ++ s)) 3 = f.kind.toNat % 256 := by rw [byteAt, nums_append, nums_head]; rfl
  have h4 : byteAt (headA f ++ (f.body ++ s)) 4 = f.flags.toNat % 256 := by rw [byteAt, nums_append, nums_head]; rfl
  have h5 := idOf_head f (f.body ++ s) c1 c2
  rw [h3, h4]
  have e1 : ((f.kind.toNat % 256 : Nat) : Int) = f.kind := by omega
  have e2 : ((f.flags.toNat % 256 : Nat) : Int) = f.flags := by omega
  have e3 : ((idOf (headA f ++ (f.body ++ s)) % 2147483648 : Nat) : Int) = f.id := by omega
  rw [e1, e2, e3]
theorem put_size (f : Frm) (h : right f) : (putA f).size = 9 + f.body.size := by rw [putA, if_pos h]; simp [headA_size]

/-- A body without its padding. -/
def unpadA (b : ByteArray) : Option ByteArray := if b.size = 0 ∨ b.size < 1 + byteAt b 0 then none else some (b.extract 1 (b.size - byteAt b 0))
/-- What stands behind the first n bytes. -/
def behind (c : ByteArray) (n : Nat) : ByteArray := c.extract n c.size
/-- What is padded, and how many bytes of priority there are. -/
def pads (k : Int) (p : Bool) : Bool := (k == 0 || k == 1) && p
def aheadN (k : Int) (q : Bool) : Nat := if k == 1 && q then 5 else 0
/-- A body without padding and priority; how many bytes went; the error. -/
def stripA (k : Int) (p q : Bool) (b : ByteArray) : ByteArray × Nat × Int :=
  match (if pads k p then unpadA b else some b) with
  | none => (⟨#[]⟩, 0, 11)
  | some c => if c.size < aheadN k q then (⟨#[]⟩, 0, 5) else (behind c (aheadN k q), b.size - (c.size - aheadN k q), 0)
abbrev stripV (s : ByteArray × Nat × Int) : Value := .tuple #[.string s.1, .int .i64 (s.2.1 : Int), .int .i64 s.2.2]
theorem behind_zero (c : ByteArray) : behind c 0 = c := by simp [behind]
end Go.Proofs.Ytendndokgpppiaa
