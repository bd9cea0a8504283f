/-
  Settings as data: their bytes, the settings of bytes, what they make of others. No program.
-/
import Derived.Test.YtendndokgpppiaaRSpec
namespace Go.Proofs.Ytendndokgpppiaa.Pf
open Go.RowKit

/-- A setting: its id, its value. -/
abbrev Pf : Type := Int × Int
abbrev pval (p : Pf) : Value := .agg #[.int .i64 p.1, .int .i64 p.2]
def inP (p : Pf) : Prop := (0 ≤ p.1 ∧ p.1 ≤ 65535) ∧ 0 ≤ p.2 ∧ p.2 ≤ 4294967295
instance (p : Pf) : Decidable (inP p) := by unfold inP; infer_instance
/-- The six bytes of a setting. -/
def sixN (i v : Nat) : List Nat := [i / 256 % 256, i % 256, v / 16777216 % 256, v / 65536 % 256, v / 256 % 256, v % 256]
def sixL (p : Pf) : List Nat := sixN p.1.toNat p.2.toNat
theorem sixL_length (p : Pf) : (sixL p).length = 6 := rfl
theorem sixL_byte (p : Pf) : ∀ x ∈ sixL p, x < 256 := by
  intro x hx
  simp only [sixL, sixN, List.mem_cons, List.not_mem_nil, or_false] at hx
  omega
def sixes (l : List Pf) : List Nat := l.flatMap sixL
theorem sixes_nil : sixes [] = [] := rfl
theorem sixes_cons (p : Pf) (l : List Pf) : sixes (p :: l) = sixL p ++ sixes l := rfl
theorem sixes_append (l m : List Pf) : sixes (l ++ m) = sixes l ++ sixes m := by simp [sixes]
theorem sixes_length (l : List Pf) : (sixes l).length = 6 * l.length := by
  induction l with
  | nil => rfl
  | cons p l ih => rw [sixes_cons, List.length_append, ih, sixL_length, List.length_cons]; omega
theorem sixes_byte (l : List Pf) : ∀ x ∈ sixes l, x < 256 := by
  intro x hx
  obtain ⟨p, _, hp⟩ := List.mem_flatMap.1 hx
  exact sixL_byte p x hp
def allIn (l : List Pf) : Prop := ∀ p ∈ l, inP p
instance (l : List Pf) : Decidable (allIn l) := by unfold allIn; infer_instance
/-- The bytes of settings. -/
def putP (l : List Pf) : ByteArray := if allIn l then str (sixes l) else ⟨#[]⟩
theorem putP_size (l : List Pf) : (putP l).size ≤ 6 * l.length := by
  rw [putP]
  split
  · rw [str_size, sixes_length]; omega
  · exact Nat.zero_le _
/-- The setting at a place of bytes. -/
def pAt (b : ByteArray) (j : Nat) : Pf := ((numL (nums (b.extract (6 * j) (6 * j + 2))) : Int), (numL (nums (b.extract (6 * j + 2) (6 * j + 6))) : Int))
def getK (b : ByteArray) (k : Nat) : List Pf := (List.range k).map (pAt b)
theorem getK_zero (b : ByteArray) : getK b 0 = [] := rfl
theorem getK_succ (b : ByteArray) (k : Nat) : getK b (k + 1) = getK b k ++ [pAt b k] := by simp [getK, List.range_succ]
theorem getK_length (b : ByteArray) (k : Nat) : (getK b k).length = k := by simp [getK]
/-- The settings of bytes. -/
def getP (b : ByteArray) : List Pf := if b.size % 6 = 0 then getK b (b.size / 6) else []
theorem getP_length (b : ByteArray) : (getP b).length ≤ b.size / 6 := by
  rw [getP]
  split
  · rw [getK_length]; omega
  · exact Nat.zero_le _
/-- What is left of bytes behind k settings. -/
def cutB (b : ByteArray) (k : Nat) : ByteArray := b.extract (6 * k) b.size
theorem cutB_size (b : ByteArray) (k : Nat) : (cutB b k).size = b.size - 6 * k := by rw [cutB, extract_size _ _ _ (Nat.le_refl _)]
theorem cutB_zero (b : ByteArray) : cutB b 0 = b := by simp [cutB]
theorem cutB_part (b : ByteArray) (k i j : Nat) : nums ((cutB b k).extract i j) = nums (b.extract (6 * k + i) (6 * k + j)) := by
  rw [cutB, nums_extract, nums_extract, nums_extract, nums_all b b.size (by omega), List.take_drop, List.drop_drop]
theorem cutB_next (b : ByteArray) (k : Nat) (h : 6 * k + 6 ≤ b.size) : (cutB b k).extract 6 (b.size - 6 * k) = cutB b (k + 1) := by
  apply nums_inj
  rw [cutB_part b k 6 _, cutB, show 6 * (k + 1) = 6 * k + 6 by omega, show 6 * k + (b.size - 6 * k) = b.size by omega]
theorem sixes_drop (l : List Pf) (j : Nat) (h : j < l.length) : (sixes l).drop (6 * j) = sixL (l[j]'h) ++ sixes (l.drop (j + 1)) := by
  have e : l = l.take j ++ (l[j]'h :: l.drop (j + 1)) := by rw [← List.drop_eq_getElem_cons h, List.take_append_drop]
  have e2 : sixes l = sixes (l.take j) ++ (sixL (l[j]'h) ++ sixes (l.drop (j + 1))) := by
    rw [← sixes_cons, ← sixes_append, ← e]
  have hl : (sixes (l.take j)).length = 6 * j := by rw [sixes_length, List.length_take]; omega
  rw [e2, ← hl, List.drop_left]
theorem six_two (i v : Nat) (h : i ≤ 65535) : numL ((sixN i v).take 2) = i := by
  simp [sixN, numL]
  omega
theorem six_four (i v : Nat) (h : v ≤ 4294967295) : numL (((sixN i v).take 6).drop 2) = v := by
  simp [sixN, numL]
  omega
theorem part_drop (x : List Nat) (a i j : Nat) : (x.take (a + j)).drop (a + i) = ((x.drop a).take j).drop i := by
  rw [List.take_drop, List.drop_drop]
theorem pAt_put (l : List Pf) (s : List Nat) (hs : ∀ x ∈ s, x < 256) (j : Nat) (h : j < l.length) (hin : inP (l[j]'h)) : pAt (str (sixes l ++ s)) j = l[j]'h := by
  have hb : ∀ x ∈ sixes l ++ s, x < 256 := by
    intro x hx
    rcases List.mem_append.1 hx with hx | hx
    · exact sixes_byte l x hx
    · exact hs x hx
  rw [pAt, nums_extract, nums_extract, nums_str _ hb]
  have hd : (sixes l ++ s).drop (6 * j) = sixL (l[j]'h) ++ (sixes (l.drop (j + 1)) ++ s) := by
    rw [List.drop_append_of_le_length (by rw [sixes_length]; omega), sixes_drop l j h, List.append_assoc]
  have e1 := part_drop (sixes l ++ s) (6 * j) 0 2
  have e2 := part_drop (sixes l ++ s) (6 * j) 2 6
  rw [Nat.add_zero] at e1
  rw [e1, e2, hd]
  obtain ⟨⟨h1, h2⟩, h3, h4⟩ := hin
  generalize l[j]'h = p at *
  obtain ⟨i, v⟩ := p
  simp only at h1 h2 h3 h4
  have t2 : (sixL (i, v) ++ (sixes (l.drop (j + 1)) ++ s)).take 2 = (sixN i.toNat v.toNat).take 2 := by simp [sixL, sixN]
  have t6 : (sixL (i, v) ++ (sixes (l.drop (j + 1)) ++ s)).take 6 = (sixN i.toNat v.toNat).take 6 := by simp [sixL, sixN]
  rw [t2, t6, List.drop_zero, six_two _ _ (by omega), six_four _ _ (by omega)]
  simp only [Prod.mk.injEq]
  omega
/-- What was written is read; the first k of it, too. -/
theorem getK_put (l : List Pf) (hin : allIn l) (k : Nat) (hk : k ≤ l.length) : getK (str (sixes l)) k = l.take k := by
  apply List.ext_getElem
  · rw [getK_length, List.length_take]; omega
  · intro j h1 h2
    rw [getK_length] at h1
    have hj : j < l.length := by omega
    have := pAt_put l [] (fun _ h => by cases h) j hj (hin _ (List.getElem_mem hj))
    rw [List.append_nil] at this
    simp [getK, this]
theorem get_putP (l : List Pf) (hin : allIn l) : getP (putP l) = l := by
  have hs : (str (sixes l)).size = 6 * l.length := by rw [str_size, sixes_length]
  rw [putP, if_pos hin, getP, hs, if_pos (by omega), show 6 * l.length / 6 = l.length by omega, getK_put l hin _ (Nat.le_refl _), List.take_length]
theorem pAt_take (b : ByteArray) (n j : Nat) (h : 6 * j + 6 ≤ n) : pAt (b.extract 0 n) j = pAt b j := by
  have e : ∀ i k, k ≤ n → nums ((b.extract 0 n).extract i k) = nums (b.extract i k) := by
    intro i k hk
    rw [nums_extract, nums_extract, nums_extract, List.drop_zero, List.take_take, Nat.min_eq_left hk]
  rw [pAt, pAt, e _ _ (by omega), e _ _ (by omega)]
theorem getP_take (l : List Pf) (hin : allIn l) (n : Nat) (h6 : n % 6 = 0) (hn : n ≤ 6 * l.length) : getP ((putP l).extract 0 n) = l.take (n / 6) := by
  have hs : (putP l).size = 6 * l.length := by rw [putP, if_pos hin, str_size, sixes_length]
  have hz : ((putP l).extract 0 n).size = n := by rw [extract_size _ _ _ (by omega)]; omega
  rw [getP, hz, if_pos h6, ← getK_put l hin (n / 6) (by omega)]
  rw [getK, getK]
  apply List.map_congr_left
  intro j hj
  have hj := List.mem_range.1 hj
  rw [pAt_take _ _ _ (by omega), putP, if_pos hin]

/-- Settings in force. -/
structure Ps where
  table : Int
  many : Int
  window : Int
  frame : Int
  list : Int
abbrev psval (s : Ps) : Value := .agg #[.int .i64 s.table, .int .i64 s.many, .int .i64 s.window, .int .i64 s.frame, .int .i64 s.list]
def firstP : Ps := ⟨128, 6, 100, 64, 600⟩
/-- The code and the error of a setting. -/
def refE (p : Pf) : Int × Int :=
  if p.1 = 4 then (if p.2 ≤ 2147483647 then (0, 0) else (3, 9))
  else if p.1 = 5 then (if 64 ≤ p.2 ∧ p.2 ≤ 16777215 then (0, 0) else (1, 11))
  else if p.1 = 2 then (if p.2 = 0 then (0, 0) else (1, 11))
  else (0, 0)
def withP (s : Ps) (p : Pf) : Ps :=
  if p.1 = 1 then { s with table := p.2 }
  else if p.1 = 3 then { s with many := min p.2 6 }
  else if p.1 = 4 then { s with window := p.2 }
  else if p.1 = 5 then { s with frame := min p.2 512 }
  else if p.1 = 6 then { s with list := p.2 }
  else s
/-- Settings one by one: s is what they were ahead of all. -/
def applyG (s : Ps) : Ps → List Pf → Ps × Int × Int
  | c, [] => (c, 0, 0)
  | c, p :: l => if (refE p).2 = 0 then applyG s (withP c p) l else (s, (refE p).1, (refE p).2)
theorem applyG_nil (s c : Ps) : applyG s c [] = (c, 0, 0) := rfl
theorem applyG_cons (s c : Ps) (p : Pf) (l : List Pf) : applyG s c (p :: l) = if (refE p).2 = 0 then applyG s (withP c p) l else (s, (refE p).1, (refE p).2) := rfl
abbrev applyV (r : Ps × Int × Int) : Value := .tuple #[psval r.1, .int .i64 r.2.1, .int .i64 r.2.2]
theorem refE_range (p : Pf) : ((refE p).2 = 0 ∧ (refE p).1 = 0) ∨ ((refE p).2 = 9 ∧ (refE p).1 = 3) ∨ ((refE p).2 = 11 ∧ (refE p).1 = 1) := by
  unfold refE
  repeat' split
  all_goals simp
end Go.Proofs.Ytendndokgpppiaa.Pf
