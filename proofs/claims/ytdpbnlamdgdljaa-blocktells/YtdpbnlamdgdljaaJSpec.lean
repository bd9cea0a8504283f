/-
  Blocks of headers: cut into frames, put together again. As data. No program.
-/
import Derived.Test.YtdpbnlamdgdljaaUSpec
import Derived.Test.YtdpbnlamdgdljaaGHeld
namespace Go.Proofs.Ytdpbnlamdgdljaa
open Go.RowKit

/-- How many frames a block of s bytes takes. -/
def pieceN (s m : Nat) : Nat := if s = 0 then 1 else (s + m - 1) / m
theorem pieceN_pos (s m : Nat) (hm : 0 < m) : 0 < pieceN s m := by
  unfold pieceN
  split
  · decide
  · exact Nat.div_pos (by omega) hm
/-- A frame that is not behind the end. -/
theorem piece_lt {s m k : Nat} (hm : 0 < m) (h : k < pieceN s m) : k * m ≤ s ∧ (k = 0 ∨ k * m < s) := by
  unfold pieceN at h
  split at h
  · obtain rfl : k = 0 := by omega
    simp
  · have h1 := (Nat.le_div_iff_mul_le hm).1 (show k + 1 ≤ (s + m - 1) / m from h)
    rw [Nat.succ_mul] at h1
    exact ⟨by omega, .inr (by omega)⟩
/-- The last one is the one that reaches the end. -/
theorem piece_last {s m k : Nat} (hm : 0 < m) (h : k < pieceN s m) : s ≤ k * m + m ↔ k + 1 = pieceN s m := by
  have hp := piece_lt hm h
  constructor
  · intro hs
    have h2 : pieceN s m < k + 2 := by
      unfold pieceN
      split
      · omega
      · rw [Nat.div_lt_iff_lt_mul hm, Nat.add_mul]
        omega
    omega
  · intro he
    by_cases hs : s ≤ k * m + m
    · exact hs
    · have h3 : k + 1 < pieceN s m := by
        unfold pieceN
        rw [if_neg (by omega)]
        refine (Nat.le_div_iff_mul_le hm).2 ?_
        rw [Nat.succ_mul, Nat.succ_mul]
        omega
      omega
theorem piece_few {s m : Nat} (h : 64 ≤ m) (hs : s ≤ 3000) : pieceN s m ≤ 47 := by
  have hm : 0 < m := by omega
  unfold pieceN
  split
  · decide
  · refine Nat.lt_succ_iff.1 ((Nat.div_lt_iff_lt_mul hm).2 ?_)
    have : 48 * 64 ≤ 48 * m := Nat.mul_le_mul_left _ h
    rcases Nat.lt_or_ge m 3000 with h2 | h2
    · omega
    · omega

def endF (e : Bool) (k : Nat) : Int := if k = 0 ∧ e = true then 1 else 0
/-- The flags of frame number k of a block. -/
def flagsAt (e last : Bool) (k : Nat) : Int := if last then endF e k + 4 else endF e k
/-- Frame number k of a block that is cut. -/
def cutAt (id : Int) (b : ByteArray) (e : Bool) (m k : Nat) : Frm :=
  ⟨if k = 0 then 1 else 9, flagsAt e (decide (b.size ≤ k * m + m)) k, id, b.extract (k * m) (min (k * m + m) b.size)⟩
def cutK (id : Int) (b : ByteArray) (e : Bool) (m k : Nat) : List Frm := (List.range k).map (cutAt id b e m)
/-- A block, cut. -/
def cutA (id : Int) (b : ByteArray) (e : Bool) (m : Nat) : List Frm := cutK id b e m (pieceN b.size m)
def cuts (id m : Int) : Prop := (1 ≤ id ∧ id ≤ 2147483647) ∧ 64 ≤ m ∧ m ≤ 512
instance (id m : Int) : Decidable (cuts id m) := by unfold cuts; infer_instance
theorem cutK_length (id : Int) (b : ByteArray) (e : Bool) (m k : Nat) : (cutK id b e m k).length = k := by simp [cutK]
theorem cutK_succ (id : Int) (b : ByteArray) (e : Bool) (m k : Nat) : cutK id b e m (k + 1) = cutK id b e m k ++ [cutAt id b e m k] := by simp [cutK, List.range_succ]
theorem cutA_length (id : Int) (b : ByteArray) (e : Bool) (m : Nat) : (cutA id b e m).length = pieceN b.size m := cutK_length _ _ _ _ _
theorem cutA_at (id : Int) (b : ByteArray) (e : Bool) (m k : Nat) (h : k < pieceN b.size m) : (cutA id b e m)[k]? = some (cutAt id b e m k) := by simp [cutA, cutK, h]
theorem cutAt_size (id : Int) (b : ByteArray) (e : Bool) (m k : Nat) (hm : 0 < m) (h : k < pieceN b.size m) : (cutAt id b e m k).body.size = min m (b.size - k * m) := by
  have := piece_lt hm h
  show (b.extract (k * m) (min (k * m + m) b.size)).size = _
  rw [extract_size _ _ _ (by omega)]
  omega

abbrev wholeB (fl : Int) : Bool := bits .and .i64 fl 4 != 0
abbrev endB (fl : Int) : Bool := bits .and .i64 fl 1 != 0
/-- What a frame has of a block. -/
def partA (f : Frm) : ByteArray := (stripA f.kind (padB f.flags) (weighB f.flags) f.body).1
/-- What is open: whose block, whether it ends the stream, its bytes. -/
structure Opn where
  id : Int
  fin : Bool
  bytes : ByteArray
def noO : Opn := ⟨0, false, ⟨#[]⟩⟩
def followA (id : Int) (f : Frm) : Bool := if id = 0 then decide (f.kind ≠ 9) else decide (f.kind = 9 ∧ f.id = id)
/-- The error of a frame. -/
def addE (m : Nat) (o : Opn) (f : Frm) : Int :=
  if (checkA f).2 ≠ 0 then 1 else if followA o.id f = false then 11 else if f.kind = 1 ∨ f.kind = 9 then (if m < o.bytes.size + (partA f).size then 5 else 0) else 0
/-- What is open behind a frame that has none. -/
def addO (o : Opn) (f : Frm) : Opn :=
  if f.kind = 1 then ⟨f.id, endB f.flags, o.bytes ++ partA f⟩ else if f.kind = 9 then ⟨o.id, o.fin, o.bytes ++ partA f⟩ else o
/-- A frame is taken: the block, whether it is one, the error; what is open then. -/
def takeA (m : Nat) (o : Opn) (f : Frm) : (Opn × Bool × Int) × Opn :=
  if addE m o f ≠ 0 then ((noO, false, addE m o f), noO)
  else if (addO o f).id = 0 ∨ wholeB f.flags = false then ((noO, false, 0), addO o f)
  else ((addO o f, true, 0), noO)
abbrev blockV (o : Opn) : Value := .agg #[.int .i64 o.id, .string o.bytes, .bool o.fin]
abbrev takeV (t : Opn × Bool × Int) : Value := .tuple #[blockV t.1, .bool t.2.1, .int .i64 t.2.2]
theorem stripA_size (k : Int) (p q : Bool) (b : ByteArray) : (stripA k p q b).1.size ≤ b.size := by
  unfold stripA
  have hu : ∀ c, unpadA b = some c → c.size ≤ b.size := by
    intro c hc
    unfold unpadA at hc
    split at hc
    · cases hc
    · cases hc
      rw [extract_size _ _ _ (by omega)]
      omega
  split
  · exact Nat.zero_le _
  · rename_i c hc
    have h1 : c.size ≤ b.size := by
      split at hc
      · exact hu c hc
      · cases hc; exact Nat.le_refl _
    split
    · exact Nat.zero_le _
    · show (behind c _).size ≤ _
      rw [behind, extract_size _ _ _ (Nat.le_refl _)]
      omega
theorem partA_size (f : Frm) : (partA f).size ≤ f.body.size := stripA_size _ _ _ _
theorem part_other (f : Frm) (h0 : f.kind ≠ 0) (h1 : f.kind ≠ 1) : partA f = f.body := by
  unfold partA stripA
  simp [pads, aheadN, h0, h1, behind]
theorem addO_size (o : Opn) (f : Frm) : (addO o f).bytes.size ≤ o.bytes.size + f.body.size := by
  have := partA_size f
  unfold addO
  split
  · show (o.bytes ++ partA f).size ≤ _
    rw [ByteArray.size_append]; omega
  · split
    · show (o.bytes ++ partA f).size ≤ _
      rw [ByteArray.size_append]; omega
    · omega
theorem takeA_size (m : Nat) (o : Opn) (f : Frm) : (takeA m o f).2.bytes.size ≤ o.bytes.size + f.body.size := by
  unfold takeA
  split
  · exact Nat.zero_le _
  · split
    · exact addO_size o f
    · exact Nat.zero_le _
theorem checkA_right (f : Frm) (h : (checkA f).2 = 0) : right f := by
  unfold checkA at h
  split at h
  · cases h
  · rename_i hr; simpa using hr
theorem check_placed (f : Frm) (h : (checkA f).2 = 0) : placed f.kind f.id = true := by
  unfold checkA at h
  split at h
  · cases h
  · split at h
    · cases h
    · rename_i hp; simpa using hp
end Go.Proofs.Ytdpbnlamdgdljaa
