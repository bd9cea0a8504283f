/-
  Numbers with a prefix as plain lists of bytes: writing (putN), reading (scan, getN), and what the two have to do with each other. No program.
-/
import Derived.Laws.BitsAllLaws
import Derived.Laws.BytesArg
namespace Go.Proofs.Ytgmhbkmmcboadaa
open Go

/-- A prefix's greatest number. -/
def full (b : Int) : Nat := 2 ^ b.toNat - 1
theorem full_bounds (b : Int) (h1 : 1 ≤ b) (h2 : b ≤ 8) : 1 ≤ full b ∧ full b ≤ 255 := by
  obtain rfl | rfl | rfl | rfl | rfl | rfl | rfl | rfl : b = 1 ∨ b = 2 ∨ b = 3 ∨ b = 4 ∨ b = 5 ∨ b = 6 ∨ b = 7 ∨ b = 8 := by omega
  all_goals decide
theorem full_pow (b : Int) (_h1 : 1 ≤ b) (_h2 : b ≤ 8) : ((2 : Int) ^ b.toNat) = (full b : Int) + 1 := by
  unfold full
  have : 1 ≤ 2 ^ b.toNat := Nat.one_le_two_pow
  rw [Int.natCast_sub this]
  simp
theorem and_full (b : Int) (x : Nat) : x &&& full b = x % (full b + 1) := by
  unfold full
  rw [Nat.and_two_pow_sub_one_eq_mod, Nat.sub_add_cancel Nat.one_le_two_pow]

theorem ofInt_i64 (a : Nat) (ha : a < 18446744073709551616) : (BitVec.ofInt 64 (a : Int)).toNat = a := ofInt_u64 a ha
theorem i64_and_nat (a b : Nat) (ha : a < 4294967296) (hb : b < 4294967296) : bits .and .i64 (a : Int) (b : Int) = ((a &&& b : Nat) : Int) := by
  have hlt : a &&& b < 4294967296 := Nat.lt_of_le_of_lt Nat.and_le_left ha
  have h : (BitVec.ofInt 64 (a : Int) &&& BitVec.ofInt 64 (b : Int)).toNat = a &&& b := by
    rw [BitVec.toNat_and, ofInt_u64 a (by omega), ofInt_u64 b (by omega)]
  show IntKind.i64.wrap ((BitVec.ofInt 64 (a : Int) &&& BitVec.ofInt 64 (b : Int)).toNat : Int) = _
  rw [h]
  simp [IntKind.wrap, IntKind.bits, IntKind.signed]
  omega
theorem i64_or_nat (a b : Nat) (ha : a < 4294967296) (hb : b < 4294967296) : bits .or .i64 (a : Int) (b : Int) = ((a ||| b : Nat) : Int) := by
  have hlt : a ||| b < 2 ^ 32 := Nat.or_lt_two_pow (by simpa using ha) (by simpa using hb)
  have h : (BitVec.ofInt 64 (a : Int) ||| BitVec.ofInt 64 (b : Int)).toNat = a ||| b := by
    rw [BitVec.toNat_or, ofInt_u64 a (by omega), ofInt_u64 b (by omega)]
  show IntKind.i64.wrap ((BitVec.ofInt 64 (a : Int) ||| BitVec.ofInt 64 (b : Int)).toNat : Int) = _
  rw [h]
  simp [IntKind.wrap, IntKind.bits, IntKind.signed]
  omega

/-- The bytes behind the first. -/
def tail7 (r : Nat) : List Nat := if r < 128 then [r] else (128 + r % 128) :: tail7 (r / 128)
termination_by r
decreasing_by omega
theorem tail7_low (r : Nat) (h : r < 128) : tail7 r = [r] := by rw [tail7, if_pos h]
theorem tail7_high (r : Nat) (h : ¬ r < 128) : tail7 r = (128 + r % 128) :: tail7 (r / 128) := by rw [tail7, if_neg h]

def putN (first m n : Nat) : List Nat := if n < m then [first + n] else (first + m) :: tail7 (n - m)

/-- Reading the bytes behind the first: so much is there, byte number i comes next. -/
def scan (acc i : Nat) : List Nat → Int × Int × Int
  | [] => (0, 0, 2)
  | x :: xs =>
    if 2147483647 < acc + x % 128 * 2 ^ (7 * (i - 1)) ∨ (i = 5 ∧ 128 ≤ x) then (0, 0, 4)
    else if x < 128 then (((acc + x % 128 * 2 ^ (7 * (i - 1)) : Nat) : Int), ((i + 1 : Nat) : Int), 0)
    else scan (acc + x % 128 * 2 ^ (7 * (i - 1))) (i + 1) xs

/-- Reading a number. -/
def getN (b : Int) : List Nat → Int × Int × Int
  | [] => (0, 0, 2)
  | x :: xs => if x % (full b + 1) < full b then ((x % (full b + 1) : Nat), 1, 0) else scan (full b) 1 xs

theorem length_tail7 (k : Nat) : ∀ r, r < 128 ^ (k + 1) → (tail7 r).length ≤ k + 1 := by
  induction k with
  | zero => intro r hr; rw [tail7_low r (by simpa using hr)]; simp
  | succ k ih =>
    intro r hr
    by_cases h : r < 128
    · rw [tail7_low r h]; simp
    · rw [tail7_high r h]
      have : r / 128 < 128 ^ (k + 1) := by
        rw [Nat.div_lt_iff_lt_mul (by decide)]; rw [Nat.pow_succ] at hr; exact hr
      have := ih _ this
      simp; omega
theorem length_tail7_pos (r : Nat) : 1 ≤ (tail7 r).length := by
  by_cases h : r < 128
  · rw [tail7_low r h]; simp
  · rw [tail7_high r h]; simp
theorem tail7_byte (r : Nat) : ∀ x ∈ tail7 r, x < 256 := by
  induction r using Nat.strongRecOn with
  | _ r ih =>
    by_cases h : r < 128
    · rw [tail7_low r h]; simp; omega
    · rw [tail7_high r h]
      intro x hx
      rcases List.mem_cons.1 hx with rfl | hx
      · omega
      · exact ih _ (by omega) x hx
theorem putN_byte (first m n : Nat) (h : first + m < 256) : ∀ x ∈ putN first m n, x < 256 := by
  unfold putN
  split
  · simp; omega
  · intro x hx
    rcases List.mem_cons.1 hx with rfl | hx
    · exact h
    · exact tail7_byte _ x hx
theorem length_tail7_mono (r : Nat) : ∀ s, r ≤ s → (tail7 r).length ≤ (tail7 s).length := by
  induction r using Nat.strongRecOn with
  | _ r ih =>
    intro s hs
    by_cases h : r < 128
    · rw [tail7_low r h]; simpa using length_tail7_pos s
    · rw [tail7_high r h, tail7_high s (by omega)]
      have := ih (r / 128) (by omega) (s / 128) (Nat.div_le_div_right hs)
      simp; omega

/-- What was written is read, whatever stands behind it. -/
theorem scan_tail7 (r : Nat) : ∀ (acc i : Nat) (more : List Nat), 1 ≤ i → i ≤ 5 → acc + r * 2 ^ (7 * (i - 1)) ≤ 2147483647 →
    scan acc i (tail7 r ++ more) = (((acc + r * 2 ^ (7 * (i - 1)) : Nat) : Int), ((i + (tail7 r).length : Nat) : Int), 0) := by
  induction r using Nat.strongRecOn with
  | _ r ih =>
    intro acc i more h1 h5 hb
    by_cases h : r < 128
    · rw [tail7_low r h]
      simp only [List.cons_append, List.nil_append, scan, Nat.mod_eq_of_lt h]
      rw [if_neg (by omega), if_pos h]
      simp
    · rw [tail7_high r h]
      have hi : i < 5 := by
        rcases Nat.lt_or_ge i 5 with hh | hh
        · exact hh
        · have : i = 5 := by omega
          subst this
          have : 128 * 2 ^ (7 * (5 - 1)) ≤ r * 2 ^ (7 * (5 - 1)) := Nat.mul_le_mul_right _ (by omega)
          simp at this hb
          omega
      have hp : 2 ^ (7 * (i + 1 - 1)) = 128 * 2 ^ (7 * (i - 1)) := by
        have : 7 * (i + 1 - 1) = 7 + 7 * (i - 1) := by omega
        rw [this, Nat.pow_add]
      have hx : (128 + r % 128) % 128 = r % 128 := by omega
      have hsum : acc + r % 128 * 2 ^ (7 * (i - 1)) + r / 128 * 2 ^ (7 * (i + 1 - 1)) = acc + r * 2 ^ (7 * (i - 1)) := by
        rw [hp, ← Nat.mul_assoc, Nat.add_assoc, ← Nat.add_mul]
        congr 2
        omega
      simp only [List.cons_append, scan, hx]
      rw [if_neg (by have := Nat.le_add_right (acc + r % 128 * 2 ^ (7 * (i - 1))) (r / 128 * 2 ^ (7 * (i + 1 - 1))); omega), if_neg (by omega),
        ih (r / 128) (by omega) _ (i + 1) more (by omega) (by omega) (by omega), hsum]
      simp
      omega

theorem getN_putN (b : Int) (first n : Nat) (more : List Nat) (h1 : 1 ≤ b) (h2 : b ≤ 8) (hf : first % (full b + 1) = 0) (hn : n ≤ 2147483647) :
    getN b (putN first (full b) n ++ more) = ((n : Int), ((putN first (full b) n).length : Int), 0) := by
  have hM := full_bounds b h1 h2
  unfold putN
  split
  · rename_i hlt
    have hmod : (first + n) % (full b + 1) = n := by rw [Nat.add_mod, hf, Nat.zero_add, Nat.mod_mod, Nat.mod_eq_of_lt (by omega)]
    simp only [List.cons_append, List.nil_append, getN, hmod]
    rw [if_pos hlt]
    simp
  · rename_i hge
    have hmod : (first + full b) % (full b + 1) = full b := by rw [Nat.add_mod, hf, Nat.zero_add, Nat.mod_mod, Nat.mod_eq_of_lt (by omega)]
    simp only [List.cons_append, getN, hmod]
    rw [if_neg (by omega), scan_tail7 _ _ 1 more (by omega) (by omega) (by simp; omega)]
    simp
    omega

/-- Bytes that end ahead of the number's end are too few. -/
theorem scan_cut (r : Nat) : ∀ (acc i k : Nat), 1 ≤ i → i ≤ 5 → acc + r * 2 ^ (7 * (i - 1)) ≤ 2147483647 → k < (tail7 r).length →
    scan acc i ((tail7 r).take k) = (0, 0, 2) := by
  induction r using Nat.strongRecOn with
  | _ r ih =>
    intro acc i k h1 h5 hb hk
    by_cases h : r < 128
    · rw [tail7_low r h] at hk ⊢
      have : k = 0 := by simpa using hk
      subst this
      rfl
    · rw [tail7_high r h] at hk ⊢
      cases k with
      | zero => rfl
      | succ k =>
        have hi : i < 5 := by
          rcases Nat.lt_or_ge i 5 with hh | hh
          · exact hh
          · have : i = 5 := by omega
            subst this
            have : 128 * 2 ^ (7 * (5 - 1)) ≤ r * 2 ^ (7 * (5 - 1)) := Nat.mul_le_mul_right _ (by omega)
            simp at this hb
            omega
        have hp : 2 ^ (7 * (i + 1 - 1)) = 128 * 2 ^ (7 * (i - 1)) := by
          have : 7 * (i + 1 - 1) = 7 + 7 * (i - 1) := by omega
          rw [this, Nat.pow_add]
        have hx : (128 + r % 128) % 128 = r % 128 := by omega
        have hsum : acc + r % 128 * 2 ^ (7 * (i - 1)) + r / 128 * 2 ^ (7 * (i + 1 - 1)) = acc + r * 2 ^ (7 * (i - 1)) := by
          rw [hp, ← Nat.mul_assoc, Nat.add_assoc, ← Nat.add_mul]
          congr 2
          omega
        simp only [List.take_succ_cons, scan, hx]
        rw [if_neg (by have := Nat.le_add_right (acc + r % 128 * 2 ^ (7 * (i - 1))) (r / 128 * 2 ^ (7 * (i + 1 - 1))); omega), if_neg (by omega)]
        exact ih (r / 128) (by omega) _ (i + 1) k (by omega) (by omega) (by omega) (by simpa using hk)

theorem getN_cut (b : Int) (first n k : Nat) (h1 : 1 ≤ b) (h2 : b ≤ 8) (hf : first % (full b + 1) = 0) (hn : n ≤ 2147483647) (hk : k < (putN first (full b) n).length) :
    getN b ((putN first (full b) n).take k) = (0, 0, 2) := by
  have hM := full_bounds b h1 h2
  unfold putN at hk ⊢
  split at hk
  · rename_i hlt
    rw [if_pos hlt]
    have : k = 0 := by simpa using hk
    subst this
    rfl
  · rename_i hge
    rw [if_neg hge]
    cases k with
    | zero => rfl
    | succ k =>
      have hmod : (first + full b) % (full b + 1) = full b := by rw [Nat.add_mod, hf, Nat.zero_add, Nat.mod_mod, Nat.mod_eq_of_lt (by omega)]
      simp only [List.take_succ_cons, getN, hmod]
      rw [if_neg (by omega)]
      exact scan_cut _ _ 1 k (by omega) (by omega) (by simp; omega) (by simpa using hk)

theorem length_putN (first m n : Nat) (hn : n ≤ 2147483647) : 1 ≤ (putN first m n).length ∧ (putN first m n).length ≤ 6 := by
  unfold putN
  split
  · simp
  · have h5 : (128 : Nat) ^ (4 + 1) = 34359738368 := by decide
    have := length_tail7 4 (n - m) (by omega)
    simp; omega
end Go.Proofs.Ytgmhbkmmcboadaa
