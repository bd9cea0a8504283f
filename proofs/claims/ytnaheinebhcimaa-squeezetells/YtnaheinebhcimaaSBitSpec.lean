/-
  The bits of bytes one by one: the top bits of what is left. No program.
-/
import Derived.Test.YtnaheinebhcimaaSRefPut
namespace Go.Proofs.Ytnaheinebhcimaa
open Go.RowKit

/-- Bit number j of T bits that are the number W. -/
def bitAt (T W j : Nat) : Nat := W / 2 ^ (T - 1 - j) % 2
/-- What is left from bit i on. -/
def left (T W i : Nat) : Nat := W % 2 ^ (T - i)
theorem bitAt_lt (T W j : Nat) : bitAt T W j < 2 := Nat.mod_lt _ (by decide)
theorem left_lt (T W i : Nat) : left T W i < 2 ^ (T - i) := Nat.mod_lt _ (Nat.two_pow_pos _)

theorem val8_bit (l : List Nat) (h : ∀ x ∈ l, x < 256) : ∀ j, j < 8 * l.length → bitAt (8 * l.length) (val8 l) j = l.getD (j / 8) 0 / 2 ^ (7 - j % 8) % 2 := by
  induction l with
  | nil => intro j hj; simp at hj
  | cons x l ih =>
    intro j hj
    have hv := val8_lt l fun y hy => h y (by simp [hy])
    have hl : 8 * (x :: l).length = 8 + 8 * l.length := by simp; omega
    rw [hl] at hj ⊢
    unfold bitAt
    simp only [val8]
    by_cases h8 : j < 8
    · have e : 8 + 8 * l.length - 1 - j = 8 + 8 * l.length - (j + 1) := by omega
      rw [e, div_cat 8 x (8 * l.length) (val8 l) (j + 1) hv (by omega), Nat.div_eq_of_lt h8, Nat.mod_eq_of_lt h8]
      simp only [List.getD_cons_zero]
      congr 3
      omega
    · have e2 : 8 + 8 * l.length - 1 - j = 8 * l.length - 1 - (j - 8) := by omega
      have e3 : j / 8 = (j - 8) / 8 + 1 := by omega
      have e4 : j % 8 = (j - 8) % 8 := by omega
      have := ih (fun y hy => h y (by simp [hy])) (j - 8) (by omega)
      unfold bitAt at this
      rw [e2, e3, e4, List.getD_cons_succ, ← this]
      obtain ⟨k, hk⟩ : ∃ k, 8 * l.length - 1 - (j - 8) = k ∧ k + 1 ≤ 8 * l.length := ⟨_, rfl, by omega⟩
      rw [hk.1]
      have e5 : x * 2 ^ (8 * l.length) = x * 2 ^ (8 * l.length - (k + 1)) * 2 * 2 ^ k := by
        rw [Nat.mul_assoc, Nat.mul_assoc, ← Nat.pow_succ', ← Nat.pow_add]
        congr 2
        omega
      rw [e5, Nat.add_comm, Nat.add_mul_div_right _ _ (Nat.two_pow_pos k)]
      omega

/-- The top k bits of what is left from bit i on. -/
def top (T W i k : Nat) : Nat := left T W i / 2 ^ (T - i - k)
theorem top_zero (T W i : Nat) : top T W i 0 = 0 := by
  unfold top
  rw [Nat.sub_zero]
  exact Nat.div_eq_of_lt (left_lt T W i)
theorem top_succ (T W i k : Nat) (h : i + k < T) : top T W i (k + 1) = top T W i k * 2 + bitAt T W (i + k) := by
  unfold top left bitAt
  have e1 : T - i - k = (T - i - (k + 1)) + 1 := by omega
  have e2 : T - 1 - (i + k) = T - i - (k + 1) := by omega
  rw [e1, e2, Nat.pow_succ]
  generalize hm : T - i - (k + 1) = m
  have hmi : m + (k + 1) = T - i := by omega
  rw [← Nat.div_div_eq_div_mul]
  have : W % 2 ^ (T - i) / 2 ^ m % 2 = W / 2 ^ m % 2 := by
    have e3 : 2 ^ (T - i) = 2 ^ m * 2 ^ (k + 1) := by rw [← hmi, Nat.pow_add]
    rw [e3, Nat.mod_mul_right_div_self, Nat.pow_succ, Nat.mul_comm (2 ^ k), Nat.mod_mul_right_mod]
  omega
theorem top_lt (T W i k : Nat) (h : i + k ≤ T) : top T W i k < 2 ^ k := by
  unfold top
  rw [Nat.div_lt_iff_lt_mul (Nat.two_pow_pos _), ← Nat.pow_add, show k + (T - i - k) = T - i by omega]
  exact left_lt T W i
theorem left_step (T W i k : Nat) (h : i + k ≤ T) : left T W i % 2 ^ (T - i - k) = left T W (i + k) := by
  unfold left
  rw [show T - (i + k) = T - i - k by omega]
  have : 2 ^ (T - i) = 2 ^ (T - i - k) * 2 ^ k := by rw [← Nat.pow_add]; congr 1; omega
  rw [this, Nat.mod_mul_right_mod]
theorem top_div (T W i j k : Nat) (hj : j ≤ k) (h : i + k ≤ T) : top T W i j = top T W i k / 2 ^ (k - j) := by
  unfold top
  rw [Nat.div_div_eq_div_mul, ← Nat.pow_add]
  congr 2
  omega
/-- The length of the next code, by its top bits. -/
theorem lenN_top (T W i k : Nat) (hk : i + k ≤ T) (h2 : 2 ≤ k) : lenN (T - i) (left T W i) = if top T W i k / 2 ^ (k - 1) = 0 then 5 else if top T W i k / 2 ^ (k - 2) = 2 then 7 else 10 := by
  unfold lenN
  have e1 : left T W i / 2 ^ (T - i - 1) = top T W i k / 2 ^ (k - 1) := by rw [← top_div T W i 1 k (by omega) hk]; rfl
  have e2 : left T W i / 2 ^ (T - i - 2) = top T W i k / 2 ^ (k - 2) := by rw [← top_div T W i 2 k (by omega) hk]; rfl
  rw [e1, e2]
  have h1 : 1 ≤ T - i := by omega
  have h2' : 2 ≤ T - i := by omega
  simp only [h1, h2', true_and]
theorem len_five (T W i : Nat) (hk : i + 5 ≤ T) : lenN (T - i) (left T W i) = 5 ↔ top T W i 5 < 16 := by
  rw [lenN_top T W i 5 hk (by omega)]
  have := top_lt T W i 5 hk
  simp only [Nat.reducePow, Nat.reduceSub] at this ⊢
  split
  · constructor <;> intro <;> omega
  · split <;> (constructor <;> intro <;> omega)
theorem len_seven (T W i : Nat) (hk : i + 7 ≤ T) : lenN (T - i) (left T W i) = 7 ↔ 64 ≤ top T W i 7 ∧ top T W i 7 < 96 := by
  rw [lenN_top T W i 7 hk (by omega)]
  have := top_lt T W i 7 hk
  simp only [Nat.reducePow, Nat.reduceSub] at this ⊢
  split
  · constructor <;> intro <;> omega
  · split <;> (constructor <;> intro <;> omega)
theorem len_ten (T W i : Nat) (hk : i + 10 ≤ T) (h : lenN (T - i) (left T W i) = 10) : 768 ≤ top T W i 10 := by
  rw [lenN_top T W i 10 hk (by omega)] at h
  have := top_lt T W i 10 hk
  simp only [Nat.reducePow, Nat.reduceSub] at this h
  split at h
  · omega
  · split at h <;> omega

/-- What is still to be read from bit i on, behind what was. -/
def From (g : Option (List Nat)) (T W i : Nat) (done : List Nat) : Prop := g = (dec (T - i) (left T W i)).map (done ++ ·)
theorem from_start (T W : Nat) (h : W < 2 ^ T) : From (dec T W) T W 0 [] := by
  unfold From left
  simp [Nat.mod_eq_of_lt h]
theorem from_code (g : Option (List Nat)) (T W i L : Nat) (done : List Nat) (h : From g T W i done) (hL : lenN (T - i) (left T W i) = L) (hk : i + L ≤ T) (h975 : ¬ 975 < top T W i L) : From g T W (i + L) (done ++ [byteN (top T W i L)]) := by
  unfold From at h ⊢
  rw [h, dec, dif_pos (by omega), hL]
  have e : left T W i / 2 ^ (T - i - L) = top T W i L := rfl
  rw [e, if_neg h975, left_step T W i L hk, Option.map_map, show T - (i + L) = T - i - L by omega]
  congr 1
  funext l
  simp
theorem from_bad (g : Option (List Nat)) (T W i L : Nat) (done : List Nat) (h : From g T W i done) (hL : lenN (T - i) (left T W i) = L) (hk : i + L ≤ T) (h975 : 975 < top T W i L) : g = none := by
  unfold From at h
  rw [h, dec, dif_pos (by omega), hL]
  have e : left T W i / 2 ^ (T - i - L) = top T W i L := rfl
  rw [e, if_pos h975]
  rfl
theorem from_end (g : Option (List Nat)) (T W i L : Nat) (done : List Nat) (h : From g T W i done) (hL : lenN (T - i) (left T W i) = L) (hk : T < i + L) : g = if 8 ≤ T - i ∨ left T W i ≠ 2 ^ (T - i) - 1 then none else some done := by
  unfold From at h
  rw [h, dec_end _ _ (by have := lenN_ge (T - i) (left T W i); omega)]
  split <;> simp
theorem left_bit (T W i : Nat) (h : i < T) : left T W i = bitAt T W i * 2 ^ (T - (i + 1)) + left T W (i + 1) := by
  have h1 := top_succ T W i 0 (by omega)
  rw [top_zero] at h1
  have h2 := left_step T W i 1 (by omega)
  have h3 := Nat.div_add_mod (left T W i) (2 ^ (T - i - 1))
  unfold top at h1
  simp only [Nat.zero_add, Nat.add_zero, Nat.zero_mul] at h1
  rw [h1, h2, Nat.mul_comm] at h3
  rw [show T - (i + 1) = T - i - 1 by omega]
  exact h3.symm
theorem ones_bit (T W i : Nat) (h : i < T) : left T W i = 2 ^ (T - i) - 1 ↔ bitAt T W i = 1 ∧ left T W (i + 1) = 2 ^ (T - (i + 1)) - 1 := by
  have h1 := left_bit T W i h
  have h2 := left_lt T W (i + 1)
  have h3 := bitAt_lt T W i
  have e : 2 ^ (T - i) = 2 ^ (T - (i + 1)) * 2 := by rw [← Nat.pow_succ]; congr 1; omega
  rw [h1, e]
  rcases (by omega : bitAt T W i = 0 ∨ bitAt T W i = 1) with h0 | h0
  · rw [h0]
    constructor
    · intro; omega
    · intro; omega
  · rw [h0]
    constructor
    · intro; omega
    · intro; omega
theorem left_all (T W : Nat) : left T W T = 2 ^ (T - T) - 1 := by
  unfold left
  simp [Nat.mod_one]
theorem from_all (T W : Nat) (done : List Nat) : From (some done) T W T done := by
  unfold From
  have hl : left T W T = 0 := by unfold left; simp [Nat.mod_one]
  rw [hl, Nat.sub_self, dec_end 0 0 (by have := lenN_ge 0 0; omega)]
  simp
theorem from_done (g : Option (List Nat)) (T W : Nat) (done : List Nat) (h : From g T W T done) : g = some done := by
  rw [h]
  exact (from_all T W done).symm

/-- The bits in their row, the first i of them laid. -/
def bitRow (T W i : Nat) : List Value := (List.range T).map fun j => Value.int .i64 (if j < i then (bitAt T W j : Int) else 0)
theorem bitRow_length (T W i : Nat) : (bitRow T W i).length = T := by simp [bitRow]
theorem bitRow_zero (T W : Nat) : bitRow T W 0 = List.replicate T (.int .i64 0) := by
  apply List.ext_getElem <;> simp [bitRow]
theorem bitRow_set (T W i : Nat) : (bitRow T W i).set i (.int .i64 (bitAt T W i : Int)) = bitRow T W (i + 1) := by
  apply List.ext_getElem
  · simp [bitRow]
  · intro n h1 h2
    simp only [bitRow, List.getElem_set, List.getElem_map, List.getElem_range]
    by_cases he : i = n
    · subst he; simp
    · rw [if_neg he]
      congr 1
      by_cases hn : n < i
      · rw [if_pos hn, if_pos (by omega)]
      · rw [if_neg hn, if_neg (by omega)]
theorem bitRow_at (T W i j : Nat) (h : j < T) (hi : j < i) : (bitRow T W i)[j]? = some (.int .i64 (bitAt T W j : Int)) := by
  simp [bitRow, h, hi]
theorem bitRow_some (T W i j : Nat) (h : j < T) : ∃ v, (bitRow T W i)[j]? = some (.int .i64 v) := by
  simp [bitRow, h]

theorem rows_apart {w : World} {b1 e1 s1 n1 b2 e2 s2 n2 : Nat} {v1 v2 : Value} {xs1 xs2 : List Value} (h1 : w.ownsRow b1 e1 s1 v1 n1 xs1) (h2 : w.ownsRow b2 e2 s2 v2 n2 xs2) (hne : e1 ≠ e2) : v1.ownBlock = none ∨ v1.ownBlock ≠ v2.ownBlock := by
  rcases h1.2 with ⟨rfl, _⟩ | ⟨g1, c1, cur1, rfl, _, hg1, _⟩
  · exact .inl rfl
  · rcases h2.2 with ⟨rfl, _⟩ | ⟨g2, c2, cur2, rfl, _, hg2, _⟩
    · right; simp [Value.ownBlock]
    · right
      intro he
      simp [Value.ownBlock] at he
      subst he
      rw [hg1] at hg2
      simp at hg2
      exact hne hg2.2
end Go.Proofs.Ytnaheinebhcimaa
