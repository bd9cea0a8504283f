/-
  Codes of several lengths as plain numbers: a byte's code, a text's bits as one number, the bytes with 1s behind, and back. No program.
-/
import Derived.Laws.BitsAllLaws
import Derived.Laws.BytesArg
import Derived.Lib.Bytealg
namespace Go.Proofs.Ytnaheinebhcimaa
open Go

def fivesL : List UInt8 := [48, 49, 50, 51, 52, 53, 54, 55, 56, 57, 97, 101, 105, 111, 115, 116]
def sevensL : List UInt8 := [32, 33, 37, 38, 40, 41, 42, 43, 44, 45, 46, 47, 58, 59, 61, 63, 64, 95, 98, 99, 100, 102, 103, 104, 108, 109, 110, 112, 114, 117, 118, 119]
def shorterL : List Nat := [32, 33, 37, 38, 40, 41, 42, 43, 44, 45, 46, 47, 48, 49, 50, 51, 52, 53, 54, 55, 56, 57, 58, 59, 61, 63, 64, 95, 97, 98, 99, 100, 101, 102, 103, 104, 105, 108, 109, 110, 111, 112, 114, 115, 116, 117, 118, 119]

def five (c : Nat) : Int := Lib.indexByte fivesL (UInt8.ofNat c)
def seven (c : Nat) : Int := Lib.indexByte sevensL (UInt8.ofNat c)
/-- How many of these are less. -/
def less (c : Nat) : List Nat → Nat
  | [] => 0
  | x :: l => (if x < c then 1 else 0) + less c l
/-- A byte's code, and how many bits it has. -/
def code (c : Nat) : Nat := if 0 ≤ five c then (five c).toNat else if 0 ≤ seven c then 64 + (seven c).toNat else 768 + c - less c shorterL
def nb (c : Nat) : Nat := if 0 ≤ five c then 5 else if 0 ≤ seven c then 7 else 10
def up (c : Nat) : List Nat → Nat
  | [] => c
  | x :: l => up (if x ≤ c then c + 1 else c) l
/-- The byte of a code. -/
def byteN (v : Nat) : Nat := if v < 64 then (fivesL.getD v 0).toNat else if v < 768 then (sevensL.getD (v - 64) 0).toNat else up (v - 768) shorterL

def isCode (k v : Nat) : Prop := k = 5 ∧ v < 16 ∨ k = 7 ∧ 64 ≤ v ∧ v < 96 ∨ k = 10 ∧ 768 ≤ v ∧ v ≤ 975
instance (k v : Nat) : Decidable (isCode k v) := by unfold isCode; infer_instance

theorem code_fin : ∀ c : Fin 256, isCode (nb c.val) (code c.val) ∧ byteN (code c.val) = c.val := by decide +kernel
theorem code_is (c : Nat) (h : c < 256) : isCode (nb c) (code c) ∧ byteN (code c) = c := code_fin ⟨c, h⟩
theorem byte_fin : ∀ v : Fin 976, (isCode 5 v.val → byteN v.val < 256 ∧ nb (byteN v.val) = 5 ∧ code (byteN v.val) = v.val) ∧ (isCode 7 v.val → byteN v.val < 256 ∧ nb (byteN v.val) = 7 ∧ code (byteN v.val) = v.val) ∧ (isCode 10 v.val → byteN v.val < 256 ∧ nb (byteN v.val) = 10 ∧ code (byteN v.val) = v.val) := by decide +kernel
theorem byte_is (k v : Nat) (h : isCode k v) : byteN v < 256 ∧ nb (byteN v) = k ∧ code (byteN v) = v := by
  have hv : v < 976 := by unfold isCode at h; omega
  have hf := byte_fin ⟨v, hv⟩
  rcases id h with ⟨rfl, _⟩ | ⟨rfl, _⟩ | ⟨rfl, _⟩
  · exact hf.1 h
  · exact hf.2.1 h
  · exact hf.2.2 h
theorem nb_bounds (c : Nat) : 5 ≤ nb c ∧ nb c ≤ 10 := by
  unfold nb
  split
  · omega
  · split <;> omega
theorem code_lt (c : Nat) (h : c < 256) : code c < 2 ^ nb c := by
  rcases (code_is c h).1 with ⟨h1, h2⟩ | ⟨h1, h2⟩ | ⟨h1, h2⟩ <;> rw [h1] <;> simp <;> omega

/-- A text's bits: how many, and as a number. -/
def bitsN : List Nat → Nat
  | [] => 0
  | c :: s => nb c + bitsN s
def bitsV : List Nat → Nat
  | [] => 0
  | c :: s => code c * 2 ^ bitsN s + bitsV s

theorem bitsN_append (s t : List Nat) : bitsN (s ++ t) = bitsN s + bitsN t := by
  induction s with
  | nil => simp [bitsN]
  | cons c s ih => simp only [List.cons_append, bitsN, ih]; omega
theorem bitsN_snoc (s : List Nat) (c : Nat) : bitsN (s ++ [c]) = bitsN s + nb c := by rw [bitsN_append]; simp [bitsN]
theorem bitsV_snoc (s : List Nat) (c : Nat) : bitsV (s ++ [c]) = bitsV s * 2 ^ nb c + code c := by
  induction s with
  | nil => simp [bitsV, bitsN]
  | cons d s ih => simp only [List.cons_append, bitsV, ih, bitsN_snoc, Nat.pow_add]; rw [Nat.add_mul, Nat.mul_assoc]; omega
theorem bitsN_bounds (s : List Nat) : 5 * s.length ≤ bitsN s ∧ bitsN s ≤ 10 * s.length := by
  induction s with
  | nil => simp [bitsN]
  | cons c s ih => have := nb_bounds c; simp only [bitsN, List.length_cons]; omega

theorem cat_lt (h u n m : Nat) (hh : h < 2 ^ n) (hu : u < 2 ^ m) : h * 2 ^ m + u < 2 ^ (n + m) := by
  have : (h + 1) * 2 ^ m ≤ 2 ^ n * 2 ^ m := Nat.mul_le_mul_right _ hh
  rw [Nat.pow_add]
  rw [Nat.add_mul] at this
  omega
theorem bitsV_lt (s : List Nat) (h : ∀ c ∈ s, c < 256) : bitsV s < 2 ^ bitsN s := by
  induction s with
  | nil => simp [bitsV, bitsN]
  | cons c s ih => exact cat_lt _ _ _ _ (code_lt c (h c (by simp))) (ih fun d hd => h d (by simp [hd]))

/-- Bytes as a number. -/
def val8 : List Nat → Nat
  | [] => 0
  | x :: l => x * 2 ^ (8 * l.length) + val8 l
theorem val8_snoc (l : List Nat) (x : Nat) : val8 (l ++ [x]) = val8 l * 256 + x := by
  induction l with
  | nil => simp [val8]
  | cons d l ih =>
    have : 8 * (l.length + 1) = 8 * l.length + 8 := by omega
    simp only [List.cons_append, val8, ih, List.length_append, List.length_singleton, this, Nat.pow_add]
    rw [Nat.add_mul, Nat.mul_assoc, show (2 : Nat) ^ 8 = 256 from rfl]; omega
theorem val8_lt (l : List Nat) (h : ∀ x ∈ l, x < 256) : val8 l < 2 ^ (8 * l.length) := by
  induction l with
  | nil => simp [val8]
  | cons x l ih =>
    have : 8 * (x :: l).length = 8 + 8 * l.length := by simp; omega
    rw [this]
    exact cat_lt _ _ _ _ (by simpa using h x (by simp)) (ih fun d hd => h d (by simp [hd]))

/-- A number as so many bytes. -/
def bytesOf : Nat → Nat → List Nat
  | 0, _ => []
  | l + 1, v => v / 2 ^ (8 * l) % 256 :: bytesOf l v
theorem bytesOf_length (l v : Nat) : (bytesOf l v).length = l := by
  induction l with
  | zero => rfl
  | succ l ih => simp [bytesOf, ih]
theorem bytesOf_byte (l v : Nat) : ∀ x ∈ bytesOf l v, x < 256 := by
  induction l with
  | zero => simp [bytesOf]
  | succ l ih =>
    intro x hx
    rcases List.mem_cons.1 hx with rfl | hx
    · omega
    · exact ih x hx
theorem bytesOf_high (l : Nat) : ∀ x v, bytesOf l (x * 2 ^ (8 * l) + v) = bytesOf l v := by
  induction l with
  | zero => intro x v; rfl
  | succ l ih =>
    intro x v
    have e : 8 * (l + 1) = 8 + 8 * l := by omega
    have e2 : x * 2 ^ (8 * (l + 1)) = x * 256 * 2 ^ (8 * l) := by rw [e, Nat.pow_add, ← Nat.mul_assoc]
    have hp : 0 < 2 ^ (8 * l) := Nat.two_pow_pos _
    rw [e2]
    simp only [bytesOf, ih]
    congr 1
    rw [Nat.add_comm, Nat.add_mul_div_right _ _ hp]
    omega
theorem bytesOf_val8 (p : List Nat) (h : ∀ x ∈ p, x < 256) : bytesOf p.length (val8 p) = p := by
  induction p with
  | nil => rfl
  | cons x p ih =>
    have hv := val8_lt p fun d hd => h d (by simp [hd])
    have hp : 0 < 2 ^ (8 * p.length) := Nat.two_pow_pos _
    have hx := h x (by simp)
    simp only [List.length_cons, bytesOf, val8, bytesOf_high, ih fun d hd => h d (by simp [hd])]
    rw [Nat.add_comm (x * _), Nat.add_mul_div_right _ _ hp, Nat.div_eq_of_lt hv]
    simp [Nat.mod_eq_of_lt hx]
theorem val8_bytesOf (l v : Nat) : val8 (bytesOf l v) = v % 2 ^ (8 * l) := by
  induction l with
  | zero => simp [bytesOf, val8, Nat.mod_one]
  | succ l ih =>
    have e : 8 * (l + 1) = 8 * l + 8 := by omega
    simp only [bytesOf, val8, ih, bytesOf_length]
    rw [e, Nat.pow_add, Nat.mod_mul]
    simp [Nat.mul_comm]; omega

/-- The 1s behind the codes: how many. -/
def padN (s : List Nat) : Nat := (8 - bitsN s % 8) % 8
/-- A text packed. -/
def putL (s : List Nat) : List Nat := bytesOf ((bitsN s + padN s) / 8) (bitsV s * 2 ^ padN s + (2 ^ padN s - 1))
theorem padN_lt (s : List Nat) : padN s < 8 := by unfold padN; omega
theorem padN_sum (s : List Nat) : 8 * ((bitsN s + padN s) / 8) = bitsN s + padN s := by unfold padN; omega
theorem ones_lt (k : Nat) : 2 ^ k - 1 < 2 ^ k := by have := Nat.two_pow_pos k; omega
theorem putL_length (s : List Nat) : 8 * (putL s).length = bitsN s + padN s := by rw [putL, bytesOf_length, padN_sum]
theorem putL_len (s : List Nat) : (putL s).length = (bitsN s + 7) / 8 := by have := putL_length s; have := padN_lt s; omega
theorem putL_byte (s : List Nat) : ∀ x ∈ putL s, x < 256 := bytesOf_byte _ _
theorem putL_val (s : List Nat) (h : ∀ c ∈ s, c < 256) : val8 (putL s) = bitsV s * 2 ^ padN s + (2 ^ padN s - 1) := by
  rw [putL, val8_bytesOf, padN_sum]
  exact Nat.mod_eq_of_lt (cat_lt _ _ _ _ (bitsV_lt s h) (ones_lt _))
/-- Bytes that are the codes and 1s are the text's. -/
theorem putL_is (s p : List Nat) (k : Nat) (hp : ∀ x ∈ p, x < 256) (hk : k < 8) (hl : 8 * p.length = bitsN s + k) (hv : val8 p = bitsV s * 2 ^ k + (2 ^ k - 1)) : p = putL s := by
  have hkp : k = padN s := by unfold padN; omega
  subst hkp
  have : p.length = (bitsN s + padN s) / 8 := by omega
  rw [putL, ← this, ← hv, bytesOf_val8 p hp]

/-- How many bits the code has that begins so. -/
def lenN (n v : Nat) : Nat := if 1 ≤ n ∧ v / 2 ^ (n - 1) = 0 then 5 else if 2 ≤ n ∧ v / 2 ^ (n - 2) = 2 then 7 else 10
theorem lenN_ge (n v : Nat) : 5 ≤ lenN n v ∧ lenN n v ≤ 10 := by
  unfold lenN
  split
  · omega
  · split <;> omega
/-- Reading n bits that are the number v. -/
def dec (n v : Nat) : Option (List Nat) :=
  if h : lenN n v ≤ n then
    if 975 < v / 2 ^ (n - lenN n v) then none
    else (dec (n - lenN n v) (v % 2 ^ (n - lenN n v))).map (byteN (v / 2 ^ (n - lenN n v)) :: ·)
  else if 8 ≤ n ∨ v ≠ 2 ^ n - 1 then none else some []
termination_by n
decreasing_by have := lenN_ge n v; omega

theorem div_cat (n h m u k : Nat) (hu : u < 2 ^ m) (hk : k ≤ n) : (h * 2 ^ m + u) / 2 ^ (n + m - k) = h / 2 ^ (n - k) := by
  have e : n + m - k = m + (n - k) := by omega
  rw [e, Nat.pow_add, ← Nat.div_div_eq_div_mul]
  congr 1
  rw [Nat.add_comm, Nat.add_mul_div_right _ _ (Nat.two_pow_pos m), Nat.div_eq_of_lt hu, Nat.zero_add]
theorem mod_cat (n h m u k : Nat) (hu : u < 2 ^ m) (hk : k ≤ n) : (h * 2 ^ m + u) % 2 ^ (n + m - k) = h % 2 ^ (n - k) * 2 ^ m + u := by
  have e : n + m - k = m + (n - k) := by omega
  have e1 : (h * 2 ^ m + u) / 2 ^ m = h := by rw [Nat.add_comm, Nat.add_mul_div_right _ _ (Nat.two_pow_pos m), Nat.div_eq_of_lt hu, Nat.zero_add]
  have e2 : (h * 2 ^ m + u) % 2 ^ m = u := by rw [Nat.add_comm, Nat.add_mul_mod_self_right, Nat.mod_eq_of_lt hu]
  rw [e, Nat.pow_add, Nat.mod_mul, e1, e2, Nat.mul_comm (2 ^ m)]
  omega
theorem lenN_cat (n h m u : Nat) (hu : u < 2 ^ m) (hk : lenN n h ≤ n) : lenN (n + m) (h * 2 ^ m + u) = lenN n h := by
  have := lenN_ge n h
  unfold lenN
  rw [div_cat n h m u 1 hu (by omega), div_cat n h m u 2 hu (by omega)]
  have e1 : (1 ≤ n + m) = (1 ≤ n) := by apply propext; omega
  have e2 : (2 ≤ n + m) = (2 ≤ n) := by apply propext; omega
  simp only [e1, e2]
theorem dec_step (n h m u : Nat) (hu : u < 2 ^ m) (hk : lenN n h ≤ n) :
    dec (n + m) (h * 2 ^ m + u) = if 975 < h / 2 ^ (n - lenN n h) then none else (dec (n - lenN n h + m) (h % 2 ^ (n - lenN n h) * 2 ^ m + u)).map (byteN (h / 2 ^ (n - lenN n h)) :: ·) := by
  rw [dec, lenN_cat n h m u hu hk, dif_pos (by omega), div_cat n h m u _ hu hk, mod_cat n h m u _ hu hk]
  have : n + m - lenN n h = n - lenN n h + m := by omega
  rw [this]
theorem dec_end (n h : Nat) (hk : n < lenN n h) : dec n h = if 8 ≤ n ∨ h ≠ 2 ^ n - 1 then none else some [] := by
  rw [dec, dif_neg (by omega)]

theorem lenN_code (k v : Nat) (h : isCode k v) : lenN k v = k := by
  rcases h with ⟨rfl, h⟩ | ⟨rfl, h⟩ | ⟨rfl, h⟩
  · rw [lenN, if_pos (by simp; omega)]
  · rw [lenN, if_neg (by simp; omega), if_pos (by simp; omega)]
  · rw [lenN, if_neg (by simp; omega), if_neg (by simp; omega)]

/-- Codes with 1s behind are read as the text, and as what the 1s are. -/
theorem dec_codes (s : List Nat) (hs : ∀ c ∈ s, c < 256) (k u : Nat) (hu : u < 2 ^ k) : dec (bitsN s + k) (bitsV s * 2 ^ k + u) = (dec k u).map (s ++ ·) := by
  induction s with
  | nil => simp [bitsN, bitsV]
  | cons c s ih =>
    have hc := code_is c (hs c (by simp))
    have hs' : ∀ d ∈ s, d < 256 := fun d hd => hs d (by simp [hd])
    have e1 : bitsN (c :: s) + k = nb c + (bitsN s + k) := by simp only [bitsN]; omega
    have e2 : bitsV (c :: s) * 2 ^ k + u = code c * 2 ^ (bitsN s + k) + (bitsV s * 2 ^ k + u) := by
      simp only [bitsV]
      rw [Nat.add_mul, Nat.pow_add, Nat.mul_assoc]; omega
    have hl := lenN_code _ _ hc.1
    rw [e1, e2, dec_step _ _ _ _ (cat_lt _ _ _ _ (bitsV_lt s hs') hu) (by omega), hl, Nat.sub_self]
    have hc975 : ¬ 975 < code c := by have := hc.1; unfold isCode at this; omega
    simp only [Nat.pow_zero, Nat.div_one, Nat.mod_one, Nat.zero_mul, Nat.zero_add, hc.2, if_neg hc975]
    rw [ih hs', Option.map_map]
    rfl
theorem dec_ones (k : Nat) (hk : k < 16) : dec k (2 ^ k - 1) = if k < 8 then some [] else none := by
  rcases (by omega : k < 10 ∨ 10 ≤ k) with h | h
  · rw [dec_end k _ ?_]
    · by_cases h8 : k < 8
      · rw [if_pos h8, if_neg (by omega)]
      · rw [if_neg h8, if_pos (by omega)]
    · have : ∀ j : Fin 10, j.val < lenN j.val (2 ^ j.val - 1) := by decide
      exact this ⟨k, h⟩
  · have hl : ∀ j : Fin 16, 10 ≤ j.val → lenN j.val (2 ^ j.val - 1) = 10 ∧ 975 < (2 ^ j.val - 1) / 2 ^ (j.val - 10) := by decide
    have := hl ⟨k, hk⟩ h
    simp only at this
    rw [dec, dif_pos (by omega), this.1, if_pos this.2, if_neg (by omega)]

/-- What is read from bytes. -/
def getL (b : List Nat) : Option (List Nat) := dec (8 * b.length) (val8 b)
theorem getL_putL (s : List Nat) (hs : ∀ c ∈ s, c < 256) : getL (putL s) = some s := by
  rw [getL, putL_length, putL_val s hs, dec_codes s hs _ _ (ones_lt _), dec_ones _ (by have := padN_lt s; omega), if_pos (padN_lt s)]
  simp
theorem getL_more (s : List Nat) (hs : ∀ c ∈ s, c < 256) : getL (putL s ++ [255]) = none := by
  have hp := padN_lt s
  have e : 8 * (putL s ++ [255]).length = bitsN s + (padN s + 8) := by have := putL_length s; simp; omega
  have e2 : val8 (putL s ++ [255]) = bitsV s * 2 ^ (padN s + 8) + (2 ^ (padN s + 8) - 1) := by
    have := Nat.two_pow_pos (padN s)
    rw [val8_snoc, putL_val s hs, Nat.pow_add, ← Nat.mul_assoc]
    omega
  rw [getL, e, e2, dec_codes s hs _ _ (ones_lt _), dec_ones _ (by omega), if_neg (by omega)]
  rfl

theorem isCode_of (n v : Nat) (hl : lenN n v ≤ n) (hv : v < 2 ^ n) (h975 : ¬ 975 < v / 2 ^ (n - lenN n v)) : isCode (lenN n v) (v / 2 ^ (n - lenN n v)) := by
  have hge := lenN_ge n v
  have hpow : ∀ j k : Nat, j ≤ k → k ≤ n → v / 2 ^ (n - j) = v / 2 ^ (n - k) / 2 ^ (k - j) := by
    intro j k hjk hkn
    rw [Nat.div_div_eq_div_mul, ← Nat.pow_add]
    congr 2; omega
  have hlt : v / 2 ^ (n - lenN n v) < 2 ^ lenN n v := by
    rw [Nat.div_lt_iff_lt_mul (Nat.two_pow_pos _), ← Nat.pow_add]
    have : lenN n v + (n - lenN n v) = n := by omega
    rw [this]; exact hv
  generalize hk : lenN n v = k at *
  have h1 := hpow 1 k (by omega) hl
  have h2 := hpow 2 k (by omega) hl
  unfold lenN at hk
  generalize v / 2 ^ (n - k) = c at *
  unfold isCode
  split at hk
  · rename_i hh
    subst hk
    rw [h1] at hh
    simp at hh hlt
    omega
  · rename_i hh
    split at hk
    · rename_i hh2
      subst hk
      rw [h1] at hh; rw [h2] at hh2
      simp at hh hh2 hlt
      omega
    · rename_i hh2
      subst hk
      rw [h1] at hh; rw [h2] at hh2
      simp at hh hh2 hlt
      omega
theorem dec_some (n : Nat) : ∀ v s, v < 2 ^ n → dec n v = some s → (∀ c ∈ s, c < 256) ∧ ∃ k, k < 8 ∧ n = bitsN s + k ∧ v = bitsV s * 2 ^ k + (2 ^ k - 1) := by
  induction n using Nat.strongRecOn with
  | _ n ih =>
    intro v s hv hd
    rw [dec] at hd
    split at hd
    · rename_i hl
      split at hd
      · simp at hd
      · rename_i h975
        obtain ⟨t, ht, rfl⟩ := Option.map_eq_some_iff.1 hd
        have hge := lenN_ge n v
        have hcode := isCode_of n v hl hv h975
        obtain ⟨hb1, hb2, hb3⟩ := byte_is _ _ hcode
        obtain ⟨h1, k, hk, hn, hv'⟩ := ih (n - lenN n v) (by omega) _ _ (Nat.mod_lt _ (Nat.two_pow_pos _)) ht
        refine ⟨?_, k, hk, ?_, ?_⟩
        · intro c hc
          rcases List.mem_cons.1 hc with rfl | hc
          · exact hb1
          · exact h1 c hc
        · simp only [bitsN, hb2]; omega
        · have hdm := Nat.div_add_mod v (2 ^ (n - lenN n v))
          simp only [bitsV, hb3]
          rw [hv'] at hdm
          rw [Nat.add_mul, Nat.mul_assoc, ← Nat.pow_add, ← hn, Nat.mul_comm (v / _)]
          omega
    · split at hd
      · simp at hd
      · rename_i hh
        simp at hd
        subst hd
        exact ⟨by simp, n, by omega, by simp [bitsN], by simp [bitsV]; omega⟩
theorem putL_getL (b s : List Nat) (hb : ∀ x ∈ b, x < 256) (h : getL b = some s) : (∀ c ∈ s, c < 256) ∧ putL s = b := by
  obtain ⟨h1, k, hk, hn, hv⟩ := dec_some _ _ _ (val8_lt b hb) h
  exact ⟨h1, (putL_is s b k hb hk hn hv).symm⟩
theorem getL_length (b s : List Nat) (hb : ∀ x ∈ b, x < 256) (h : getL b = some s) : 5 * s.length ≤ 8 * b.length := by
  obtain ⟨h1, k, hk, hn, hv⟩ := dec_some _ _ _ (val8_lt b hb) h
  have := bitsN_bounds s
  omega
end Go.Proofs.Ytnaheinebhcimaa
