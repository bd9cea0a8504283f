/-
  Package squeeze: the small functions: codeOf, Bits, byteOf, length, ones.
-/
import Derived.Test.YtnaheinebhcimaaRows
import Derived.Test.YtnaheinebhcimaaSSpec
import Derived.WalkKit
import Derived.ProofKit
import Derived.OpenShut
import Derived.WalkSpells
import Derived.WalkLawsBesides
import Derived.Outline
import Derived.Deep.LoopGhost
import Derived.Laws.Externs
namespace Go.Proofs.Ytnaheinebhcimaa
open Go.RowKit

theorem index_at (b : ByteArray) (j : Nat) (h : j < b.size) (w : World) : (Instr.index 9 (.string b) (.int .i64 (j : Int))).run Try.prog w = .ok (.int .u8 ((b[j]'h).toNat : Int)) w := by
  rw [run_index_string w _ _ _ _ Try.underlying9, dif_pos (by omega)]
  simp
theorem i64_and_nat (a b : Nat) (ha : a < 4294967296) (hb : b < 4294967296) : bits .and .i64 (a : Int) (b : Int) = ((a &&& b : Nat) : Int) := by
  have hlt : a &&& b < 4294967296 := Nat.lt_of_le_of_lt Nat.and_le_left ha
  have h : (BitVec.ofInt 64 (a : Int) &&& BitVec.ofInt 64 (b : Int)).toNat = a &&& b := by
    rw [BitVec.toNat_and, ofInt_u64 a (by omega), ofInt_u64 b (by omega)]
  show IntKind.i64.wrap ((BitVec.ofInt 64 (a : Int) &&& BitVec.ofInt 64 (b : Int)).toNat : Int) = _
  rw [h]
  simp [IntKind.wrap, IntKind.bits, IntKind.signed]
  omega
theorem i64_or_nat (a b : Nat) (ha : a < 4294967296) (hb : b < 4294967296) : bits .or .i64 (a : Int) (b : Int) = ((a ||| b : Nat) : Int) := by
  have hlt : a ||| b < 2 ^ 32 := Nat.or_lt_two_pow (by simpa using ha) (by simpa using hb)
  have h : (BitVec.ofInt 64 (a : Int) ||| BitVec.ofInt 64 (b : Int)).toNat = a ||| b := by
    rw [BitVec.toNat_or, ofInt_u64 a (by omega), ofInt_u64 b (by omega)]
  show IntKind.i64.wrap ((BitVec.ofInt 64 (a : Int) ||| BitVec.ofInt 64 (b : Int)).toNat : Int) = _
  rw [h]
  simp [IntKind.wrap, IntKind.bits, IntKind.signed]
  omega
/-- 'held & ones(n)'. -/
theorem and_ones (h n : Nat) (hh : h < 4294967296) (hn : n ≤ 31) : bits .and .i64 (h : Int) ((2 ^ n - 1 : Nat) : Int) = ((h % 2 ^ n : Nat) : Int) := by
  have : 2 ^ n ≤ 2 ^ 31 := Nat.pow_le_pow_right (by decide) hn
  rw [i64_and_nat _ _ hh (by omega), Nat.and_two_pow_sub_one_eq_mod]
/-- 'held<<k | c'. -/
theorem or_cat (h k c : Nat) (hc : c < 2 ^ k) (hh : h * 2 ^ k < 4294967296) (hk : k ≤ 31) : bits .or .i64 ((h * 2 ^ k : Nat) : Int) (c : Int) = ((h * 2 ^ k + c : Nat) : Int) := by
  have : 2 ^ k ≤ 2 ^ 31 := Nat.pow_le_pow_right (by decide) hk
  rw [i64_or_nat _ _ hh (by omega), Nat.mul_comm, Nat.two_pow_add_eq_or_of_lt hc]

theorem ones_ok (n : Nat) (w : World) (h : n ≤ 31) : Calls Try.prog 18 #[.int .i64 (n : Int)] w fun e w' => e = .returned (.int .i64 ((2 ^ n - 1 : Nat) : Int)) ∧ w = w' := by
  have hp1 : 1 ≤ 2 ^ n := Nat.one_le_two_pow
  have hp2 : 2 ^ n ≤ 2147483648 := by have : 2 ^ n ≤ 2 ^ 31 := Nat.pow_le_pow_right (by decide) h; simpa using this
  have hN : Hid ((2 : Int) ^ n - 1 = ((2 ^ n - 1 : Nat) : Int)) := by show _ = _; rw [Int.natCast_sub hp1]; simp
  have hc : (2 : Int) ^ n = ((2 ^ n : Nat) : Int) := by simp
  have h1 : 1 ≤ (2 : Int) ^ n := by omega
  have h2 : (2 : Int) ^ n ≤ 2147483648 := by omega
  clear hc hp1 hp2
  go_enter Try.func18, Try.ntmps18
  go_wp2
  rw [hN.out]
  go_ret
  exact ⟨rfl, rfl⟩

set_option maxRecDepth 100000 in
set_option maxHeartbeats 2000000 in
theorem slindex_ok (s : ByteArray) (c : Int) (w : World) : Calls Try.prog 25 #[.string s, .int .u8 c] w fun e w' => e = .returned (.int .i64 (Lib.indexByte s.data.toList c.toNat.toUInt8)) ∧ w = w' := by
  go_enter Try.func25, Try.ntmps25
  go_wp2
  rw [run_callFunc_extern Try.func26 (by kernel_rfl) (by kernel_rfl) (by kernel_rfl) (e := Extern.BytealgIndexByte.indexByte) (by kernel_rfl), Lib.run_indexByteString]
  simp only [Result.andThen]
  rw [Oper.upon_value]
  go_wp2
  go_ret
  exact ⟨rfl, rfl⟩
theorem index_ok (s : ByteArray) (c : Int) (w : World) : Calls Try.prog 23 #[.string s, .int .u8 c] w fun e w' => e = .returned (.int .i64 (Lib.indexByte s.data.toList c.toNat.toUInt8)) ∧ w = w' := by
  go_enter Try.func23, Try.ntmps23
  go_wp2_with fail
  refine (slindex_ok s c w).mono ?_
  rintro e w1 ⟨rfl, rfl⟩
  go_wp2
  go_ret
  exact ⟨rfl, rfl⟩

def fivesS : ByteArray := ⟨#[48, 49, 50, 51, 52, 53, 54, 55, 56, 57, 97, 101, 105, 111, 115, 116]⟩
def sevensS : ByteArray := ⟨#[32, 33, 37, 38, 40, 41, 42, 43, 44, 45, 46, 47, 58, 59, 61, 63, 64, 95, 98, 99, 100, 102, 103, 104, 108, 109, 110, 112, 114, 117, 118, 119]⟩
def shorterS : ByteArray := ⟨#[32, 33, 37, 38, 40, 41, 42, 43, 44, 45, 46, 47, 48, 49, 50, 51, 52, 53, 54, 55, 56, 57, 58, 59, 61, 63, 64, 95, 97, 98, 99, 100, 101, 102, 103, 104, 105, 108, 109, 110, 111, 112, 114, 115, 116, 117, 118, 119]⟩
theorem index_five (c : Nat) (w : World) : Calls Try.prog 23 #[.string ⟨#[48, 49, 50, 51, 52, 53, 54, 55, 56, 57, 97, 101, 105, 111, 115, 116]⟩, .int .u8 (c : Int)] w fun e w' => e = .returned (.int .i64 (five c)) ∧ w = w' := index_ok fivesS c w
theorem index_seven (c : Nat) (w : World) : Calls Try.prog 23 #[.string ⟨#[32, 33, 37, 38, 40, 41, 42, 43, 44, 45, 46, 47, 58, 59, 61, 63, 64, 95, 98, 99, 100, 102, 103, 104, 108, 109, 110, 112, 114, 117, 118, 119]⟩, .int .u8 (c : Int)] w fun e w' => e = .returned (.int .i64 (seven c)) ∧ w = w' := index_ok sevensS c w

theorem short_fin : ∀ j : Fin 48, (shorterS[j.val]'(by have := j.isLt; exact this)).toNat = shorterL.getD j.val 0 := by decide +kernel
theorem short_lt : ∀ j : Fin 48, shorterL.getD j.val 0 < 256 := by decide +kernel
theorem short_at (j : Nat) (h : j < 48) (w : World) : (Instr.index 9 (.string ⟨#[32, 33, 37, 38, 40, 41, 42, 43, 44, 45, 46, 47, 48, 49, 50, 51, 52, 53, 54, 55, 56, 57, 58, 59, 61, 63, 64, 95, 97, 98, 99, 100, 101, 102, 103, 104, 105, 108, 109, 110, 111, 112, 114, 115, 116, 117, 118, 119]⟩) (.int .i64 (j : Int))).run Try.prog w = .ok (.int .u8 ((shorterL.getD j 0 : Nat) : Int)) w := by
  have := index_at shorterS j h w
  rw [short_fin ⟨j, h⟩] at this
  exact this
theorem five_fin : ∀ j : Fin 16, (fivesS[j.val]'(by have := j.isLt; exact this)).toNat = byteN j.val := by decide +kernel
theorem five_at (j : Nat) (h : j < 16) (w : World) : (Instr.index 9 (.string ⟨#[48, 49, 50, 51, 52, 53, 54, 55, 56, 57, 97, 101, 105, 111, 115, 116]⟩) (.int .i64 (j : Int))).run Try.prog w = .ok (.int .u8 (byteN j : Int)) w := by
  have := index_at fivesS j h w
  rw [five_fin ⟨j, h⟩] at this
  exact this
theorem seven_fin : ∀ j : Fin 32, (sevensS[j.val]'(by have := j.isLt; exact this)).toNat = byteN (64 + j.val) := by decide +kernel
theorem seven_at (j : Nat) (h : j < 32) (w : World) : (Instr.index 9 (.string ⟨#[32, 33, 37, 38, 40, 41, 42, 43, 44, 45, 46, 47, 58, 59, 61, 63, 64, 95, 98, 99, 100, 102, 103, 104, 108, 109, 110, 112, 114, 117, 118, 119]⟩) (.int .i64 (64 + (j : Int) - 64))).run Try.prog w = .ok (.int .u8 (byteN (64 + j) : Int)) w := by
  rw [show (64 : Int) + (j : Int) - 64 = j by omega]
  have := index_at sevensS j h w
  rw [seven_fin ⟨j, h⟩] at this
  exact this

theorem short_len : shorterL.length = 48 := rfl
theorem less_le (c : Nat) (l : List Nat) : less c l ≤ l.length := by
  induction l with
  | nil => simp [less]
  | cons x l ih => simp only [less, List.length_cons]; split <;> omega
theorem less_snoc (c x : Nat) (l : List Nat) : less c (l ++ [x]) = less c l + if x < c then 1 else 0 := by
  induction l with
  | nil => simp [less]
  | cons y l ih => simp only [List.cons_append, less, ih]; omega
theorem take_snoc (l : List Nat) (j : Nat) (h : j < l.length) : l.take (j + 1) = l.take j ++ [l.getD j 0] := by
  rw [List.take_add_one, List.getElem?_eq_getElem h]
  simp [List.getD, List.getElem?_eq_getElem h]
theorem drop_cons (l : List Nat) (j : Nat) (h : j < l.length) : l.drop j = l.getD j 0 :: l.drop (j + 1) := by
  rw [List.drop_eq_getElem_cons h]
  simp [List.getD, List.getElem?_eq_getElem h]

theorem less_take0 (c : Nat) (l : List Nat) : less c (l.take 0) = 0 := rfl
attribute [local irreducible] less up byteN code nb shorterL

set_option maxRecDepth 100000 in
set_option maxHeartbeats 2000000 in
theorem codeOf_rare (c : Nat) (w : World) (f g : Int) (L : Nat) (hc : c < 256) (hf : ¬ 0 ≤ f) (hs : ¬ 0 ≤ g) (HLL : Hid (less c shorterL = L))
    (h5 : Hid (∀ w, Calls Try.prog 23 #[.string ⟨#[48, 49, 50, 51, 52, 53, 54, 55, 56, 57, 97, 101, 105, 111, 115, 116]⟩, .int .u8 (c : Int)] w fun e w' => e = .returned (.int .i64 f) ∧ w = w'))
    (h7 : Hid (∀ w, Calls Try.prog 23 #[.string ⟨#[32, 33, 37, 38, 40, 41, 42, 43, 44, 45, 46, 47, 58, 59, 61, 63, 64, 95, 98, 99, 100, 102, 103, 104, 108, 109, 110, 112, 114, 117, 118, 119]⟩, .int .u8 (c : Int)] w fun e w' => e = .returned (.int .i64 g) ∧ w = w')) :
    Calls Try.prog 17 #[.int .u8 (c : Int)] w fun e w' => e = .returned (.tuple #[.int .i64 (768 + c - L), .int .i64 10]) ∧ w = w' := by
  go_enter Try.func17, Try.ntmps17
  go_wp2_with fail
  refine Calls.mono (h5.out _) ?_
  rintro e w1 ⟨rfl, rfl⟩
  go_wp2_with fail
  refine Calls.mono (h7.out _) ?_
  rintro e w1 ⟨rfl, rfl⟩
  go_wp2
  clear h5 h7 hf hs
  go_loopg [6, 22] 48 (fun k v i wr => ∃ j r : Nat, i = .int .i64 j ∧ k + j = 48 ∧ wr = w ∧ r ≤ 48 ∧ v = .int .i64 (768 + c - r) ∧ Hid (less c (shorterL.take j) = r))
  case atStart => exact ⟨0, 0, rfl, rfl, rfl, by omega, by simp, less_take0 _ _⟩
  case round =>
    obtain ⟨j, r, rfl, hk, rfl, hr, rfl, hl⟩ := hrel
    by_cases hj : j < 48
    · have hix := short_at j hj
      have hl2 : Hid (less c (shorterL.take (j + 1)) = r + (if shorterL.getD j 0 < c then 1 else 0) ∧ gk + j = 48) := ⟨by rw [take_snoc _ _ (by rw [short_len]; exact hj), less_snoc, hl.out], hk⟩
      generalize shorterL.getD j 0 = y at *
      clear hl hk HLL
      by_cases hy : y < c
      · as_aux_lemma =>
          go_wp2
          obtain ⟨h1, h3⟩ := hl2.out
          have h2 := less_le c (shorterL.take (j + 1))
          rw [List.length_take, short_len] at h2
          rw [if_pos hy] at h1
          go_roundg (gk - 1)
          case measure => omega
          case rel => exact ⟨j + 1, r + 1, by simp, by omega, rfl, by omega, by simp; omega, h1⟩
      · as_aux_lemma =>
          go_wp2
          obtain ⟨h1, h3⟩ := hl2.out
          rw [if_neg hy] at h1
          go_roundg (gk - 1)
          case measure => omega
          case rel => exact ⟨j + 1, r, by simp, by omega, rfl, by omega, by simp, h1⟩
    · have hLr : L = r := by
        have h1 := hl.out
        rw [List.take_of_length_le (by rw [short_len]; omega)] at h1
        rw [← h1]; exact HLL.out.symm
      subst hLr
      clear hl hk HLL
      go_wp2
      go_ret2
      exact ⟨rfl, rfl⟩

set_option maxRecDepth 100000 in
set_option maxHeartbeats 2000000 in
theorem codeOf_ok (c : Nat) (w : World) (hc : c < 256) : Calls Try.prog 17 #[.int .u8 (c : Int)] w fun e w' => e = .returned (.tuple #[.int .i64 (code c : Int), .int .i64 (nb c : Int)]) ∧ w = w' := by
  have h5 : Hid (∀ w, Calls Try.prog 23 #[.string ⟨#[48, 49, 50, 51, 52, 53, 54, 55, 56, 57, 97, 101, 105, 111, 115, 116]⟩, .int .u8 (c : Int)] w fun e w' => e = .returned (.int .i64 (five c)) ∧ w = w') := index_five c
  have h7 : Hid (∀ w, Calls Try.prog 23 #[.string ⟨#[32, 33, 37, 38, 40, 41, 42, 43, 44, 45, 46, 47, 58, 59, 61, 63, 64, 95, 98, 99, 100, 102, 103, 104, 108, 109, 110, 112, 114, 117, 118, 119]⟩, .int .u8 (c : Int)] w fun e w' => e = .returned (.int .i64 (seven c)) ∧ w = w') := index_seven c
  by_cases hf : 0 ≤ five c
  · have e1 : Hid ((code c : Int) = five c) := by show _ = _; rw [code, if_pos hf]; omega
    have e2 : nb c = 5 := by rw [nb, if_pos hf]
    rw [e1.out, e2]
    clear e1 e2
    generalize five c = f at *
    go_enter Try.func17, Try.ntmps17
    go_wp2_with fail
    refine Calls.mono (h5.out _) ?_
    rintro e w1 ⟨rfl, rfl⟩
    go_wp2
    go_ret2
    exact ⟨rfl, rfl⟩
  · by_cases hs : 0 ≤ seven c
    · have e1 : Hid ((code c : Int) = 64 + seven c) := by show _ = _; rw [code, if_neg hf, if_pos hs]; omega
      have e2 : nb c = 7 := by rw [nb, if_neg hf, if_pos hs]
      have hb : 64 + seven c < 1024 := by have := code_lt c hc; rw [e2] at this; have := e1.out; omega
      rw [e1.out, e2]
      clear e1 e2
      generalize five c = f at *
      generalize seven c = f at *
      go_enter Try.func17, Try.ntmps17
      go_wp2_with fail
      refine Calls.mono (h5.out _) ?_
      rintro e w1 ⟨rfl, rfl⟩
      go_wp2_with fail
      refine Calls.mono (h7.out _) ?_
      rintro e w1 ⟨rfl, rfl⟩
      go_wp2
      go_ret2
      exact ⟨rfl, rfl⟩
    · have hle := less_le c shorterL
      rw [short_len] at hle
      have E : (code c : Int) = 768 + c - less c shorterL := by rw [code, if_neg hf, if_neg hs]; omega
      have e2 : nb c = 10 := by rw [nb, if_neg hf, if_neg hs]
      have := codeOf_rare c w (five c) (seven c) (less c shorterL) hc hf hs rfl h5 h7
      rw [← E, show (10 : Int) = (nb c : Int) by rw [e2]; rfl] at this
      exact this

theorem bits_ok (c : Nat) (w : World) (hc : c < 256) : Calls Try.prog 15 #[.int .u8 (c : Int)] w fun e w' => e = .returned (.int .i64 (nb c : Int)) ∧ w = w' := by
  have hC : Hid (∀ w, Calls Try.prog 17 #[.int .u8 (c : Int)] w fun e w' => e = .returned (.tuple #[.int .i64 (code c : Int), .int .i64 (nb c : Int)]) ∧ w = w') := fun w => codeOf_ok c w hc
  go_enter Try.func15, Try.ntmps15
  go_wp2_with fail
  refine Calls.mono (hC.out _) ?_
  rintro e w1 ⟨rfl, rfl⟩
  go_wp2
  go_ret
  exact ⟨rfl, rfl⟩

theorem byteN_up (v : Nat) (h : 768 ≤ v) : byteN v = up (v - 768) shorterL := by
  unfold byteN
  rw [if_neg (by omega), if_neg (by omega)]
theorem up_nil (c : Nat) : up c [] = c := by unfold up; rfl
theorem up_cons (c x : Nat) (l : List Nat) : up c (x :: l) = up (if x ≤ c then c + 1 else c) l := by rw [up]

set_option maxRecDepth 100000 in
set_option maxHeartbeats 2000000 in
theorem byteOf_rare (v : Nat) (w : World) (h1 : 768 ≤ v) (h2 : v ≤ 975) (L : Nat) (hL : L < 256) (HL : Hid (up (v - 768) shorterL = L)) : Calls Try.prog 20 #[.int .i64 (v : Int)] w fun e w' => e = .returned (.int .u8 (L : Int)) ∧ w = w' := by
  obtain ⟨x, rfl⟩ : ∃ x, v = 768 + x := ⟨v - 768, by omega⟩
  rw [show 768 + x - 768 = x by omega] at HL
  go_enter Try.func20, Try.ntmps20
  go_wp2
  go_loopg [3, 16] 48 (fun k v i wr => ∃ j r : Nat, i = .int .i64 j ∧ k + j = 48 ∧ wr = w ∧ r ≤ 207 + j ∧ v = .int .i64 r ∧ Hid (up r (shorterL.drop j) = L))
  case atStart => exact ⟨0, x, rfl, rfl, rfl, by omega, by simp; omega, HL.out⟩
  case round =>
    obtain ⟨j, r, rfl, hk, rfl, hr, rfl, hl⟩ := hrel
    clear HL h1 h2
    by_cases hj : j < 48
    · have hix := short_at j hj
      have hyb := short_lt ⟨j, hj⟩
      simp only at hyb
      have hl2 : Hid (up (if shorterL.getD j 0 ≤ r then r + 1 else r) (shorterL.drop (j + 1)) = L ∧ gk + j = 48) := ⟨by rw [← up_cons, ← drop_cons _ _ (by rw [short_len]; exact hj)]; exact hl.out, hk⟩
      generalize shorterL.getD j 0 = y at *
      clear hl hk
      by_cases hy : y ≤ r
      · as_aux_lemma =>
          go_wp2
          obtain ⟨h1, h3⟩ := hl2.out
          rw [if_pos hy] at h1
          go_roundg (gk - 1)
          case measure => omega
          case rel => exact ⟨j + 1, r + 1, by simp, by omega, rfl, by omega, by simp, h1⟩
      · as_aux_lemma =>
          go_wp2
          obtain ⟨h1, h3⟩ := hl2.out
          rw [if_neg hy] at h1
          go_roundg (gk - 1)
          case measure => omega
          case rel => exact ⟨j + 1, r, by simp, by omega, rfl, by omega, by simp, h1⟩
    · have hLr : L = r := by
        have h1 := hl.out
        rw [List.drop_eq_nil_of_le (by rw [short_len]; omega), up_nil] at h1
        exact h1.symm
      subst hLr
      clear hl hk
      go_wp2
      go_ret
      exact ⟨rfl, rfl⟩

set_option maxRecDepth 100000 in
set_option maxHeartbeats 2000000 in
theorem byteOf_ok (k v : Nat) (w : World) (h : isCode k v) : Calls Try.prog 20 #[.int .i64 (v : Int)] w fun e w' => e = .returned (.int .u8 (byteN v : Int)) ∧ w = w' := by
  have hb := (byte_is k v h).1
  rcases h with ⟨_, h⟩ | ⟨_, h1, h2⟩ | ⟨_, h1, h2⟩
  · have hix := five_at v h
    generalize byteN v = y at *
    go_enter Try.func20, Try.ntmps20
    go_wp2
    go_ret
    exact ⟨rfl, rfl⟩
  · obtain ⟨x, rfl⟩ : ∃ x, v = 64 + x := ⟨v - 64, by omega⟩
    have hix := seven_at x (by omega)
    generalize byteN (64 + x) = y at *
    go_enter Try.func20, Try.ntmps20
    go_wp2
    go_ret
    exact ⟨rfl, rfl⟩
  · exact byteOf_rare v w h1 h2 _ hb (byteN_up v h1).symm

theorem length_ok (h n : Nat) (w : World) (hn : n ≤ 31) : Calls Try.prog 19 #[.int .i64 (h : Int), .int .i64 (n : Int)] w fun e w' => e = .returned (.int .i64 (lenN n h : Int)) ∧ w = w' := by
  have hq1 : (h : Int) / 2 ^ (n - 1) = ((h / 2 ^ (n - 1) : Nat) : Int) := by simp
  have hq2 : (h : Int) / 2 ^ (n - 2) = ((h / 2 ^ (n - 2) : Nat) : Int) := by simp
  have hl : lenN n h = if 1 ≤ n ∧ h / 2 ^ (n - 1) = 0 then 5 else if 2 ≤ n ∧ h / 2 ^ (n - 2) = 2 then 7 else 10 := rfl
  generalize h / 2 ^ (n - 1) = a at *
  generalize h / 2 ^ (n - 2) = b at *
  by_cases c1 : 1 ≤ n ∧ a = 0
  · rw [if_pos c1] at hl
    obtain ⟨h1, rfl⟩ := c1
    rw [hl]
    clear hl
    go_enter Try.func19, Try.ntmps19
    go_wp2
    go_ret
    exact ⟨rfl, rfl⟩
  · rw [if_neg c1] at hl
    have hA : 1 ≤ n → ((a : Int) == 0) = false := by intro h1; simp; intro h0; exact c1 ⟨h1, h0⟩
    clear c1
    by_cases c2 : 2 ≤ n ∧ b = 2
    · rw [if_pos c2] at hl
      obtain ⟨h2, rfl⟩ := c2
      rw [hl]
      replace hA := hA (by omega)
      clear hl
      go_enter Try.func19, Try.ntmps19
      go_wp2
      go_ret
      exact ⟨rfl, rfl⟩
    · rw [if_neg c2] at hl
      rw [hl]
      clear hl
      by_cases h1 : 1 ≤ n
      · replace hA := hA h1
        by_cases h2 : 2 ≤ n
        · have hB : ((b : Int) == 2) = false := by simp; intro h0; exact c2 ⟨h2, by omega⟩
          clear c2
          go_enter Try.func19, Try.ntmps19
          go_wp2
          go_ret
          exact ⟨rfl, rfl⟩
        · clear c2
          go_enter Try.func19, Try.ntmps19
          go_wp2
          go_ret
          exact ⟨rfl, rfl⟩
      · have h2 : ¬ 2 ≤ n := by omega
        clear c2 hA
        go_enter Try.func19, Try.ntmps19
        go_wp2
        go_ret
        exact ⟨rfl, rfl⟩
end Go.Proofs.Ytnaheinebhcimaa
