/-
  The reference's small functions: at, code, Bits, rare.
-/
import Derived.Test.YtnaheinebhcimaaSAlive
namespace Go.Proofs.Ytnaheinebhcimaa
open Go.RowKit

/-- Where the byte is, told from place j on. -/
def shifted (j : Nat) (x : Int) : Int := if x = -1 then -1 else j + x
theorem index_step (l : List UInt8) (u : UInt8) (j : Nat) (b : UInt8) (rest : List UInt8) (hd : l.drop j = b :: rest) (h : Lib.indexByte l u = shifted j (Lib.indexByte (l.drop j) u)) :
    (b = u → Lib.indexByte l u = j) ∧ (b ≠ u → Lib.indexByte l u = shifted (j + 1) (Lib.indexByte rest u)) := by
  rw [hd] at h
  constructor
  · rintro rfl
    rw [h]
    simp [Lib.indexByte, shifted]
  · intro hne
    rw [h]
    have hb : (b == u) = false := by simpa using hne
    have hge := Lib.indexByte_ge rest u
    simp only [Lib.indexByte, hb, Bool.false_eq_true, if_false, shifted]
    by_cases hm : Lib.indexByte rest u = -1
    · simp [hm]
    · have hm' : (Lib.indexByte rest u == -1) = false := by simpa using hm
      simp only [hm', Bool.false_eq_true, if_false, if_neg hm]
      rw [if_neg (by omega)]
      push_cast
      omega
theorem data_drop (s : ByteArray) (j : Nat) (hj : j < s.size) : s.data.toList.drop j = (s[j]'hj) :: s.data.toList.drop (j + 1) := by
  have h : j < s.data.toList.length := by simpa using hj
  rw [List.drop_eq_getElem_cons h]
  rfl
theorem byte_ne (b : UInt8) (c : Nat) (hc : c < 256) : b = UInt8.ofNat c ↔ b.toNat = c := by
  constructor
  · rintro rfl
    simp [Nat.mod_eq_of_lt hc]
  · intro h
    rw [← h]
    simp

set_option maxRecDepth 100000 in
set_option maxHeartbeats 2000000 in
theorem at_ok (s : ByteArray) (c : Nat) (w : World) (hc : c < 256) (hs : s.size ≤ 1000000) : Calls Try.prog 24 #[.string s, .int .u8 (c : Int)] w fun e w' => e = .returned (.int .i64 (Lib.indexByte s.data.toList (UInt8.ofNat c))) ∧ w = w' := by
  generalize hR : Lib.indexByte s.data.toList (UInt8.ofNat c) = R
  have HR : Hid (Lib.indexByte s.data.toList (UInt8.ofNat c) = R) := hR
  clear hR
  have h0 : R = shifted 0 (Lib.indexByte (s.data.toList.drop 0) (UInt8.ofNat c)) := by
    rw [List.drop_zero, HR.out, shifted]
    split <;> omega
  have H0 : Hid (R = shifted 0 (Lib.indexByte (s.data.toList.drop 0) (UInt8.ofNat c))) := h0
  clear h0
  go_enter Try.func24, Try.ntmps24
  go_wp2
  go_loopg [5] s.size (fun k i wr => ∃ j : Nat, i = .int .i64 j ∧ k + j = s.size ∧ wr = w ∧ Hid (R = shifted j (Lib.indexByte (s.data.toList.drop j) (UInt8.ofNat c))))
  case atStart => exact ⟨0, rfl, rfl, rfl, H0⟩
  case round =>
    obtain ⟨j, rfl, hk, rfl, hl⟩ := hrel
    clear H0
    by_cases hj : j < s.size
    · have hix := index_at s j hj
      have hst := index_step s.data.toList (UInt8.ofNat c) j _ _ (data_drop s j hj) (HR.out.trans hl.out)
      rw [HR.out, byte_ne _ c hc] at hst
      have hyb := UInt8.toNat_lt (s[j]'hj)
      have HS : Hid (((s[j]'hj).toNat ≠ c → R = shifted (j + 1) (Lib.indexByte (s.data.toList.drop (j + 1)) (UInt8.ofNat c))) ∧ gk + j = s.size) := ⟨fun h => hst.2 (fun e => h ((byte_ne _ c hc).1 e)), hk⟩
      have h1 := hst.1
      clear hst hl hk HR
      generalize (s[j]'hj).toNat = y at *
      by_cases hy : y = c
      · subst hy
        obtain rfl := h1 rfl
        clear HS h1
        go_wp2
        go_ret
        exact ⟨rfl, rfl⟩
      · have hne : ((y : Int) == (c : Int)) = false := by simp; omega
        have HT : Hid (R = shifted (j + 1) (Lib.indexByte (s.data.toList.drop (j + 1)) (UInt8.ofNat c)) ∧ gk + j = s.size) := ⟨HS.out.1 hy, HS.out.2⟩
        clear HS h1 hy
        go_wp2
        obtain ⟨e1, e2⟩ := HT.out
        go_roundg (gk - 1)
        case measure => omega
        case rel => exact ⟨j + 1, by simp, by omega, rfl, e1⟩
    · have h1 := hl.out
      rw [List.drop_eq_nil_of_le (by simpa using hj)] at h1
      obtain rfl : R = -1 := h1
      clear hl hk HR
      go_wp2
      go_ret
      exact ⟨rfl, rfl⟩
theorem at_five (c : Nat) (w : World) (hc : c < 256) : Calls Try.prog 24 #[.string ⟨#[48, 49, 50, 51, 52, 53, 54, 55, 56, 57, 97, 101, 105, 111, 115, 116]⟩, .int .u8 (c : Int)] w fun e w' => e = .returned (.int .i64 (five c)) ∧ w = w' := at_ok fivesS c w hc (by decide)
theorem at_seven (c : Nat) (w : World) (hc : c < 256) : Calls Try.prog 24 #[.string ⟨#[32, 33, 37, 38, 40, 41, 42, 43, 44, 45, 46, 47, 58, 59, 61, 63, 64, 95, 98, 99, 100, 102, 103, 104, 108, 109, 110, 112, 114, 117, 118, 119]⟩, .int .u8 (c : Int)] w fun e w' => e = .returned (.int .i64 (seven c)) ∧ w = w' := at_ok sevensS c w hc (by decide)

def fiveN : List Nat := [48, 49, 50, 51, 52, 53, 54, 55, 56, 57, 97, 101, 105, 111, 115, 116]
def sevenN : List Nat := [32, 33, 37, 38, 40, 41, 42, 43, 44, 45, 46, 47, 58, 59, 61, 63, 64, 95, 98, 99, 100, 102, 103, 104, 108, 109, 110, 112, 114, 117, 118, 119]
theorem fiveN_len : fiveN.length = 16 := rfl
theorem sevenN_len : sevenN.length = 32 := rfl
theorem less_sum : ∀ c : Fin 256, less c.val fiveN + less c.val sevenN = less c.val shorterL := by decide +kernel
theorem fiveN_fin : ∀ j : Fin 16, byteN j.val = fiveN.getD j.val 0 := by decide +kernel
theorem sevenN_fin : ∀ j : Fin 32, (sevensS[j.val]'(by have := j.isLt; exact this)).toNat = sevenN.getD j.val 0 := by decide +kernel
theorem fiveN_at (j : Nat) (h : j < 16) (w : World) : (Instr.index 9 (.string ⟨#[48, 49, 50, 51, 52, 53, 54, 55, 56, 57, 97, 101, 105, 111, 115, 116]⟩) (.int .i64 (j : Int))).run Try.prog w = .ok (.int .u8 ((fiveN.getD j 0 : Nat) : Int)) w := by
  have := five_at j h w
  rw [fiveN_fin ⟨j, h⟩] at this
  exact this
theorem sevenN_at (j : Nat) (h : j < 32) (w : World) : (Instr.index 9 (.string ⟨#[32, 33, 37, 38, 40, 41, 42, 43, 44, 45, 46, 47, 58, 59, 61, 63, 64, 95, 98, 99, 100, 102, 103, 104, 108, 109, 110, 112, 114, 117, 118, 119]⟩) (.int .i64 (j : Int))).run Try.prog w = .ok (.int .u8 ((sevenN.getD j 0 : Nat) : Int)) w := by
  have := index_at sevensS j h w
  rw [sevenN_fin ⟨j, h⟩] at this
  exact this
def cnt (c : Nat) : Nat := 768 + c - less c shorterL
theorem cnt_fin : ∀ c : Fin 256, cnt (c.val + 1) = cnt c.val + (if 0 ≤ five c.val ∨ 0 ≤ seven c.val then 0 else 1) := by decide +kernel
theorem cnt_step (c : Nat) (h : c < 256) : cnt (c + 1) = cnt c + (if 0 ≤ five c ∨ 0 ≤ seven c then 0 else 1) := cnt_fin ⟨c, h⟩
theorem cnt_ends : cnt 0 = 768 ∧ cnt 256 = 976 := by decide +kernel
theorem cnt_code (c : Nat) (h5 : ¬ 0 ≤ five c) (h7 : ¬ 0 ≤ seven c) : cnt c = code c := by rw [code, if_neg h5, if_neg h7, cnt]

attribute [local irreducible] less up byteN code nb shorterL fiveN sevenN cnt five seven

set_option maxRecDepth 100000 in
set_option maxHeartbeats 2000000 in
theorem refcode_rare (c : Nat) (w : World) (f g : Int) (L1 L2 : Nat) (hc : c < 256) (hf : ¬ 0 ≤ f) (hs : ¬ 0 ≤ g) (HL1 : Hid (less c fiveN = L1)) (HL2 : Hid (less c sevenN = L2)) (hL1 : L1 ≤ 16)
    (h5 : Hid (∀ w, Calls Try.prog 24 #[.string ⟨#[48, 49, 50, 51, 52, 53, 54, 55, 56, 57, 97, 101, 105, 111, 115, 116]⟩, .int .u8 (c : Int)] w fun e w' => e = .returned (.int .i64 f) ∧ w = w'))
    (h7 : Hid (∀ w, Calls Try.prog 24 #[.string ⟨#[32, 33, 37, 38, 40, 41, 42, 43, 44, 45, 46, 47, 58, 59, 61, 63, 64, 95, 98, 99, 100, 102, 103, 104, 108, 109, 110, 112, 114, 117, 118, 119]⟩, .int .u8 (c : Int)] w fun e w' => e = .returned (.int .i64 g) ∧ w = w')) :
    Calls Try.prog 22 #[.int .u8 (c : Int)] w fun e w' => e = .returned (.tuple #[.int .i64 (768 + c - L1 - L2), .int .i64 10]) ∧ w = w' := by
  go_enter Try.func22, Try.ntmps22
  go_wp2_with fail
  refine Calls.mono (h5.out _) ?_
  rintro e w1 ⟨rfl, rfl⟩
  go_wp2_with fail
  refine Calls.mono (h7.out _) ?_
  rintro e w1 ⟨rfl, rfl⟩
  go_wp2
  clear h5 h7 hf hs
  go_loopg [6, 7] 16 (fun k v i wr => ∃ j r : Nat, i = .int .i64 j ∧ k + j = 16 ∧ wr = w ∧ r ≤ 16 ∧ v = .int .i64 (768 + c - r) ∧ Hid (less c (fiveN.take j) = r))
  case atStart => exact ⟨0, 0, rfl, rfl, rfl, by omega, by simp, less_take0 _ _⟩
  case round =>
    obtain ⟨j, r, rfl, hk, rfl, hr, rfl, hl⟩ := hrel
    by_cases hj : j < 16
    · have hix := fiveN_at j hj
      have hl2 : Hid (less c (fiveN.take (j + 1)) = r + (if fiveN.getD j 0 < c then 1 else 0) ∧ gk + j = 16) := ⟨by rw [take_snoc _ _ (by rw [fiveN_len]; exact hj), less_snoc, hl.out], hk⟩
      generalize fiveN.getD j 0 = y at *
      clear hl hk HL1 HL2
      by_cases hy : y < c
      · as_aux_lemma =>
          go_wp2
          obtain ⟨h1, h3⟩ := hl2.out
          have h2 := less_le c (fiveN.take (j + 1))
          rw [List.length_take, fiveN_len] at h2
          rw [if_pos hy] at h1
          go_roundg (gk - 1)
          case measure => omega
          case rel => exact ⟨j + 1, r + 1, by simp, by omega, rfl, by omega, by simp; omega, h1⟩
      · as_aux_lemma =>
          go_wp2
          obtain ⟨h1, h3⟩ := hl2.out
          rw [if_neg hy] at h1
          go_roundg (gk - 1)
          case measure => omega
          case rel => exact ⟨j + 1, r, by simp, by omega, rfl, by omega, by simp, h1⟩
    · obtain rfl : L1 = r := by
        have h1 := hl.out
        rw [List.take_of_length_le (by rw [fiveN_len]; omega)] at h1
        rw [← h1]; exact HL1.out.symm
      clear hl hk HL1
      go_wp2
      clear hj
      go_loopg [6, 8] 32 (fun k v i wx => ∃ j r : Nat, i = .int .i64 j ∧ k + j = 32 ∧ wx = wr ∧ r ≤ 32 ∧ v = .int .i64 (768 + c - L1 - r) ∧ Hid (less c (sevenN.take j) = r))
      case atStart => exact ⟨0, 0, rfl, rfl, rfl, by omega, by simp, less_take0 _ _⟩
      case round =>
        obtain ⟨j, r, rfl, hk, rfl, hr, rfl, hl⟩ := hrel
        by_cases hj : j < 32
        · have hix := sevenN_at j hj
          have hl2 : Hid (less c (sevenN.take (j + 1)) = r + (if sevenN.getD j 0 < c then 1 else 0) ∧ gk + j = 32) := ⟨by rw [take_snoc _ _ (by rw [sevenN_len]; exact hj), less_snoc, hl.out], hk⟩
          generalize sevenN.getD j 0 = y at *
          clear hl hk HL2
          by_cases hy : y < c
          · as_aux_lemma =>
              go_wp2
              obtain ⟨h1, h3⟩ := hl2.out
              have h2 := less_le c (sevenN.take (j + 1))
              rw [List.length_take, sevenN_len] at h2
              rw [if_pos hy] at h1
              go_roundg (gk - 1)
              case measure => omega
              case rel => exact ⟨j + 1, r + 1, by simp, by omega, rfl, by omega, by simp; omega, h1⟩
          · as_aux_lemma =>
              go_wp2
              obtain ⟨h1, h3⟩ := hl2.out
              rw [if_neg hy] at h1
              go_roundg (gk - 1)
              case measure => omega
              case rel => exact ⟨j + 1, r, by simp, by omega, rfl, by omega, by simp, h1⟩
        · obtain rfl : L2 = r := by
            have h1 := hl.out
            rw [List.take_of_length_le (by rw [sevenN_len]; omega)] at h1
            rw [← h1]; exact HL2.out.symm
          clear hl hk HL2
          go_wp2
          go_ret2
          exact ⟨rfl, rfl⟩

set_option maxRecDepth 100000 in
set_option maxHeartbeats 2000000 in
theorem refcode_ok (c : Nat) (w : World) (hc : c < 256) : Calls Try.prog 22 #[.int .u8 (c : Int)] w fun e w' => e = .returned (.tuple #[.int .i64 (code c : Int), .int .i64 (nb c : Int)]) ∧ w = w' := by
  have h5 : Hid (∀ w, Calls Try.prog 24 #[.string ⟨#[48, 49, 50, 51, 52, 53, 54, 55, 56, 57, 97, 101, 105, 111, 115, 116]⟩, .int .u8 (c : Int)] w fun e w' => e = .returned (.int .i64 (five c)) ∧ w = w') := fun w => at_five c w hc
  have h7 : Hid (∀ w, Calls Try.prog 24 #[.string ⟨#[32, 33, 37, 38, 40, 41, 42, 43, 44, 45, 46, 47, 58, 59, 61, 63, 64, 95, 98, 99, 100, 102, 103, 104, 108, 109, 110, 112, 114, 117, 118, 119]⟩, .int .u8 (c : Int)] w fun e w' => e = .returned (.int .i64 (seven c)) ∧ w = w') := fun w => at_seven c w hc
  by_cases hf : 0 ≤ five c
  · have e1 : Hid ((code c : Int) = five c) := by show _ = _; unfold code; rw [if_pos hf]; omega
    have e2 : nb c = 5 := by unfold nb; rw [if_pos hf]
    rw [e1.out, e2]
    clear e1 e2
    generalize five c = f at *
    go_enter Try.func22, Try.ntmps22
    go_wp2_with fail
    refine Calls.mono (h5.out _) ?_
    rintro e w1 ⟨rfl, rfl⟩
    go_wp2
    go_ret2
    exact ⟨rfl, rfl⟩
  · by_cases hs : 0 ≤ seven c
    · have e1 : Hid ((code c : Int) = 64 + seven c) := by show _ = _; unfold code; rw [if_neg hf, if_pos hs]; omega
      have e2 : nb c = 7 := by unfold nb; rw [if_neg hf, if_pos hs]
      have hb : 64 + seven c < 1024 := by have := code_lt c hc; rw [e2] at this; have := e1.out; omega
      rw [e1.out, e2]
      clear e1 e2
      generalize five c = f at *
      generalize seven c = g at *
      go_enter Try.func22, Try.ntmps22
      go_wp2_with fail
      refine Calls.mono (h5.out _) ?_
      rintro e w1 ⟨rfl, rfl⟩
      go_wp2_with fail
      refine Calls.mono (h7.out _) ?_
      rintro e w1 ⟨rfl, rfl⟩
      go_wp2
      go_ret2
      exact ⟨rfl, rfl⟩
    · have hle := less_le c fiveN
      rw [fiveN_len] at hle
      have hle2 := less_le c sevenN
      rw [sevenN_len] at hle2
      have hsum := less_sum ⟨c, hc⟩
      simp only at hsum
      have E : (code c : Int) = 768 + c - less c fiveN - less c sevenN := by unfold code; rw [if_neg hf, if_neg hs]; omega
      have e2 : nb c = 10 := by unfold nb; rw [if_neg hf, if_neg hs]
      have := refcode_rare c w (five c) (seven c) _ _ hc hf hs rfl rfl hle h5 h7
      rw [← E, show (10 : Int) = (nb c : Int) by rw [e2]; rfl] at this
      exact this

theorem refbits_ok (c : Nat) (w : World) (hc : c < 256) : Calls Try.prog 16 #[.int .u8 (c : Int)] w fun e w' => e = .returned (.int .i64 (nb c : Int)) ∧ w = w' := by
  have hC : Hid (∀ w, Calls Try.prog 22 #[.int .u8 (c : Int)] w fun e w' => e = .returned (.tuple #[.int .i64 (code c : Int), .int .i64 (nb c : Int)]) ∧ w = w') := fun w => refcode_ok c w hc
  go_enter Try.func16, Try.ntmps16
  go_wp2_with fail
  refine Calls.mono (hC.out _) ?_
  rintro e w1 ⟨rfl, rfl⟩
  go_wp2
  go_ret
  exact ⟨rfl, rfl⟩

set_option maxRecDepth 100000 in
set_option maxHeartbeats 2000000 in
theorem rare_ok (v : Nat) (w : World) (h1 : 768 ≤ v) (h2 : v ≤ 975) : Calls Try.prog 21 #[.int .i64 (v : Int)] w fun e w' => e = .returned (.int .u8 (byteN v : Int)) ∧ w = w' := by
  generalize hY : byteN v = Y
  have HY : Hid (byteN v = Y) := hY
  clear hY
  have h5 : Hid (∀ (c : Nat) w, c < 256 → Calls Try.prog 24 #[.string ⟨#[48, 49, 50, 51, 52, 53, 54, 55, 56, 57, 97, 101, 105, 111, 115, 116]⟩, .int .u8 (c : Int)] w fun e w' => e = .returned (.int .i64 (five c)) ∧ w = w') := fun c w hc => at_five c w hc
  have h7 : Hid (∀ (c : Nat) w, c < 256 → Calls Try.prog 24 #[.string ⟨#[32, 33, 37, 38, 40, 41, 42, 43, 44, 45, 46, 47, 58, 59, 61, 63, 64, 95, 98, 99, 100, 102, 103, 104, 108, 109, 110, 112, 114, 117, 118, 119]⟩, .int .u8 (c : Int)] w fun e w' => e = .returned (.int .i64 (seven c)) ∧ w = w') := fun c w hc => at_seven c w hc
  have HE := cnt_ends
  have H0 : Hid (cnt 0 = 768 ∧ cnt 256 = 976) := HE
  clear HE
  go_enter Try.func21, Try.ntmps21
  go_wp2
  go_loopg [3, 4] 256 (fun k nv i wr => ∃ c n : Nat, i = .int .i64 c ∧ nv = .int .i64 n ∧ k + c = 256 ∧ wr = w ∧ n ≤ v ∧ Hid (cnt c = n))
  case atStart => exact ⟨0, 768, rfl, rfl, rfl, rfl, h1, H0.out.1⟩
  case round =>
    obtain ⟨c, n, rfl, rfl, hk, rfl, hn, hl⟩ := hrel
    by_cases hc : c < 256
    · have h5c : Hid (∀ w, Calls Try.prog 24 #[.string ⟨#[48, 49, 50, 51, 52, 53, 54, 55, 56, 57, 97, 101, 105, 111, 115, 116]⟩, .int .u8 (c : Int)] w fun e w' => e = .returned (.int .i64 (five c)) ∧ w = w') := fun w => h5.out c w hc
      have h7c : Hid (∀ w, Calls Try.prog 24 #[.string ⟨#[32, 33, 37, 38, 40, 41, 42, 43, 44, 45, 46, 47, 58, 59, 61, 63, 64, 95, 98, 99, 100, 102, 103, 104, 108, 109, 110, 112, 114, 117, 118, 119]⟩, .int .u8 (c : Int)] w fun e w' => e = .returned (.int .i64 (seven c)) ∧ w = w') := fun w => h7.out c w hc
      have HS : Hid (cnt (c + 1) = n + (if 0 ≤ five c ∨ 0 ≤ seven c then 0 else 1) ∧ gk + c = 256) := ⟨by rw [cnt_step c hc, hl.out], hk⟩
      have HD : Hid (¬ 0 ≤ five c → ¬ 0 ≤ seven c → n = v → Y = c) := by
        intro a b e
        have e1 := cnt_code c a b
        rw [hl.out, e] at e1
        rw [← HY.out, e1]
        exact (code_is c hc).2
      clear h5 h7 hl hk H0 HY
      generalize five c = f at *
      generalize seven c = g at *
      by_cases hf : 0 ≤ f
      · as_aux_lemma =>
          go_wp2_with fail
          refine Calls.mono (h5c.out _) ?_
          rintro e w1 ⟨rfl, rfl⟩
          go_wp2
          obtain ⟨e1, e2⟩ := HS.out
          rw [if_pos (.inl hf)] at e1
          go_roundg (gk - 1)
          case measure => omega
          case rel => exact ⟨c + 1, n, by simp, rfl, by omega, rfl, hn, e1⟩
      · by_cases hg : 0 ≤ g
        · as_aux_lemma =>
            go_wp2_with fail
            refine Calls.mono (h5c.out _) ?_
            rintro e w1 ⟨rfl, rfl⟩
            go_wp2_with fail
            refine Calls.mono (h7c.out _) ?_
            rintro e w1 ⟨rfl, rfl⟩
            go_wp2
            obtain ⟨e1, e2⟩ := HS.out
            rw [if_pos (.inr hg)] at e1
            go_roundg (gk - 1)
            case measure => omega
            case rel => exact ⟨c + 1, n, by simp, rfl, by omega, rfl, hn, e1⟩
        · by_cases hnv : n = v
          · obtain rfl := HD.out hf hg hnv
            subst hnv
            clear HS HD
            as_aux_lemma =>
              go_wp2_with fail
              refine Calls.mono (h5c.out _) ?_
              rintro e w1 ⟨rfl, rfl⟩
              go_wp2_with fail
              refine Calls.mono (h7c.out _) ?_
              rintro e w1 ⟨rfl, rfl⟩
              go_wp2
              go_ret
              exact ⟨rfl, rfl⟩
          · have hne : ((n : Int) == (v : Int)) = false := by simp; omega
            clear HD
            as_aux_lemma =>
              go_wp2_with fail
              refine Calls.mono (h5c.out _) ?_
              rintro e w1 ⟨rfl, rfl⟩
              go_wp2_with fail
              refine Calls.mono (h7c.out _) ?_
              rintro e w1 ⟨rfl, rfl⟩
              go_wp2
              obtain ⟨e1, e2⟩ := HS.out
              rw [if_neg (by omega)] at e1
              go_roundg (gk - 1)
              case measure => omega
              case rel => exact ⟨c + 1, n + 1, by simp, by simp, by omega, rfl, by omega, e1⟩
    · exfalso
      have hk2 : cnt 256 = 976 := H0.out.2
      have : gk + c = 256 := hk
      obtain rfl : c = 256 := by omega
      have := hl.out
      omega
end Go.Proofs.Ytnaheinebhcimaa
