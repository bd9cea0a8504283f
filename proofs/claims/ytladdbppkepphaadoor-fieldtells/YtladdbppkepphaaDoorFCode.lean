/-
  Package field: places, all, Name, Value, forbidden; the library's calls.
-/
import Derived.Test.YtladdbppkepphaaDoorFSpec
import Derived.Test.YtladdbppkepphaaDoorFLay
import Derived.Test.YtladdbppkepphaaDoorGLies
namespace Go.Proofs.YtladdbppkepphaaDoor
open Go.RowKit

theorem hasPrefix_ok (s p : ByteArray) (w : World) : Calls Tryd.prog 30 #[.string s, .string p] w fun e w' => e = .returned (.bool (Lib.hasPrefix s.data.toList p.data.toList)) ∧ w = w' :=
  (Any.strings_HasPrefix lays99 s p w).mono fun _ _ h => ⟨h.1, h.2.symm⟩
theorem hasSuffix_ok (s p : ByteArray) (w : World) (hs : s.size ≤ 9223372036854775807) : Calls Tryd.prog 31 #[.string s, .string p] w fun e w' => e = .returned (.bool (Lib.hasSuffix s.data.toList p.data.toList)) ∧ w = w' :=
  (Any.strings_HasSuffix lays100 s p w hs).mono fun _ _ h => ⟨h.1, h.2.symm⟩
theorem keeps_bytes (w : World) (e : TypeId) (s : ByteArray) : Keeps nobody w (Lib.bytesWorld w e s) := ⟨rfl, rfl, rfl, by rw [Lib.bytesWorld_size]; omega, fun k hk _ => Lib.bytesWorld_at_old w e s k hk⟩
theorem atoi_ok (v : ByteArray) (w : World) (h : lenB v = true) : Calls Tryd.prog 29 #[.string v] w fun e w' => e = .returned (.tuple #[.int .i64 ((decL 0 (nums v) : Nat) : Int), .nilIface]) ∧ Keeps nobody w w' := by
  have h9 : v.size ≤ 18 := by
    unfold lenB at h
    simp only [Bool.and_eq_true, decide_eq_true_eq] at h
    omega
  refine (Any.strconv_Atoi lays172 v _ h9 (atoi_digits v h) w).mono ?_
  rintro e w' ⟨rfl, t, rfl⟩
  exact ⟨rfl, keeps_bytes _ _ _⟩

/-- Texts that lie one behind the other. -/
def Strs (w : World) (a : Option Addr) (own : List ByteArray) : Prop :=
  own = [] ∨ ∃ b off, a = some ⟨b, off, none⟩ ∧ b < w.heap.size ∧ ∀ j, j < own.length → w.cell? ⟨b, off + j, none⟩ = some (.string (own.getD j ByteArray.empty))
theorem Strs.quiet {w w' : World} {a : Option Addr} {own : List ByteArray} (h : Strs w a own) (hk : Keeps nobody w w') : Strs w' a own := by
  rcases h with h | ⟨b, off, e, hb, hc⟩
  · exact .inl h
  · exact .inr ⟨b, off, e, Nat.lt_of_lt_of_le hb hk.size, fun j hj => (hk.cell (p := ⟨b, off + j, none⟩) hb id).trans (hc j hj)⟩
theorem contains_has (own : List ByteArray) (x : ByteArray) : Lib.containsS own x = hasB own x := by
  rw [Bool.eq_iff_iff, Lib.containsS_iff]
  unfold hasB
  simp
theorem contains_ok {w : World} {a : Option Addr} {own : List ByteArray} (c : Nat) (x : ByteArray) (h : Strs w a own) (hl : own.length ≤ 100) : Calls Tryd.prog 47 #[.slice a own.length c, .string x] w fun e w' => e = .returned (.bool (hasB own x)) ∧ w = w' := by
  rcases h with rfl | ⟨b, off, rfl, hb, hc⟩
  · exact (Any.slices_Contains_string_empty lays110 a c x w).mono fun _ _ h => ⟨h.1, h.2.symm⟩
  · refine (Any.slices_Contains_string lays110 b off own.length c own x w (Nat.le_refl _) (by omega) hc).mono fun _ _ h => ⟨?_, h.2.symm⟩
    rw [h.1, List.take_length, contains_has]

set_option maxRecDepth 100000 in
theorem places_ok (c : Nat) (w : World) (hc : c < 256) : Calls Tryd.prog 36 #[.int .u8 (c : Int)] w fun e w' => e = .returned (.int .i64 (plc c : Int)) ∧ w = w' := by
  obtain ⟨p, hp⟩ : ∃ p, p = plc c := ⟨_, rfl⟩
  rw [← hp]
  have HP : Hid (p = plc c) := hp
  clear hp
  by_cases h1 : 48 ≤ c
  · by_cases h2 : c ≤ 57
    · obtain rfl : p = 7 := by rw [HP.out]; unfold plc; rw [if_pos ⟨h1, h2⟩]
      clear HP
      go_enter Tryd.func36, Tryd.ntmps36
      go_wp2
      go_ret
      exact ⟨rfl, rfl⟩
    · by_cases h3 : 97 ≤ c
      · by_cases h4 : c ≤ 122
        · obtain rfl : p = 6 := by rw [HP.out]; unfold plc; rw [if_neg (by omega), if_pos (by omega)]
          clear HP
          go_enter Tryd.func36, Tryd.ntmps36
          go_wp2
          go_ret
          exact ⟨rfl, rfl⟩
        · by_cases h5 : c = 127
          · obtain rfl : p = 0 := by rw [HP.out]; unfold plc; rw [if_neg (by omega), if_neg (by omega), if_neg (by omega)]
            clear HP
            subst h5
            clear h1 h2 h3 h4 hc
            go_enter Tryd.func36, Tryd.ntmps36
            go_wp2
            go_ret
            exact ⟨rfl, rfl⟩
          · obtain rfl : p = 4 := by rw [HP.out]; unfold plc; rw [if_neg (by omega), if_neg (by omega), if_pos (by omega)]
            clear HP
            go_enter Tryd.func36, Tryd.ntmps36
            go_wp2
            go_ret
            exact ⟨rfl, rfl⟩
      · by_cases h5 : c = 95
        · obtain rfl : p = 6 := by rw [HP.out]; unfold plc; rw [if_neg (by omega), if_pos (by omega)]
          clear HP
          subst h5
          clear h1 h2 h3 hc
          go_enter Tryd.func36, Tryd.ntmps36
          go_wp2
          go_ret
          exact ⟨rfl, rfl⟩
        · obtain rfl : p = 4 := by rw [HP.out]; unfold plc; rw [if_neg (by omega), if_neg (by omega), if_pos (by omega)]
          clear HP
          go_enter Tryd.func36, Tryd.ntmps36
          go_wp2
          go_ret
          exact ⟨rfl, rfl⟩
  · by_cases h5 : c = 45
    · obtain rfl : p = 6 := by rw [HP.out]; unfold plc; rw [if_neg (by omega), if_pos (by omega)]
      clear HP
      subst h5
      clear h1 hc
      go_enter Tryd.func36, Tryd.ntmps36
      go_wp2
      go_ret
      exact ⟨rfl, rfl⟩
    · by_cases h6 : 32 ≤ c
      · obtain rfl : p = 4 := by rw [HP.out]; unfold plc; rw [if_neg (by omega), if_neg (by omega), if_pos (by omega)]
        clear HP
        go_enter Tryd.func36, Tryd.ntmps36
        go_wp2
        go_ret
        exact ⟨rfl, rfl⟩
      · obtain rfl : p = 0 := by rw [HP.out]; unfold plc; rw [if_neg (by omega), if_neg (by omega), if_neg (by omega)]
        clear HP
        go_enter Tryd.func36, Tryd.ntmps36
        go_wp2
        go_ret
        exact ⟨rfl, rfl⟩

theorem and_plc (p c : Nat) (hp : p = 1 ∨ p = 2 ∨ p = 4) : bits .and .i64 (plc c : Int) (p : Int) = if okP p c = true then (p : Int) else 0 := by
  unfold okP
  rcases plc_cases c with ⟨h, h1, h2, h3⟩ | ⟨h, h1, h2, h3⟩ | ⟨h, h1, h2, h3⟩ | ⟨h, h1, h2, h3⟩ <;> rcases hp with rfl | rfl | rfl <;> rw [h] <;> simp [h1, h2, h3] <;> decide
attribute [local irreducible] plc okP
set_option maxRecDepth 100000 in
theorem all_ok (s : ByteArray) (p : Nat) (w : World) (hp : p = 1 ∨ p = 2 ∨ p = 4) (hs : s.size ≤ 1000000000) : Calls Tryd.prog 28 #[.string s, .int .i64 (p : Int)] w fun e w' => e = .returned (.bool (allB (okP p) s)) ∧ w = w' := by
  unfold allB
  generalize hA : (nums s).all (okP p) = A
  have HA : Hid (((nums s).drop 0).all (okP p) = A) := hA
  have HP := hid hp
  clear hA hp
  go_enter Tryd.func28, Tryd.ntmps28
  go_wp2
  go_loopg [8] s.size (fun k i wr => ∃ j : Nat, i = .int .i64 j ∧ k + j = s.size ∧ wr = w ∧ ((nums s).drop j).all (okP p) = A)
  case atStart => exact ⟨0, rfl, rfl, rfl, HA.out⟩
  case round =>
    obtain ⟨j, rfl, hk, rfl, hd⟩ := hrel
    by_cases hj : j < s.size
    · rw [nums_drop s j hj, List.all_cons] at hd
      have hix := index_at s j hj
      have hbj : (s[j]'hj).toNat < 256 := UInt8.toNat_lt _
      generalize (s[j]'hj).toNat = y at *
      have HC : Hid (∀ w, Calls Tryd.prog 36 #[.int .u8 (y : Int)] w fun e w' => e = .returned (.int .i64 (plc y : Int)) ∧ w = w') := fun w => places_ok y w hbj
      have hand := and_plc p y HP.out
      have HD : Hid (gk + j = s.size ∧ (okP p y && (((nums s).drop (j + 1)).all (okP p))) = A) := ⟨hk, hd⟩
      clear hd hk
      generalize plc y = q at *
      by_cases ho : okP p y = true
      · rw [if_pos ho] at hand
        have hp0 : (p : Int) ≠ 0 := by have := HP.out; omega
        have HO := hid ho
        clear ho
        go_wp2_with (go_at_call 36; refine Calls.mono (HC.out _) ?_; rintro e w1 ⟨rfl, rfl⟩)
        obtain ⟨hk, hd⟩ := HD.out
        rw [HO.out, Bool.true_and] at hd
        go_roundg (gk - 1)
        case measure => omega
        case rel => exact ⟨j + 1, by simp, by omega, rfl, hd⟩
      · rw [if_neg ho] at hand
        have HO := hid ho
        clear ho
        go_wp2_with (go_at_call 36; refine Calls.mono (HC.out _) ?_; rintro e w1 ⟨rfl, rfl⟩)
        go_ret
        obtain ⟨hk, hd⟩ := HD.out
        refine ⟨?_, rfl⟩
        have ho := HO.out
        simp only [Bool.not_eq_true] at ho
        rw [← hd, ho]
        rfl
    · rw [nums_none s j hj] at hd
      have HD := hid hd
      clear hd
      go_wp2
      go_ret
      exact ⟨by rw [← HD.out]; rfl, rfl⟩
end Go.Proofs.YtladdbppkepphaaDoor
