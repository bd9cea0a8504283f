/-
  The document's own Put (NumberPut): the same answers.
-/
import Derived.Test.YtgmhbkmmcboadaaStrs
namespace Go.Proofs.Ytgmhbkmmcboadaa
open Go.RowKit

theorem conv_one (y : Nat) (w : World) : (convert 32 9 (.slice (some ⟨w.heap.size, 0, none⟩) 1 1)).run Try.prog (w.alloc (.cells #[.int .u8 (y : Int)] 5)) = .ok (.string (str [y])) (w.alloc (.cells #[.int .u8 (y : Int)] 5)) :=
  conv_own (w.alloc (.cells #[.int .u8 (y : Int)] 5)) w.heap.size (.slice (some ⟨w.heap.size, 0, none⟩) 1 1) _ [y] _ (ownsRow_one w _ (Nat.le_refl _) y) rfl
theorem str_join' (l m : List Nat) : str l ++ str m = str (l ++ m) := by
  apply ByteArray.ext
  simp [str_data]

set_option maxRecDepth 100000 in
theorem refput_short (f n : Nat) (x : Int) (w : World) (h1 : 1 ≤ x) (h2 : x ≤ 8) (hf : f < 256) (hf0 : f % (full x + 1) = 0) (hlt : n < full x) :
    Calls Try.prog 11 #[.int .u8 (f : Int), .int .i64 x, .int .i64 (n : Int)] w fun e w' => e = .returned (.tuple #[.string (str (putN f (full x) n)), .bool true]) ∧ Below w.heap.size w w' := by
  obtain ⟨hM1, hM2⟩ := full_bounds x h1 h2
  have hpow := full_pow x h1 h2
  have hand : bits .and .i64 (f : Int) (full x : Int) = 0 := by rw [i64_and_nat _ _ (by omega) (by omega), and_full, hf0]; rfl
  have hor : bits .or .u8 (f : Int) (n : Int) = ((f + n : Nat) : Int) := or_byte x f n h1 h2 hf hf0 (by omega)
  have hput : putN f (full x) n = [f + n] := by rw [putN, if_pos hlt]
  rw [hput]
  have hconv := conv_one (f + n)
  clear hput hf0
  generalize full x = m at *
  generalize f + n = y at *
  go_enter Try.func11, Try.ntmps11
  go_wp2
  go_ret2
  exact ⟨rfl, (Below.refl _ _).alloc (Nat.le_refl _) _⟩

set_option maxRecDepth 100000 in
set_option maxHeartbeats 2000000 in
theorem refput_long (f n : Nat) (x : Int) (w : World) (h1 : 1 ≤ x) (h2 : x ≤ 8) (hf : f < 256) (hf0 : f % (full x + 1) = 0) (hn : n ≤ 2147483647) (hge : ¬ n < full x) :
    Calls Try.prog 11 #[.int .u8 (f : Int), .int .i64 x, .int .i64 (n : Int)] w fun e w' => e = .returned (.tuple #[.string (str (putN f (full x) n)), .bool true]) ∧ Below w.heap.size w w' := by
  obtain ⟨hM1, hM2⟩ := full_bounds x h1 h2
  have hpow := full_pow x h1 h2
  have hand : bits .and .i64 (f : Int) (full x : Int) = 0 := by rw [i64_and_nat _ _ (by omega) (by omega), and_full, hf0]; rfl
  have hfm := sum_byte x f (full x) h1 h2 hf hf0 (Nat.le_refl _)
  have hor : bits .or .u8 (f : Int) (full x : Int) = ((f + full x : Nat) : Int) := or_byte x f (full x) h1 h2 hf hf0 (Nat.le_refl _)
  have hput : putN f (full x) n = (f + full x) :: tail7 (n - full x) := by rw [putN, if_neg hge]
  rw [hput]
  have h5 := length_tail (n - full x) (by omega)
  have hrb : n - full x ≤ 2147483647 := by omega
  have hconv := conv_one (f + full x)
  clear hput hf0
  generalize full x = m at *
  have hsub : ((n : Int) - (m : Int)) = ((n - m : Nat) : Int) := by omega
  generalize n - m = r at *
  generalize f + m = y at *
  go_enter Try.func11, Try.ntmps11
  go_wp2
  clear hand hor hsub hconv hpow
  have hB0 : Below w.heap.size w (w.alloc (.cells #[.int .u8 (y : Int)] 5)) := (Below.refl _ _).alloc (Nat.le_refl _) _
  go_loopg [2, 9] r (fun k v s wr => ∃ (rr : Nat) (done : List Nat), v = .int .i64 (rr : Int) ∧ k = rr ∧ rr ≤ 2147483647 ∧ s = .string (str done) ∧ Below w.heap.size w wr ∧ done ++ tail7 rr = y :: tail7 r)
  case atStart => exact ⟨r, [y], rfl, rfl, hrb, rfl, hB0, rfl⟩
  case round =>
    obtain ⟨rr, done, rfl, hk, hrr, rfl, hB, hd⟩ := hrel
    have hlen : done.length + (tail7 rr).length ≤ 6 := by
      have := congrArg List.length hd
      simp only [List.length_append, List.length_cons] at this
      omega
    have hsz := str_size done
    have hws := hB.size
    have HD : Hid (done ++ tail7 rr = y :: tail7 r ∧ gk = rr) := ⟨hd, hk⟩
    clear hd hk
    by_cases hlt : rr < 128
    · have hconv := conv_one rr
      have hj := str_join' done [rr]
      obtain ⟨hd, hk⟩ := HD.out
      rw [tail7_low rr hlt] at hd
      rw [hd] at hj
      have hs1 : (str [rr]).size = 1 := str_size _
      clear hd hk HD
      go_wp2
      go_ret2
      exact ⟨rfl, hB.alloc hws _⟩
    · have hand2 : bits .and .i64 (rr : Int) 127 = (rr : Int) % 128 := by
        have := i64_and_nat rr 127 (by omega) (by omega)
        rw [nat_mask7] at this
        simpa using this
      have hor : bits .or .i64 128 ((rr : Int) % 128) = ((128 + rr % 128 : Nat) : Int) := by
        have := i64_or_nat 128 (rr % 128) (by omega) (by omega)
        rw [nat_join 7 128 (rr % 128) (by decide) (by omega)] at this
        simpa using this
      obtain ⟨hd, hk⟩ := HD.out
      rw [tail7_high rr hlt] at hd
      have HN : Hid (done ++ [128 + rr % 128] ++ tail7 (rr / 128) = y :: tail7 r ∧ gk = rr) := ⟨by rw [← hd]; simp, hk⟩
      clear hd hk HD
      have hj := str_join' done [128 + rr % 128]
      have hconv := conv_one (128 + rr % 128)
      have hs1 : (str [128 + rr % 128]).size = 1 := str_size _
      have hlt2 : 128 + rr % 128 < 256 := by omega
      generalize 128 + rr % 128 = z at *
      go_wp2
      obtain ⟨hd, hk⟩ := HN.out
      go_roundg (rr / 128)
      case measure => omega
      case rel => exact ⟨rr / 128, done ++ [z], by simp, rfl, by omega, rfl, hB.alloc hws _, hd⟩

theorem refput_first (f n : Nat) (x : Int) (w : World) (h1 : 1 ≤ x) (h2 : x ≤ 8) (hf : f < 256) (hf0 : f % (full x + 1) ≠ 0) (hn : n ≤ 2147483647) :
    Calls Try.prog 11 #[.int .u8 (f : Int), .int .i64 x, .int .i64 (n : Int)] w fun e w' => e = .returned (.tuple #[.string ⟨#[]⟩, .bool false]) ∧ w = w' := by
  obtain ⟨hM1, hM2⟩ := full_bounds x h1 h2
  have hpow := full_pow x h1 h2
  have hand : bits .and .i64 (f : Int) (full x : Int) = ((f % (full x + 1) : Nat) : Int) := by rw [i64_and_nat _ _ (by omega) (by omega), and_full]
  generalize f % (full x + 1) = p at *
  have hp0 : ((p : Int) != 0) = true := by simpa using hf0
  generalize full x = m at *
  go_enter Try.func11, Try.ntmps11
  go_wp2
  go_ret2
  exact ⟨rfl, rfl⟩

theorem refput_bad (f n x : Int) (w : World) (h : ¬ (1 ≤ x ∧ x ≤ 8 ∧ 0 ≤ n ∧ n ≤ 2147483647)) :
    Calls Try.prog 11 #[.int .u8 f, .int .i64 x, .int .i64 n] w fun e w' => e = .returned (.tuple #[.string ⟨#[]⟩, .bool false]) ∧ w = w' := by
  by_cases h1 : x < 1
  · clear h
    go_enter Try.func11, Try.ntmps11
    go_wp2
    go_ret2
    exact ⟨rfl, rfl⟩
  · by_cases h2 : 8 < x
    · clear h
      go_enter Try.func11, Try.ntmps11
      go_wp2
      go_ret2
      exact ⟨rfl, rfl⟩
    · by_cases h3 : n < 0
      · clear h
        go_enter Try.func11, Try.ntmps11
        go_wp2
        go_ret2
        exact ⟨rfl, rfl⟩
      · have h4 : 2147483647 < n := by omega
        clear h
        go_enter Try.func11, Try.ntmps11
        go_wp2
        go_ret2
        exact ⟨rfl, rfl⟩

theorem refput_ok (f x n : Int) (w : World) (hf0 : 0 ≤ f) (hf : f < 256) :
    Calls Try.prog 11 #[.int .u8 f, .int .i64 x, .int .i64 n] w fun e w' => e = .returned (.tuple #[.string (putAll f x n), .bool (decide (putIs f x n))]) ∧ Below w.heap.size w w' := by
  by_cases hr : 1 ≤ x ∧ x ≤ 8 ∧ 0 ≤ n ∧ n ≤ 2147483647
  · obtain ⟨h1, h2, h3, h4⟩ := hr
    obtain ⟨F, rfl⟩ := Int.eq_ofNat_of_zero_le hf0
    obtain ⟨N, rfl⟩ := Int.eq_ofNat_of_zero_le h3
    by_cases hm : F % (full x + 1) = 0
    · have hp : putIs F x N := ⟨h1, h2, h3, h4, by simpa using hm⟩
      simp only [putAll, if_pos hp, decide_eq_true hp, Int.toNat_natCast]
      by_cases hlt : N < full x
      · exact refput_short F N x w h1 h2 (by omega) hm hlt
      · exact refput_long F N x w h1 h2 (by omega) hm (by omega) hlt
    · have hp : ¬ putIs F x N := fun hp => hm (by simpa using hp.2.2.2.2)
      simp only [putAll, if_neg hp, decide_eq_false hp]
      exact (refput_first F N x w h1 h2 (by omega) hm (by omega)).mono fun e w' ⟨he, hw⟩ => ⟨he, hw ▸ Below.refl _ _⟩
  · have hp : ¬ putIs f x n := fun hp => hr ⟨hp.1, hp.2.1, hp.2.2.1, hp.2.2.2.1⟩
    simp only [putAll, if_neg hp, decide_eq_false hp]
    exact (refput_bad f n x w hr).mono fun e w' ⟨he, hw⟩ => ⟨he, hw ▸ Below.refl _ _⟩
end Go.Proofs.Ytgmhbkmmcboadaa
