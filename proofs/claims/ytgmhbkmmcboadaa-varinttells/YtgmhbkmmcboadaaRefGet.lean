/-
  The document's own Get (NumberGet): the same answers.
-/
import Derived.Test.YtgmhbkmmcboadaaGet
namespace Go.Proofs.Ytgmhbkmmcboadaa
open Go.RowKit

set_option maxRecDepth 100000 in
set_option maxHeartbeats 2000000 in
theorem refget_loop (b : ByteArray) (x : Int) (w : World) (h1 : 1 ≤ x) (h2 : x ≤ 8) (hb : b.toList.isEmpty = false) (hs : 0 < b.size) (hmax : b.size ≤ maxLen) (hx : b[0].toNat % (full x + 1) = full x) : Calls Try.prog 13 #[.string b, .int .i64 x] w fun e w' => e = .returned (got (getN x (nums b))) ∧ w = w' := by
  unfold maxLen at hmax
  obtain ⟨hM1, hM2⟩ := full_bounds x h1 h2
  have hpow := full_pow x h1 h2
  have hb0 : b[0].toNat < 256 := UInt8.toNat_lt _
  have hand : bits .and .i64 (b[0].toNat : Int) (full x : Int) = (full x : Int) := by rw [i64_and_nat _ _ (by omega) (by omega), and_full, hx]
  have hg0 : getN x (nums b) = scan (full x) 1 ((nums b).drop 1) := by
    have := nums_drop b 0 hs
    rw [List.drop_zero] at this
    rw [this]
    simp only [getN, hx]
    rw [if_neg (by omega)]
    rfl
  rw [hg0]
  generalize hg : scan (full x) 1 ((nums b).drop 1) = g
  have HG : Hid (scan (full x) 1 ((nums b).drop 1) = g) := hg
  clear hg hg0 hx
  have hix0 : ∀ w, (Instr.index 9 (.string b) (.int .i64 0)).run Try.prog w = .ok (.int .u8 ((b[0]'hs).toNat : Int)) w := index_at b 0 hs
  generalize full x = m at *
  generalize b[0].toNat = y0 at *
  go_enter Try.func13, Try.ntmps13
  go_wp2
  clear hand hix0 hb0 hM1 hpow
  go_loopg [8, 9] b.size (fun k n i wr => ∃ acc j : Nat, n = .int .i64 acc ∧ i = .int .i64 j ∧ k + j = b.size + 1 ∧ wr = w ∧ 1 ≤ j ∧ j ≤ 5 ∧ j ≤ b.size ∧ acc ≤ 2147483647 ∧ scan acc j ((nums b).drop j) = g)
  case atStart => exact ⟨m, 1, rfl, rfl, rfl, rfl, by omega, by omega, by omega, by omega, HG.out⟩
  case round =>
    obtain ⟨acc, j, rfl, rfl, hk, rfl, hj1, hj5, hjs, hacc, hsc⟩ := hrel
    by_cases hlt : j < b.size
    · rw [nums_drop b j hlt] at hsc
      have HS : Hid (scan acc j ((b[j]'hlt).toNat :: (nums b).drop (j + 1)) = g ∧ gk + j = b.size + 1) := ⟨hsc, hk⟩
      clear hsc hk HG
      have hix := index_at b j hlt
      have hbj : (b[j]'hlt).toNat < 256 := UInt8.toNat_lt _
      have hand : bits .and .u8 ((b[j]'hlt).toNat : Int) 127 = ((b[j]'hlt).toNat : Int) % 128 := by
        have := u8_and_nat (b[j]'hlt).toNat 127 hbj (by decide)
        rw [nat_mask7] at this
        simpa using this
      generalize (b[j]'hlt).toNat = y at *
      rcases (by omega : j = 1 ∨ j = 2 ∨ j = 3 ∨ j = 4 ∨ j = 5) with rfl | rfl | rfl | rfl | rfl
      · push_cast at hix
        have hqb : y % 128 * 1 ≤ 127 := by omega
        have hq : (y : Int) % 128 = ((y % 128 * 1 : Nat) : Int) := by simp
        have HQ : Hid (∀ q, y % 128 * 1 = q → (2147483647 < acc + q → g = (0, 0, 4)) ∧ (¬ 2147483647 < acc + q → y < 128 → g = (((acc + q : Nat) : Int), ((1 + 1 : Nat) : Int), 0)) ∧ (¬ 2147483647 < acc + q → ¬ y < 128 → scan (acc + q) 2 ((nums b).drop 2) = g)) := by
          rintro q rfl
          exact ⟨fun hr => HS.out.1.symm.trans (scan_range acc 1 y 1 _ (by decide) (.inl hr)), fun hr hy => HS.out.1.symm.trans (scan_last acc 1 y 1 _ (by decide) hr hy),
            fun hr hy => (scan_on acc 1 y 1 _ (by decide) hr (by omega) hy).symm.trans HS.out.1⟩
        generalize hqn : y % 128 * 1 = q at hqb hq
        obtain ⟨g1, g2, g3⟩ := HQ.out q hqn
        have hk := HS.out.2
        clear hqn HQ HS
        by_cases hr : 2147483647 < acc + q
        · obtain rfl := g1 hr
          clear g1 g2 g3 hk
          as_aux_lemma =>
            go_wp2
            go_ret3
            exact ⟨rfl, rfl⟩
        · by_cases hy : y < 128
          · obtain rfl := g2 hr hy
            clear g1 g2 g3 hk
            as_aux_lemma =>
              go_wp2
              go_ret3
              exact ⟨by simp [got], rfl⟩
          · have HN : Hid (scan (acc + q) 2 ((nums b).drop 2) = g ∧ gk + 1 = b.size + 1) := ⟨g3 hr hy, hk⟩
            clear g1 g2 g3 hk
            as_aux_lemma =>
              go_wp2
              obtain ⟨hn, hk⟩ := HN.out
              go_roundg (gk - 1)
              case measure => omega
              case rel => exact ⟨acc + q, 2, by simp, by simp, by omega, rfl, by omega, by omega, by omega, by omega, hn⟩
      · push_cast at hix
        have hqb : y % 128 * 128 ≤ 16256 := by omega
        have hq : (y : Int) % 128 * 128 = ((y % 128 * 128 : Nat) : Int) := by simp
        have HQ : Hid (∀ q, y % 128 * 128 = q → (2147483647 < acc + q → g = (0, 0, 4)) ∧ (¬ 2147483647 < acc + q → y < 128 → g = (((acc + q : Nat) : Int), ((2 + 1 : Nat) : Int), 0)) ∧ (¬ 2147483647 < acc + q → ¬ y < 128 → scan (acc + q) 3 ((nums b).drop 3) = g)) := by
          rintro q rfl
          exact ⟨fun hr => HS.out.1.symm.trans (scan_range acc 2 y 128 _ (by decide) (.inl hr)), fun hr hy => HS.out.1.symm.trans (scan_last acc 2 y 128 _ (by decide) hr hy),
            fun hr hy => (scan_on acc 2 y 128 _ (by decide) hr (by omega) hy).symm.trans HS.out.1⟩
        generalize hqn : y % 128 * 128 = q at hqb hq
        obtain ⟨g1, g2, g3⟩ := HQ.out q hqn
        have hk := HS.out.2
        clear hqn HQ HS
        by_cases hr : 2147483647 < acc + q
        · obtain rfl := g1 hr
          clear g1 g2 g3 hk
          as_aux_lemma =>
            go_wp2
            go_ret3
            exact ⟨rfl, rfl⟩
        · by_cases hy : y < 128
          · obtain rfl := g2 hr hy
            clear g1 g2 g3 hk
            as_aux_lemma =>
              go_wp2
              go_ret3
              exact ⟨by simp [got], rfl⟩
          · have HN : Hid (scan (acc + q) 3 ((nums b).drop 3) = g ∧ gk + 2 = b.size + 1) := ⟨g3 hr hy, hk⟩
            clear g1 g2 g3 hk
            as_aux_lemma =>
              go_wp2
              obtain ⟨hn, hk⟩ := HN.out
              go_roundg (gk - 1)
              case measure => omega
              case rel => exact ⟨acc + q, 3, by simp, by simp, by omega, rfl, by omega, by omega, by omega, by omega, hn⟩
      · push_cast at hix
        have hqb : y % 128 * 16384 ≤ 2080768 := by omega
        have hq : (y : Int) % 128 * 16384 = ((y % 128 * 16384 : Nat) : Int) := by simp
        have HQ : Hid (∀ q, y % 128 * 16384 = q → (2147483647 < acc + q → g = (0, 0, 4)) ∧ (¬ 2147483647 < acc + q → y < 128 → g = (((acc + q : Nat) : Int), ((3 + 1 : Nat) : Int), 0)) ∧ (¬ 2147483647 < acc + q → ¬ y < 128 → scan (acc + q) 4 ((nums b).drop 4) = g)) := by
          rintro q rfl
          exact ⟨fun hr => HS.out.1.symm.trans (scan_range acc 3 y 16384 _ (by decide) (.inl hr)), fun hr hy => HS.out.1.symm.trans (scan_last acc 3 y 16384 _ (by decide) hr hy),
            fun hr hy => (scan_on acc 3 y 16384 _ (by decide) hr (by omega) hy).symm.trans HS.out.1⟩
        generalize hqn : y % 128 * 16384 = q at hqb hq
        obtain ⟨g1, g2, g3⟩ := HQ.out q hqn
        have hk := HS.out.2
        clear hqn HQ HS
        by_cases hr : 2147483647 < acc + q
        · obtain rfl := g1 hr
          clear g1 g2 g3 hk
          as_aux_lemma =>
            go_wp2
            go_ret3
            exact ⟨rfl, rfl⟩
        · by_cases hy : y < 128
          · obtain rfl := g2 hr hy
            clear g1 g2 g3 hk
            as_aux_lemma =>
              go_wp2
              go_ret3
              exact ⟨by simp [got], rfl⟩
          · have HN : Hid (scan (acc + q) 4 ((nums b).drop 4) = g ∧ gk + 3 = b.size + 1) := ⟨g3 hr hy, hk⟩
            clear g1 g2 g3 hk
            as_aux_lemma =>
              go_wp2
              obtain ⟨hn, hk⟩ := HN.out
              go_roundg (gk - 1)
              case measure => omega
              case rel => exact ⟨acc + q, 4, by simp, by simp, by omega, rfl, by omega, by omega, by omega, by omega, hn⟩
      · push_cast at hix
        have hqb : y % 128 * 2097152 ≤ 266338304 := by omega
        have hq : (y : Int) % 128 * 2097152 = ((y % 128 * 2097152 : Nat) : Int) := by simp
        have HQ : Hid (∀ q, y % 128 * 2097152 = q → (2147483647 < acc + q → g = (0, 0, 4)) ∧ (¬ 2147483647 < acc + q → y < 128 → g = (((acc + q : Nat) : Int), ((4 + 1 : Nat) : Int), 0)) ∧ (¬ 2147483647 < acc + q → ¬ y < 128 → scan (acc + q) 5 ((nums b).drop 5) = g)) := by
          rintro q rfl
          exact ⟨fun hr => HS.out.1.symm.trans (scan_range acc 4 y 2097152 _ (by decide) (.inl hr)), fun hr hy => HS.out.1.symm.trans (scan_last acc 4 y 2097152 _ (by decide) hr hy),
            fun hr hy => (scan_on acc 4 y 2097152 _ (by decide) hr (by omega) hy).symm.trans HS.out.1⟩
        generalize hqn : y % 128 * 2097152 = q at hqb hq
        obtain ⟨g1, g2, g3⟩ := HQ.out q hqn
        have hk := HS.out.2
        clear hqn HQ HS
        by_cases hr : 2147483647 < acc + q
        · obtain rfl := g1 hr
          clear g1 g2 g3 hk
          as_aux_lemma =>
            go_wp2
            go_ret3
            exact ⟨rfl, rfl⟩
        · by_cases hy : y < 128
          · obtain rfl := g2 hr hy
            clear g1 g2 g3 hk
            as_aux_lemma =>
              go_wp2
              go_ret3
              exact ⟨by simp [got], rfl⟩
          · have HN : Hid (scan (acc + q) 5 ((nums b).drop 5) = g ∧ gk + 4 = b.size + 1) := ⟨g3 hr hy, hk⟩
            clear g1 g2 g3 hk
            as_aux_lemma =>
              go_wp2
              obtain ⟨hn, hk⟩ := HN.out
              go_roundg (gk - 1)
              case measure => omega
              case rel => exact ⟨acc + q, 5, by simp, by simp, by omega, rfl, by omega, by omega, by omega, by omega, hn⟩
      · push_cast at hix
        have hqb : y % 128 * 268435456 ≤ 34091302912 := by omega
        have hq : (y : Int) % 128 * 268435456 = ((y % 128 * 268435456 : Nat) : Int) := by simp
        have HQ : Hid (∀ q, y % 128 * 268435456 = q → (2147483647 < acc + q → g = (0, 0, 4)) ∧ (¬ 2147483647 < acc + q → y < 128 → g = (((acc + q : Nat) : Int), ((5 + 1 : Nat) : Int), 0)) ∧ (¬ y < 128 → g = (0, 0, 4))) := by
          rintro q rfl
          exact ⟨fun hr => HS.out.1.symm.trans (scan_range acc 5 y 268435456 _ (by decide) (.inl hr)), fun hr hy => HS.out.1.symm.trans (scan_last acc 5 y 268435456 _ (by decide) hr hy),
            fun hy => HS.out.1.symm.trans (scan_range acc 5 y 268435456 _ (by decide) (.inr ⟨rfl, by omega⟩))⟩
        generalize hqn : y % 128 * 268435456 = q at hqb hq
        obtain ⟨g1, g2, g3⟩ := HQ.out q hqn
        have hk := HS.out.2
        clear hqn HQ HS
        by_cases hr : 2147483647 < acc + q
        · obtain rfl := g1 hr
          clear g1 g2 g3 hk
          as_aux_lemma =>
            go_wp2
            go_ret3
            exact ⟨rfl, rfl⟩
        · by_cases hy : y < 128
          · obtain rfl := g2 hr hy
            clear g1 g2 g3 hk
            as_aux_lemma =>
              go_wp2
              go_ret3
              exact ⟨by simp [got], rfl⟩
          · obtain rfl := g3 hy
            clear g1 g2 g3 hk
            as_aux_lemma =>
              go_wp2
              go_ret3
              exact ⟨rfl, rfl⟩
    · have hd : (nums b).drop j = [] := List.drop_eq_nil_of_le (by rw [nums_length]; omega)
      rw [hd] at hsc
      obtain rfl : g = (0, 0, 2) := hsc.symm
      clear hsc HG hd hk
      go_wp2
      go_ret3
      exact ⟨rfl, rfl⟩

theorem refget_first (b : ByteArray) (x : Int) (w : World) (h1 : 1 ≤ x) (h2 : x ≤ 8) (hb : b.toList.isEmpty = false) (hs : 0 < b.size) (hx : b[0].toNat % (full x + 1) < full x) : Calls Try.prog 13 #[.string b, .int .i64 x] w fun e w' => e = .returned (got (getN x (nums b))) ∧ w = w' := by
  obtain ⟨hM1, hM2⟩ := full_bounds x h1 h2
  have hpow := full_pow x h1 h2
  have hb0 : b[0].toNat < 256 := UInt8.toNat_lt _
  have hand : bits .and .i64 (b[0].toNat : Int) (full x : Int) = ((b[0].toNat % (full x + 1) : Nat) : Int) := by rw [i64_and_nat _ _ (by omega) (by omega), and_full]
  have hg0 : getN x (nums b) = (((b[0].toNat % (full x + 1) : Nat) : Int), 1, 0) := by
    have := nums_drop b 0 hs
    rw [List.drop_zero] at this
    rw [this]
    simp only [getN]
    rw [if_pos hx]
  rw [hg0]
  have hix0 : ∀ w, (Instr.index 9 (.string b) (.int .i64 0)).run Try.prog w = .ok (.int .u8 ((b[0]'hs).toNat : Int)) w := index_at b 0 hs
  clear hg0
  generalize full x = m at *
  generalize b[0].toNat = y0 at *
  generalize y0 % (m + 1) = p at *
  go_enter Try.func13, Try.ntmps13
  go_wp2
  go_ret3
  exact ⟨rfl, rfl⟩

theorem refget_empty (x : Int) (w : World) (h1 : 1 ≤ x) (h2 : x ≤ 8) : Calls Try.prog 13 #[.string ⟨#[]⟩, .int .i64 x] w fun e w' => e = .returned (got (0, 0, 2)) ∧ w = w' := by
  go_enter Try.func13, Try.ntmps13
  go_wp2
  go_ret3
  exact ⟨rfl, rfl⟩

theorem refget_bad (b : ByteArray) (x : Int) (w : World) (h : ¬ (1 ≤ x ∧ x ≤ 8)) : Calls Try.prog 13 #[.string b, .int .i64 x] w fun e w' => e = .returned (got (0, 0, 1)) ∧ w = w' := by
  by_cases h1 : x < 1
  · clear h
    go_enter Try.func13, Try.ntmps13
    go_wp2
    go_ret3
    exact ⟨rfl, rfl⟩
  · have h2 : 8 < x := by omega
    clear h
    go_enter Try.func13, Try.ntmps13
    go_wp2
    go_ret3
    exact ⟨rfl, rfl⟩

theorem refget_ok (b : ByteArray) (x : Int) (w : World) (hmax : b.size ≤ maxLen) : Calls Try.prog 13 #[.string b, .int .i64 x] w fun e w' => e = .returned (got (getAll b x)) ∧ w = w' := by
  unfold getAll
  split
  · rename_i h
    by_cases hs : 0 < b.size
    · have hb := isEmpty_of_size b hs
      have := Nat.mod_lt b[0].toNat (show full x + 1 > 0 by omega)
      by_cases hx : b[0].toNat % (full x + 1) < full x
      · exact refget_first b x w h.1 h.2 hb hs hx
      · exact refget_loop b x w h.1 h.2 hb hs hmax (by omega)
    · rw [eq_empty_of_size b hs]
      exact refget_empty x w h.1 h.2
  · rename_i h
    exact refget_bad b x w h
end Go.Proofs.Ytgmhbkmmcboadaa
