/-
  The law VarintLong as a walk.
-/
import Derived.Test.YtgmhbkmmcboadaaStrs
namespace Go.Proofs.Ytgmhbkmmcboadaa
open Go.RowKit

theorem scan_rep (k : Nat) : ∀ (acc i : Nat) (rest : List Nat), acc ≤ 2147483647 → 1 ≤ i → i + k ≤ 5 → scan acc i (List.replicate k 128 ++ rest) = scan acc (i + k) rest := by
  induction k with
  | zero => intro acc i rest _ _ _; rfl
  | succ k ih =>
    intro acc i rest h h1 h5
    have e : scan acc i (128 :: (List.replicate k 128 ++ rest)) = scan acc (i + 1) (List.replicate k 128 ++ rest) := by
      simp only [scan]
      rw [if_neg (by simp; omega), if_neg (by omega)]
      simp
    rw [List.replicate_succ, List.cons_append, e, ih acc (i + 1) rest h (by omega) (by omega)]
    congr 1
    omega
theorem scan_far (k : Nat) (acc i : Nat) (rest : List Nat) (h : acc ≤ 2147483647) (h1 : 1 ≤ i) (h5 : i ≤ 5) (hk : 6 ≤ i + k) : scan acc i (List.replicate k 128 ++ rest) = (0, 0, 4) := by
  have e : List.replicate k 128 ++ rest = List.replicate (5 - i) 128 ++ (128 :: (List.replicate (k - (5 - i) - 1) 128 ++ rest)) := by
    have : k = (5 - i) + (1 + (k - (5 - i) - 1)) := by omega
    rw [show List.replicate k 128 = List.replicate ((5 - i) + (1 + (k - (5 - i) - 1))) 128 from by rw [← this], ← List.replicate_append_replicate, ← List.replicate_append_replicate]
    simp
  rw [e, scan_rep (5 - i) acc i _ h h1 (by omega)]
  have : i + (5 - i) = 5 := by omega
  rw [this]
  simp [scan]

theorem str_push (l : List Nat) : str l ++ ⟨#[128]⟩ = str (l ++ [128]) := by
  apply ByteArray.ext
  simp [str_data]
theorem str_join (l m : List Nat) : str l ++ str m = str (l ++ m) := by
  apply ByteArray.ext
  simp [str_data]

/-- What stands in the law. -/
def longL (x : Int) (k : Nat) : List Nat := full x :: List.replicate k 128
theorem longL_byte (x : Int) (h1 : 1 ≤ x) (h2 : x ≤ 8) (k : Nat) : ∀ y ∈ longL x k, y < 256 := by
  have := full_bounds x h1 h2
  intro y hy
  rcases List.mem_cons.1 hy with rfl | hy
  · omega
  · have := List.eq_of_mem_replicate hy
    omega
theorem get_longL (x : Int) (h1 : 1 ≤ x) (h2 : x ≤ 8) (k : Nat) (more : List Nat) : getN x (longL x k ++ more) = if 5 ≤ k then (0, 0, 4) else scan (full x) (1 + k) more := by
  have hM := full_bounds x h1 h2
  have hmod : full x % (full x + 1) = full x := Nat.mod_eq_of_lt (by omega)
  simp only [longL, List.cons_append, getN, hmod]
  rw [if_neg (by omega)]
  split
  · rw [scan_far k _ 1 more (by omega) (by omega) (by omega) (by omega)]
  · rw [scan_rep k _ 1 more (by omega) (by omega) (by omega)]

theorem long_no (x n l : Int) (w : World) (h : x < 1 ∨ 8 < x ∨ n < 0 ∨ 20 < n) : Calls Try.prog 7 #[.int .i64 x, .int .i64 n, .int .u8 l] w (Fine w) := by
  have hA : Hid (∀ w, Calls Try.prog 9 #[] w fun e w' => e = .returned (.bool true) ∧ Below w.heap.size w w') := alive_true
  by_cases h1 : x < 1
  · clear h
    go_enter Try.func7, Try.ntmps7
    go_wp2_with fail
    refine (hA.out _).mono ?_
    rintro e w3 ⟨rfl, hB3⟩
    go_wp2_with fail
    go_ret
    exact ⟨rfl, hB3⟩
  · by_cases h2 : 8 < x
    · clear h
      go_enter Try.func7, Try.ntmps7
      go_wp2_with fail
      refine (hA.out _).mono ?_
      rintro e w3 ⟨rfl, hB3⟩
      go_wp2_with fail
      go_ret
      exact ⟨rfl, hB3⟩
    · by_cases h3 : n < 0
      · clear h
        go_enter Try.func7, Try.ntmps7
        go_wp2_with fail
        refine (hA.out _).mono ?_
        rintro e w3 ⟨rfl, hB3⟩
        go_wp2_with fail
        go_ret
        exact ⟨rfl, hB3⟩
      · have h4 : 20 < n := by omega
        clear h
        go_enter Try.func7, Try.ntmps7
        go_wp2_with fail
        refine (hA.out _).mono ?_
        rintro e w3 ⟨rfl, hB3⟩
        go_wp2_with fail
        go_ret
        exact ⟨rfl, hB3⟩

/-- What the two readings answer: their last number. -/
theorem long_cases (x : Int) (h1 : 1 ≤ x) (h2 : x ≤ 8) (n l : Nat) (hl : l < 256) :
    (5 ≤ n ∧ getAll (str (longL x n)) x = (0, 0, 4) ∧ getAll (str (longL x n) ++ str [l]) x = (0, 0, 4)) ∨
    (n < 5 ∧ 128 ≤ l ∧ getAll (str (longL x n)) x = (0, 0, 2)) ∨
    (n < 5 ∧ l < 128 ∧ getAll (str (longL x n)) x = (0, 0, 2) ∧ (getAll (str (longL x n) ++ str [l]) x).2.2 = 0) ∨
    (n = 4 ∧ l < 128 ∧ getAll (str (longL x n)) x = (0, 0, 2) ∧ (getAll (str (longL x n) ++ str [l]) x).2.2 = 4) := by
  have hM := full_bounds x h1 h2
  have e1 : getAll (str (longL x n)) x = if 5 ≤ n then (0, 0, 4) else (0, 0, 2) := by
    have := get_longL x h1 h2 n []
    rw [List.append_nil] at this
    rw [getAll, if_pos ⟨h1, h2⟩, nums_str _ (longL_byte x h1 h2 n), this]
    rfl
  have e2 : getAll (str (longL x n) ++ str [l]) x = if 5 ≤ n then (0, 0, 4) else scan (full x) (1 + n) [l] := by
    rw [getAll, if_pos ⟨h1, h2⟩, nums_append, nums_str _ (longL_byte x h1 h2 n), nums_str [l] (by simpa using hl), get_longL x h1 h2 n]
  by_cases h5 : 5 ≤ n
  · exact .inl ⟨h5, by rw [e1, if_pos h5], by rw [e2, if_pos h5]⟩
  · rw [if_neg h5] at e1 e2
    by_cases hl1 : 128 ≤ l
    · exact .inr (.inl ⟨by omega, hl1, e1⟩)
    · have hl2 : l < 128 := by omega
      by_cases hr : 2147483647 < full x + l % 128 * 2 ^ (7 * (1 + n - 1))
      · have hn4 : n = 4 := by
          rcases (by omega : n = 0 ∨ n = 1 ∨ n = 2 ∨ n = 3 ∨ n = 4) with rfl | rfl | rfl | rfl | rfl
          · simp at hr; omega
          · simp at hr; omega
          · simp at hr; omega
          · simp at hr; omega
          · rfl
        exact .inr (.inr (.inr ⟨hn4, hl2, e1, by rw [e2, scan_range _ _ _ _ _ rfl (.inl hr)]⟩))
      · exact .inr (.inr (.inl ⟨by omega, hl2, e1, by rw [e2, scan_last _ _ _ _ _ rfl hr hl2]⟩))

set_option maxRecDepth 100000 in
set_option maxHeartbeats 2000000 in
theorem long_low (x : Int) (n l : Nat) (w : World) (h1 : 1 ≤ x) (h2 : x ≤ 7) (hn : n ≤ 20) (hl : l < 256) : Calls Try.prog 7 #[.int .i64 x, .int .i64 (n : Int), .int .u8 (l : Int)] w (Fine w) := by
  have hA : Hid (∀ w, Calls Try.prog 9 #[] w fun e w' => e = .returned (.bool true) ∧ Below w.heap.size w w') := alive_true
  have hconv2 : ∀ w : World, (convert 32 9 (.slice (some ⟨w.heap.size, 0, none⟩) 1 1)).run Try.prog (w.alloc (.cells #[.int .u8 (l : Int)] 5)) = .ok (.string (str [l])) (w.alloc (.cells #[.int .u8 (l : Int)] 5)) :=
    fun w => conv_own (w.alloc (.cells #[.int .u8 (l : Int)] 5)) w.heap.size (.slice (some ⟨w.heap.size, 0, none⟩) 1 1) _ [l] _ (ownsRow_one w _ (Nat.le_refl _) l) rfl
  have HC := long_cases x h1 (by omega) n l hl
  have HC : Hid _ := HC
  obtain ⟨hM1, _⟩ := full_bounds x h1 (by omega)
  have hM3 : full x ≤ 127 := by
    obtain rfl | rfl | rfl | rfl | rfl | rfl | rfl : x = 1 ∨ x = 2 ∨ x = 3 ∨ x = 4 ∨ x = 5 ∨ x = 6 ∨ x = 7 := by omega
    all_goals decide
  have hpow := full_pow x h1 (by omega)
  have hconv : ∀ w : World, (convert 32 9 (.slice (some ⟨w.heap.size, 0, none⟩) 1 1)).run Try.prog (w.alloc (.cells #[.int .u8 (full x : Int)] 5)) = .ok (.string (str (longL x 0))) (w.alloc (.cells #[.int .u8 (full x : Int)] 5)) :=
    fun w => conv_own (w.alloc (.cells #[.int .u8 (full x : Int)] 5)) w.heap.size (.slice (some ⟨w.heap.size, 0, none⟩) 1 1) _ [full x] _ (ownsRow_one w _ (Nat.le_refl _) (full x)) rfl
  go_enter Try.func7, Try.ntmps7
  go_wp2_with fail
  refine (hA.out _).mono ?_
  rintro e w1 ⟨rfl, hB⟩
  go_wp2_with fail
  have hw : w.heap.size ≤ w1.heap.size := hB.size
  have hB2 : Below w.heap.size w (w1.alloc (.cells #[.int .u8 (full x : Int)] 5)) := hB.alloc hw _
  have hw2 := hB2.size
  clear hconv hpow hM1 hM3 hA
  go_loopg [7, 8] n (fun k s v wr => ∃ j : Nat, s = .string (str (longL x j)) ∧ v = .int .i64 (j : Int) ∧ k + j = n ∧ wr = (w1.alloc (.cells #[.int .u8 (full x : Int)] 5)))
  case atStart => exact ⟨0, rfl, rfl, rfl, rfl⟩
  case round =>
    obtain ⟨j, rfl, rfl, hk, rfl⟩ := hrel
    generalize (w1.alloc (.cells #[.int .u8 (full x : Int)] 5)) = w2 at *
    have hzs : (str (longL x j)).size = j + 1 := by rw [str_size]; simp [longL]
    by_cases hj : j < n
    · have hps := str_push (longL x j)
      have hpe : longL x j ++ [128] = longL x (j + 1) := by simp [longL, List.replicate_succ']
      rw [hpe] at hps
      have HK : Hid (gk + j = n) := hk
      clear hk hpe HC hconv2
      go_wp2_with fail
      go_roundg (gk - 1)
      case measure => have := HK.out; omega
      case rel => exact ⟨j + 1, rfl, by simp, by have := HK.out; omega, rfl⟩
    · obtain rfl : j = n := by omega
      clear hk hj
      have hm1 : (str (longL x j)).size ≤ maxLen := by rw [str_size]; simp [longL]; unfold maxLen; omega
      have hm2 : (str (longL x j) ++ str [l]).size ≤ maxLen := by rw [size_str_append, str_size, str_size]; simp [longL]; unfold maxLen; omega
      have G1 : Hid (∀ w, Calls Try.prog 12 #[.string (str (longL x j)), .int .i64 x] w fun e w' => e = .returned (got (getAll (str (longL x j)) x)) ∧ w = w') := fun w => get_ok _ x w hm1
      have G2 : Hid (∀ w, Calls Try.prog 12 #[.string (str (longL x j) ++ str [l]), .int .i64 x] w fun e w' => e = .returned (got (getAll (str (longL x j) ++ str [l]) x)) ∧ w = w') := fun w => get_ok _ x w hm2
      clear hm1 hm2
      have hz1 : (str [l]).size = 1 := str_size [l]
      have hcs := HC.out
      clear HC
      generalize getAll (str (longL x j)) x = g1 at *
      generalize getAll (str (longL x j) ++ str [l]) x = g2 at *
      obtain ⟨a2, b2, c2⟩ := g2
      simp only at hcs
      unfold got at G1 G2
      rcases hcs with ⟨h, rfl, hg2⟩ | ⟨h, h', rfl⟩ | ⟨h, h', rfl, rfl⟩ | ⟨h, h', rfl, rfl⟩
      · simp only [Prod.mk.injEq] at hg2
        obtain ⟨rfl, rfl, rfl⟩ := hg2
        go_wp2_with fail
        refine (G1.out _).mono ?_
        rintro e w3 ⟨rfl, rfl⟩
        go_wp2_with fail
        refine (G2.out _).mono ?_
        rintro e w3 ⟨rfl, rfl⟩
        go_wp2_with fail
        go_ret
        exact ⟨rfl, hB2.alloc hw2 _⟩
      · go_wp2_with fail
        refine (G1.out _).mono ?_
        rintro e w3 ⟨rfl, rfl⟩
        go_wp2_with fail
        refine (G2.out _).mono ?_
        rintro e w3 ⟨rfl, rfl⟩
        go_wp2_with fail
        go_ret
        exact ⟨rfl, hB2.alloc hw2 _⟩
      · go_wp2_with fail
        refine (G1.out _).mono ?_
        rintro e w3 ⟨rfl, rfl⟩
        go_wp2_with fail
        refine (G2.out _).mono ?_
        rintro e w3 ⟨rfl, rfl⟩
        go_wp2_with fail
        go_ret
        exact ⟨rfl, hB2.alloc hw2 _⟩
      · have ha : 4 ≤ j := by omega
        have hb : j ≤ 4 := by omega
        clear h
        go_wp2_with fail
        refine (G1.out _).mono ?_
        rintro e w3 ⟨rfl, rfl⟩
        go_wp2_with fail
        refine (G2.out _).mono ?_
        rintro e w3 ⟨rfl, rfl⟩
        go_wp2_with fail
        go_ret
        exact ⟨rfl, hB2.alloc hw2 _⟩

set_option maxRecDepth 100000 in
set_option maxHeartbeats 2000000 in
theorem long_eight (n l : Nat) (w : World) (hn : n ≤ 20) (hl : l < 256) : Calls Try.prog 7 #[.int .i64 8, .int .i64 (n : Int), .int .u8 (l : Int)] w (Fine w) := by
  have hA : Hid (∀ w, Calls Try.prog 9 #[] w fun e w' => e = .returned (.bool true) ∧ Below w.heap.size w w') := alive_true
  have hconv2 : ∀ w : World, (convert 32 9 (.slice (some ⟨w.heap.size, 0, none⟩) 1 1)).run Try.prog (w.alloc (.cells #[.int .u8 (l : Int)] 5)) = .ok (.string (str [l])) (w.alloc (.cells #[.int .u8 (l : Int)] 5)) :=
    fun w => conv_own (w.alloc (.cells #[.int .u8 (l : Int)] 5)) w.heap.size (.slice (some ⟨w.heap.size, 0, none⟩) 1 1) _ [l] _ (ownsRow_one w _ (Nat.le_refl _) l) rfl
  have HC := long_cases 8 (by decide) (by decide) n l hl
  have HC : Hid _ := HC
  have hconv : ∀ w : World, (convert 32 9 (.slice (some ⟨w.heap.size, 0, none⟩) 1 1)).run Try.prog (w.alloc (.cells #[.int .u8 255] 5)) = .ok (.string (str (longL 8 0))) (w.alloc (.cells #[.int .u8 255] 5)) :=
    fun w => conv_own (w.alloc (.cells #[.int .u8 255] 5)) w.heap.size (.slice (some ⟨w.heap.size, 0, none⟩) 1 1) _ [full 8] _ (ownsRow_one w _ (Nat.le_refl _) (full 8)) rfl
  go_enter Try.func7, Try.ntmps7
  go_wp2_with fail
  refine (hA.out _).mono ?_
  rintro e w1 ⟨rfl, hB⟩
  go_wp2_with fail
  have hw : w.heap.size ≤ w1.heap.size := hB.size
  have hB2 : Below w.heap.size w (w1.alloc (.cells #[.int .u8 255] 5)) := hB.alloc hw _
  have hw2 := hB2.size
  clear hconv  hA
  go_loopg [7, 8] n (fun k s v wr => ∃ j : Nat, s = .string (str (longL 8 j)) ∧ v = .int .i64 (j : Int) ∧ k + j = n ∧ wr = (w1.alloc (.cells #[.int .u8 255] 5)))
  case atStart => exact ⟨0, rfl, rfl, rfl, rfl⟩
  case round =>
    obtain ⟨j, rfl, rfl, hk, rfl⟩ := hrel
    generalize (w1.alloc (.cells #[.int .u8 255] 5)) = w2 at *
    have hzs : (str (longL 8 j)).size = j + 1 := by rw [str_size]; simp [longL]
    by_cases hj : j < n
    · have hps := str_push (longL 8 j)
      have hpe : longL 8 j ++ [128] = longL 8 (j + 1) := by simp [longL, List.replicate_succ']
      rw [hpe] at hps
      have HK : Hid (gk + j = n) := hk
      clear hk hpe HC hconv2
      go_wp2_with fail
      go_roundg (gk - 1)
      case measure => have := HK.out; omega
      case rel => exact ⟨j + 1, rfl, by simp, by have := HK.out; omega, rfl⟩
    · obtain rfl : j = n := by omega
      clear hk hj
      have hm1 : (str (longL 8 j)).size ≤ maxLen := by rw [str_size]; simp [longL]; unfold maxLen; omega
      have hm2 : (str (longL 8 j) ++ str [l]).size ≤ maxLen := by rw [size_str_append, str_size, str_size]; simp [longL]; unfold maxLen; omega
      have G1 : Hid (∀ w, Calls Try.prog 12 #[.string (str (longL 8 j)), .int .i64 8] w fun e w' => e = .returned (got (getAll (str (longL 8 j)) 8)) ∧ w = w') := fun w => get_ok _ 8 w hm1
      have G2 : Hid (∀ w, Calls Try.prog 12 #[.string (str (longL 8 j) ++ str [l]), .int .i64 8] w fun e w' => e = .returned (got (getAll (str (longL 8 j) ++ str [l]) 8)) ∧ w = w') := fun w => get_ok _ 8 w hm2
      clear hm1 hm2
      have hz1 : (str [l]).size = 1 := str_size [l]
      have hcs := HC.out
      clear HC
      generalize getAll (str (longL 8 j)) 8 = g1 at *
      generalize getAll (str (longL 8 j) ++ str [l]) 8 = g2 at *
      obtain ⟨a2, b2, c2⟩ := g2
      simp only at hcs
      unfold got at G1 G2
      rcases hcs with ⟨h, rfl, hg2⟩ | ⟨h, h', rfl⟩ | ⟨h, h', rfl, rfl⟩ | ⟨h, h', rfl, rfl⟩
      · simp only [Prod.mk.injEq] at hg2
        obtain ⟨rfl, rfl, rfl⟩ := hg2
        go_wp2_with fail
        refine (G1.out _).mono ?_
        rintro e w3 ⟨rfl, rfl⟩
        go_wp2_with fail
        refine (G2.out _).mono ?_
        rintro e w3 ⟨rfl, rfl⟩
        go_wp2_with fail
        go_ret
        exact ⟨rfl, hB2.alloc hw2 _⟩
      · go_wp2_with fail
        refine (G1.out _).mono ?_
        rintro e w3 ⟨rfl, rfl⟩
        go_wp2_with fail
        refine (G2.out _).mono ?_
        rintro e w3 ⟨rfl, rfl⟩
        go_wp2_with fail
        go_ret
        exact ⟨rfl, hB2.alloc hw2 _⟩
      · go_wp2_with fail
        refine (G1.out _).mono ?_
        rintro e w3 ⟨rfl, rfl⟩
        go_wp2_with fail
        refine (G2.out _).mono ?_
        rintro e w3 ⟨rfl, rfl⟩
        go_wp2_with fail
        go_ret
        exact ⟨rfl, hB2.alloc hw2 _⟩
      · have ha : 4 ≤ j := by omega
        have hb : j ≤ 4 := by omega
        clear h
        go_wp2_with fail
        refine (G1.out _).mono ?_
        rintro e w3 ⟨rfl, rfl⟩
        go_wp2_with fail
        refine (G2.out _).mono ?_
        rintro e w3 ⟨rfl, rfl⟩
        go_wp2_with fail
        go_ret
        exact ⟨rfl, hB2.alloc hw2 _⟩

theorem varintLong_true (x n l : Int) (w : World) (hl : (Lit.int .u8 l).wf = true) : Calls Try.prog 7 #[.int .i64 x, .int .i64 n, .int .u8 l] w (Fine w) := by
  have hb := bounds_u8 hl
  by_cases h : x < 1 ∨ 8 < x ∨ n < 0 ∨ 20 < n
  · exact long_no x n l w h
  · obtain ⟨N, rfl⟩ := Int.eq_ofNat_of_zero_le (show 0 ≤ n by omega)
    obtain ⟨L, rfl⟩ := Int.eq_ofNat_of_zero_le (show 0 ≤ l by omega)
    by_cases h8 : x = 8
    · subst h8
      exact long_eight N L w (by omega) (by omega)
    · exact long_low x N L w (by omega) (by omega) (by omega) (by omega)
end Go.Proofs.Ytgmhbkmmcboadaa
