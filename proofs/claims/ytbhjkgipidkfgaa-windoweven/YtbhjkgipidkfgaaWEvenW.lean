/-
  The law WindowEven, walked.
-/
import Derived.Test.YtbhjkgipidkfgaaWAlive
import Derived.Test.YtbhjkgipidkfgaaWOpen
namespace Go.Proofs.Ytbhjkgipidkfgaa
open Go.RowKit
attribute [local irreducible] newW takeW growW shiftW creditW

set_option maxRecDepth 100000 in
set_option maxHeartbeats 4000000 in
theorem even_walk (size : Int) (a : Option Addr) (cap : Nat) (l : List Int) (w : World) (hI : Ints w a l) : Calls Try.prog 4 #[.int .i64 size, .slice a l.length cap] w (Fine w) := by
  have HL := hid alive_ok
  have hlen := hI.2
  by_cases ha : 1 ≤ size
  · by_cases hb : size ≤ 65535
    · by_cases hc : l.length ≤ 60
      · have HN : Hid (∀ w, Calls Try.prog 10 #[.int .i64 size] w fun e w' => e = .returned (.tuple #[.agg #[.int .i64 size, .int .i64 size, .int .i64 0], .bool true]) ∧ Keeps nobody w w') := new_as size (newW_yes ⟨by omega, by omega⟩)
        have HS1 : Hid (∀ x c n : Int, 0 ≤ n ∧ n ≤ x ∧ x ≤ 65535 → ∀ w, Calls Try.prog 18 #[.agg #[.int .i64 x, .int .i64 size, .int .i64 c], .int .i64 n] w fun e w' => e = .returned (.tuple #[.agg #[.int .i64 (x - n), .int .i64 size, .int .i64 c], .bool true]) ∧ Keeps nobody w w') := fun x c n hx => spend_as ⟨x, size, c⟩ n (takeW_yes ⟨hx.1, hx.2.1⟩) (by simp only; omega)
        have HS0 : Hid (∀ x c n : Int, x < n ∧ x ≤ 65535 → ∀ w, Calls Try.prog 18 #[.agg #[.int .i64 x, .int .i64 size, .int .i64 c], .int .i64 n] w fun e w' => e = .returned (.tuple #[.agg #[.int .i64 x, .int .i64 size, .int .i64 c], .bool false]) ∧ Keeps nobody w w') := fun x c n hx => spend_as ⟨x, size, c⟩ n (takeW_no (fun e => by have := e.2; simp only at this; omega)) (by simp only; omega)
        have HC0 : Hid (∀ x c n : Int, 0 ≤ x ∧ x ≤ 65535 ∧ 0 ≤ c ∧ c ≤ 65535 ∧ (0 ≤ n ∧ n ≤ 65535) ∧ c + n < halfW size → ∀ w, Calls Try.prog 19 #[.agg #[.int .i64 x, .int .i64 size, .int .i64 c], .int .i64 n] w fun e w' => e = .returned (.tuple #[.agg #[.int .i64 x, .int .i64 size, .int .i64 (c + n)], .int .i64 0]) ∧ Keeps nobody w w') := fun x c n hx => by
          have e1 : owedW ⟨x, size, c⟩ n = c + n := by simp only [owedW]; omega
          exact credit_as ⟨x, size, c⟩ n (x := ⟨x, size, c + n⟩) (b := 0) ((creditW_no (by rw [e1]; exact hx.2.2.2.2.2)).trans (by rw [e1])) ⟨by simp only; omega, by simp only; omega, by simp only; omega, by simp only; omega, by simp only; omega, by simp only; omega⟩ (by omega)
        have HC1 : Hid (∀ x c n : Int, 0 ≤ x ∧ x ≤ 65535 ∧ 0 ≤ c ∧ c ≤ 65535 ∧ (0 ≤ n ∧ n ≤ 65535) ∧ ¬ c + n < halfW size → ∀ w, Calls Try.prog 19 #[.agg #[.int .i64 x, .int .i64 size, .int .i64 c], .int .i64 n] w fun e w' => e = .returned (.tuple #[.agg #[.int .i64 (x + (c + n)), .int .i64 size, .int .i64 0], .int .i64 (c + n)]) ∧ Keeps nobody w w') := fun x c n hx => by
          have e1 : owedW ⟨x, size, c⟩ n = c + n := by simp only [owedW]; omega
          exact credit_as ⟨x, size, c⟩ n (x := ⟨x + (c + n), size, 0⟩) (b := c + n) ((creditW_yes (by rw [e1]; exact hx.2.2.2.2.2)).trans (by rw [e1])) ⟨by simp only; omega, by simp only; omega, by simp only; omega, by simp only; omega, by simp only; omega, by simp only; omega⟩ (by omega)
        have hh : 1 ≤ halfW size := by unfold halfW; omega
        generalize halfW size = h at *
        have HI := hid hI
        clear hI
        go_enter Try.func4, Try.ntmps4
        go_wp2_with fail
        refine Calls.mono (HL.out _) ?_
        rintro e w1 ⟨rfl, k1⟩
        have K1 := hid k1
        clear k1
        go_wp2_with fail
        refine Calls.mono (HN.out _) ?_
        rintro e w2 ⟨rfl, k2⟩
        have HZ := hid (wb_new 25 w w2 (K1.out.then k2) ⟨size, size, 0⟩)
        clear k2
        go_wp2
        go_loopg [7, 39] l.length (fun k u i wr => ∃ (j : Nat) (x c un : Int), i = .int .i64 (j : Int) ∧ u = .int .i64 un ∧ k + j = l.length ∧ 0 ≤ x ∧ 0 ≤ c ∧ 0 ≤ un ∧ x + c + un = size ∧ Hid (Wb 25 w wr w2.heap.size ⟨x, size, c⟩))
        case atStart => exact ⟨0, size, 0, 0, rfl, rfl, rfl, by omega, by omega, by omega, by omega, HZ⟩
        case round =>
          obtain ⟨j, x, c, un, rfl, rfl, hk, hx, hc0, hu, hsum, HB⟩ := hrel
          clear HZ
          by_cases hj : j < l.length
          · obtain ⟨r1, f1, rfl, hr1, d0⟩ := HI.out.at HB.out.keeps j hj
            obtain ⟨b0, b1, b2, bf, hlt⟩ := HB.out.cells
            simp only at b0 b1 b2
            generalize l[j]'hj = y at *
            have hmx : ∀ ts t W, (Builtin.max_ ts t #[.int .i64 y, .int .i64 0]).run Try.prog W = .ok (.int .i64 (max y 0)) W := fun ts t W => by rw [run_max_int2]; rw [show (if 0 > y then (0 : Int) else y) = max y 0 by split <;> omega]
            have hmn : ∀ ts t W, (Builtin.min_ ts t #[.int .i64 (max y 0), .int .i64 65535]).run Try.prog W = .ok (.int .i64 (min (max y 0) 65535)) W := fun ts t W => by rw [run_min_int2]; rw [show (if 65535 < max y 0 then (65535 : Int) else max y 0) = min (max y 0) 65535 by split <;> omega]
            have hn0 : 0 ≤ min (max y 0) 65535 := by omega
            have hn1 : min (max y 0) 65535 ≤ 65535 := by omega
            generalize min (max y 0) 65535 = n at *
            generalize max y 0 = m1 at *
            have HK : Hid (gk + j = l.length) := hk
            clear hk
            by_cases hpar : j % 2 = 0
            · have hr : (j : Int).tmod 2 = 0 := by rw [Int.tmod_eq_emod_of_nonneg (by omega)]; omega
              by_cases hna : n ≤ x
              · have HS := hid (HS1.out x c n ⟨hn0, hna, by omega⟩)
                clear HS1 HS0 HC0 HC1
                go_wp2_with fail
                refine Calls.mono (HS.out _) ?_
                rintro e w4 ⟨rfl, k4⟩
                clear b0 b1 b2 bf hlt d0
                have h4 := HB.out.quiet k4
                obtain ⟨b0, b1, b2, bf, hlt⟩ := h4.cells
                simp only at b0 b1 b2
                have H4 := hid h4
                clear h4 k4 HB
                go_wp2
                have hk := HK.out
                go_roundg (gk - 1)
                case measure => omega
                case rel => exact ⟨j + 1, x - n, c, un + n, by simp, rfl, by omega, by omega, by omega, by omega, by omega, hid ((H4.out.put ⟨x - n, size, c⟩).quiet (keeps_alloc _ _))⟩
              · have HS := hid (HS0.out x c n ⟨by omega, by omega⟩)
                clear HS1 HS0 HC0 HC1
                go_wp2_with fail
                refine Calls.mono (HS.out _) ?_
                rintro e w4 ⟨rfl, k4⟩
                clear b0 b1 b2 bf hlt d0
                have h4 := HB.out.quiet k4
                obtain ⟨b0, b1, b2, bf, hlt⟩ := h4.cells
                simp only at b0 b1 b2
                have H4 := hid h4
                clear h4 k4 HB
                go_wp2
                have hk := HK.out
                go_roundg (gk - 1)
                case measure => omega
                case rel => exact ⟨j + 1, x, c, un, by simp, rfl, by omega, by omega, by omega, by omega, by omega, hid ((H4.out).quiet (keeps_alloc _ _))⟩
            · have hr : (j : Int).tmod 2 = 1 := by rw [Int.tmod_eq_emod_of_nonneg (by omega)]; omega
              have hmu : ∀ ts t W, (Builtin.min_ ts t #[.int .i64 n, .int .i64 un]).run Try.prog W = .ok (.int .i64 (min n un)) W := fun ts t W => by rw [run_min_int2]; rw [show (if un < n then un else n) = min n un by split <;> omega]
              have hq0 : 0 ≤ min n un := by omega
              have hq1 : min n un ≤ un := by omega
              have hq2 : min n un ≤ 65535 := by omega
              generalize min n un = q at *
              by_cases hp : c + q < h
              · have HC := hid (HC0.out x c q ⟨by omega, by omega, by omega, by omega, ⟨by omega, by omega⟩, hp⟩)
                clear HS1 HS0 HC0 HC1
                go_wp2_with fail
                refine Calls.mono (HC.out _) ?_
                rintro e w4 ⟨rfl, k4⟩
                clear b0 b1 b2 bf hlt d0
                have h4 := HB.out.quiet k4
                obtain ⟨b0, b1, b2, bf, hlt⟩ := h4.cells
                simp only at b0 b1 b2
                have H4 := hid h4
                clear h4 k4 HB
                go_wp2
                have hk := HK.out
                go_roundg (gk - 1)
                case measure => omega
                case rel => exact ⟨j + 1, x, c + q, un - q, by simp, rfl, by omega, by omega, by omega, by omega, by omega, hid ((H4.out.put ⟨x, size, c + q⟩).quiet (keeps_alloc _ _))⟩
              · have HC := hid (HC1.out x c q ⟨by omega, by omega, by omega, by omega, ⟨by omega, by omega⟩, by omega⟩)
                obtain ⟨t, ht⟩ : ∃ t, t = c + q := ⟨_, rfl⟩
                obtain ⟨p, hpp⟩ : ∃ p, p = x + t := ⟨_, rfl⟩
                rw [← ht] at HC
                rw [← hpp] at HC
                have ht1 : t ≤ c + q := by omega
                have ht2 : c + q ≤ t := by omega
                have hp1 : p ≤ x + t := by omega
                have hp2 : x + t ≤ p := by omega
                clear ht hpp
                clear HS1 HS0 HC0 HC1
                go_wp2_with fail
                refine Calls.mono (HC.out _) ?_
                rintro e w4 ⟨rfl, k4⟩
                clear b0 b1 b2 bf hlt d0
                have h4 := HB.out.quiet k4
                obtain ⟨b0, b1, b2, bf, hlt⟩ := h4.cells
                simp only at b0 b1 b2
                have H4 := hid h4
                clear h4 k4 HB
                go_wp2
                have hk := HK.out
                go_roundg (gk - 1)
                case measure => omega
                case rel => exact ⟨j + 1, p, 0, un - q, by simp, rfl, by omega, by omega, by omega, by omega, by omega, hid ((H4.out.put ⟨p, size, 0⟩).quiet (keeps_alloc _ _))⟩
          · obtain ⟨b0, b1, b2, bf, hlt⟩ := HB.out.cells
            go_wp2
            go_ret
            exact ⟨rfl, below_of_keeps HB.out.keeps⟩
      · go_enter Try.func4, Try.ntmps4
        go_wp2_with fail
        refine Calls.mono (HL.out _) ?_
        rintro e w1 ⟨rfl, k1⟩
        go_wp2
        go_ret
        exact ⟨rfl, below_of_keeps k1⟩
    · go_enter Try.func4, Try.ntmps4
      go_wp2_with fail
      refine Calls.mono (HL.out _) ?_
      rintro e w1 ⟨rfl, k1⟩
      go_wp2
      go_ret
      exact ⟨rfl, below_of_keeps k1⟩
  · go_enter Try.func4, Try.ntmps4
    go_wp2_with fail
    refine Calls.mono (HL.out _) ?_
    rintro e w1 ⟨rfl, k1⟩
    go_wp2
    go_ret
    exact ⟨rfl, below_of_keeps k1⟩
end Go.Proofs.Ytbhjkgipidkfgaa
