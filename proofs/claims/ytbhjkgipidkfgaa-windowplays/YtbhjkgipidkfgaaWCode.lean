/-
  Package window: within, New, Take, Grow, Shift, Spend, Credit.
-/
import Derived.Test.YtbhjkgipidkfgaaWMem
import Derived.BigQuiet
namespace Go.Proofs.Ytbhjkgipidkfgaa
open Go.RowKit

theorem wwithin_ok (n a b : Int) (w : World) : Calls Try.prog 21 #[.int .i64 n, .int .i64 a, .int .i64 b] w fun e w' => e = .returned (.bool (decide (a ≤ n ∧ n ≤ b))) ∧ w = w' := by
  by_cases h : a ≤ n
  · have e : decide (a ≤ n ∧ n ≤ b) = decide (n ≤ b) := by simp [h]
    rw [e]
    go_enter Try.func21, Try.ntmps21
    go_wp2
    go_ret
    exact ⟨by simp, rfl⟩
  · have e : decide (a ≤ n ∧ n ≤ b) = false := by simp [h]
    rw [e]
    go_enter Try.func21, Try.ntmps21
    go_wp2
    go_ret
    exact ⟨rfl, rfl⟩
set_option maxRecDepth 100000 in
theorem wnew_ok (n : Int) (w : World) : Calls Try.prog 10 #[.int .i64 n] w fun e w' => e = .returned (pairW (newW n)) ∧ Keeps nobody w w' := by
  have HW := hid wwithin_ok
  by_cases h : 0 ≤ n ∧ n ≤ 2147483647
  · have e : newW n = (⟨n, n, 0⟩, true) := by simp [newW, h]
    have HV : Hid (decide (0 ≤ n ∧ n ≤ 2147483647) = true) := decide_eq_true h
    rw [e]
    clear e h
    go_enter Try.func10, Try.ntmps10
    go_wp2_with fail
    refine Calls.mono (HW.out _ _ _ _) ?_
    rintro e w1 ⟨rfl, rfl⟩
    rw [HV.out]
    go_wp2
    exact bodyPost_ret (v := pairW (⟨n, n, 0⟩, true)) (by simp [results, Try.results10, go_sem]) rfl ⟨rfl, (Keeps.refl _ _).alloc _⟩
  · have e : newW n = (⟨0, 0, 0⟩, false) := by simp [newW, h]
    have HV : Hid (decide (0 ≤ n ∧ n ≤ 2147483647) = false) := decide_eq_false h
    rw [e]
    clear e h
    go_enter Try.func10, Try.ntmps10
    go_wp2_with fail
    refine Calls.mono (HW.out _ _ _ _) ?_
    rintro e w1 ⟨rfl, rfl⟩
    rw [HV.out]
    go_wp2
    exact bodyPost_ret (v := pairW (⟨0, 0, 0⟩, false)) (by simp [results, Try.results10, go_sem]) rfl ⟨rfl, (Keeps.refl _ _).alloc _⟩
set_option maxRecDepth 100000 in
theorem wtake_ok (s : Wd) (n : Int) (w : World) (h1 : s.left ≤ 9223372036854775807) : Calls Try.prog 12 #[wval s, .int .i64 n] w fun e w' => e = .returned (pairW (takeW s n)) ∧ Keeps nobody w w' := by
  have HW := hid wwithin_ok
  obtain ⟨a, b, c⟩ := s
  simp only at h1
  by_cases h : 0 ≤ n ∧ n ≤ a
  · have e : takeW ⟨a, b, c⟩ n = (⟨a - n, b, c⟩, true) := by simp [takeW, h]
    have HV : Hid (decide (0 ≤ n ∧ n ≤ a) = true) := decide_eq_true h
    rw [e]
    obtain ⟨ha, hb⟩ := h
    clear e
    go_enter Try.func12, Try.ntmps12
    go_wp2_with fail
    refine Calls.mono (HW.out _ _ _ _) ?_
    rintro e w1 ⟨rfl, rfl⟩
    rw [HV.out]
    go_wp2
    exact bodyPost_ret (v := pairW (⟨a - n, b, c⟩, true)) (by simp [results, Try.results12, go_sem]) rfl ⟨rfl, ((Keeps.refl _ _).alloc _).alloc _⟩
  · have e : takeW ⟨a, b, c⟩ n = (⟨a, b, c⟩, false) := by simp [takeW, h]
    have HV : Hid (decide (0 ≤ n ∧ n ≤ a) = false) := decide_eq_false h
    rw [e]
    clear e h
    go_enter Try.func12, Try.ntmps12
    go_wp2_with fail
    refine Calls.mono (HW.out _ _ _ _) ?_
    rintro e w1 ⟨rfl, rfl⟩
    rw [HV.out]
    go_wp2
    exact bodyPost_ret (v := pairW (⟨a, b, c⟩, false)) (by simp [results, Try.results12, go_sem]) rfl ⟨rfl, ((Keeps.refl _ _).alloc _).alloc _⟩
set_option maxRecDepth 100000 in
theorem wspend_ok (s : Wd) (n : Int) (w : World) (h1 : s.left ≤ 9223372036854775807) : Calls Try.prog 18 #[wval s, .int .i64 n] w fun e w' => e = .returned (pairW (takeW s n)) ∧ Keeps nobody w w' := by
  have HT : Hid (∀ w, Calls Try.prog 12 #[wval s, .int .i64 n] w fun e w' => e = .returned (pairW (takeW s n)) ∧ Keeps nobody w w') := fun w => wtake_ok s n w h1
  obtain ⟨a, b, c⟩ := s
  generalize takeW ⟨a, b, c⟩ n = x at *
  obtain ⟨⟨x0, x1, x2⟩, x3⟩ := x
  clear h1
  go_enter Try.func18, Try.ntmps18
  go_wp2_with fail
  refine Calls.mono (HT.out _) ?_
  rintro e w1 ⟨rfl, k1⟩
  have hb := (bw_new 25 (w.alloc (.cells #[.int .i64 a, .int .i64 b, .int .i64 c] 25)) ⟨0, 0, 0⟩).quiet k1
  simp at hb
  have hlt := hb.lt
  obtain ⟨c0, c1, c2, cf⟩ := hb.cells
  have HB := hid (bput_bw hb ⟨x0, x1, x2⟩)
  have HK := hid (bput_new (((keeps_alloc w (.cells #[.int .i64 a, .int .i64 b, .int .i64 c] 25)).alloc (.cells #[.int .i64 0, .int .i64 0, .int .i64 0] 25)).then k1) (b := w.heap.size + 1) (by omega) ⟨x0, x1, x2⟩)
  clear k1 hb
  go_wp2
  refine bodyPost_ret (v := pairW (⟨x0, x1, x2⟩, x3)) ?_ rfl ⟨rfl, HK.out⟩
  obtain ⟨d0, d1, d2, _⟩ := HB.out.cells
  simp [results, Try.results18, go_sem, d0, d1, d2]
set_option maxRecDepth 100000 in
theorem wgrow_ok (s : Wd) (n : Int) (w : World) (h1 : -(9223372036854775808 : Int) ≤ s.left) : Calls Try.prog 14 #[wval s, .int .i64 n] w fun e w' => e = .returned (pairW (growW s n)) ∧ Keeps nobody w w' := by
  have HW := hid wwithin_ok
  obtain ⟨a, b, c⟩ := s
  simp only at h1
  by_cases h : 1 ≤ n ∧ n ≤ 2147483647
  · have HV : Hid (decide (1 ≤ n ∧ n ≤ 2147483647) = true) := decide_eq_true h
    by_cases hm : a ≤ 2147483647 - n
    · have e : growW ⟨a, b, c⟩ n = (⟨a + n, b, c⟩, true) := by simp [growW, h, hm]
      rw [e]
      obtain ⟨ha, hb⟩ := h
      clear e
      go_enter Try.func14, Try.ntmps14
      go_wp2_with fail
      refine Calls.mono (HW.out _ _ _ _) ?_
      rintro e w1 ⟨rfl, rfl⟩
      rw [HV.out]
      go_wp2
      exact bodyPost_ret (v := pairW (⟨a + n, b, c⟩, true)) (by simp [results, Try.results14, go_sem]) rfl ⟨rfl, ((Keeps.refl _ _).alloc _).alloc _⟩
    · have e : growW ⟨a, b, c⟩ n = (⟨a, b, c⟩, false) := by simp [growW, hm]
      rw [e]
      obtain ⟨ha, hb⟩ := h
      clear e
      go_enter Try.func14, Try.ntmps14
      go_wp2_with fail
      refine Calls.mono (HW.out _ _ _ _) ?_
      rintro e w1 ⟨rfl, rfl⟩
      rw [HV.out]
      go_wp2
      exact bodyPost_ret (v := pairW (⟨a, b, c⟩, false)) (by simp [results, Try.results14, go_sem]) rfl ⟨rfl, ((Keeps.refl _ _).alloc _).alloc _⟩
  · have HV : Hid (decide (1 ≤ n ∧ n ≤ 2147483647) = false) := decide_eq_false h
    have e : growW ⟨a, b, c⟩ n = (⟨a, b, c⟩, false) := by simp [growW, h]
    rw [e]
    clear e h
    go_enter Try.func14, Try.ntmps14
    go_wp2_with fail
    refine Calls.mono (HW.out _ _ _ _) ?_
    rintro e w1 ⟨rfl, rfl⟩
    rw [HV.out]
    go_wp2
    exact bodyPost_ret (v := pairW (⟨a, b, c⟩, false)) (by simp [results, Try.results14, go_sem]) rfl ⟨rfl, ((Keeps.refl _ _).alloc _).alloc _⟩
set_option maxRecDepth 100000 in
set_option maxHeartbeats 1000000 in
theorem wshift_ok (s : Wd) (n : Int) (w : World) (hs : Small s) (hn : -(1152921504606846976 : Int) ≤ n ∧ n ≤ 1152921504606846976) : Calls Try.prog 16 #[wval s, .int .i64 n] w fun e w' => e = .returned (pairW (shiftW s n)) ∧ Keeps nobody w w' := by
  have HW := hid wwithin_ok
  obtain ⟨a, b, c⟩ := s
  obtain ⟨l0, l1, s0, s1, o0, o1⟩ := hs
  obtain ⟨n0, n1⟩ := hn
  simp only at l0 l1 s0 s1 o0 o1
  clear o0 o1
  by_cases h : 0 ≤ b + n ∧ b + n ≤ 2147483647
  · have HV : Hid (decide (0 ≤ b + n ∧ b + n ≤ 2147483647) = true) := decide_eq_true h
    by_cases hm : a + n ≤ 2147483647
    · have e : shiftW ⟨a, b, c⟩ n = (⟨a + n, b + n, c⟩, true) := by simp [shiftW, h, hm]
      rw [e]
      clear e h
      go_enter Try.func16, Try.ntmps16
      go_wp2_with fail
      go_quiet (fail)
      have hk := (((Keeps.refl nobody w).alloc (.cells #[.int .i64 a, .int .i64 b, .int .i64 c] 25)).alloc (.cells #[.int .i64 0, .int .i64 0, .int .i64 0] 25)).drewN nq
      have h1 := (bw_new 25 w ⟨a, b, c⟩).quiet ((keeps_alloc _ (.cells #[.int .i64 0, .int .i64 0, .int .i64 0] 25)).drewN nq)
      have h2 := (bw_new 25 (w.alloc (.cells #[.int .i64 a, .int .i64 b, .int .i64 c] 25)) ⟨0, 0, 0⟩).quiet ((Keeps.refl _ _).drewN nq)
      simp at h2
      generalize World.drewN _ nq = W at *
      obtain ⟨a0, a1, a2, af⟩ := h1.cells
      obtain ⟨b0, b1, b2, bf⟩ := h2.cells
      have ha := h1.lt
      have hb := h2.lt
      simp only at a0 a1 a2 b0 b1 b2
      have HX := hid (And.intro hk (And.intro h1 h2))
      clear hk h1 h2
      generalize hp : a + n = p at *
      generalize hq : b + n = q at *
      clear l0 l1 s0 s1 n0 n1
      go_wp2_with fail
      refine Calls.mono (HW.out _ _ _ _) ?_
      rintro e w1 ⟨rfl, rfl⟩
      rw [HV.out]
      go_wp2
      obtain ⟨hk, h1, h2⟩ := HX.out
      have HB := bput_bw (h2.keeps (S := fun k => k = w.heap.size) (((Keeps.refl (fun k => k = w.heap.size) W).setCell (p := ⟨w.heap.size, 0, none⟩) (.inl rfl) (.int .i64 p)).setCell (p := ⟨w.heap.size, 1, none⟩) (.inl rfl) (.int .i64 q)) (by omega)) ⟨p, q, c⟩
      have HK := bput_new ((hk.setCell (p := ⟨w.heap.size, 0, none⟩) (.inr (Nat.le_refl _)) (.int .i64 p)).setCell (p := ⟨w.heap.size, 1, none⟩) (.inr (Nat.le_refl _)) (.int .i64 q)) (b := w.heap.size + 1) (by omega) ⟨p, q, c⟩
      refine bodyPost_ret (v := pairW (⟨p, q, c⟩, true)) ?_ rfl ⟨by rw [hp, hq], HK⟩
      obtain ⟨d0, d1, d2, _⟩ := HB.cells
      simp [results, Try.results16, go_sem, d0, d1, d2]
    · have e : shiftW ⟨a, b, c⟩ n = (⟨a, b, c⟩, false) := by simp [shiftW, hm]
      rw [e]
      clear e h
      go_enter Try.func16, Try.ntmps16
      go_wp2_with fail
      go_quiet (fail)
      have hk := (((Keeps.refl nobody w).alloc (.cells #[.int .i64 a, .int .i64 b, .int .i64 c] 25)).alloc (.cells #[.int .i64 0, .int .i64 0, .int .i64 0] 25)).drewN nq
      have h1 := (bw_new 25 w ⟨a, b, c⟩).quiet ((keeps_alloc _ (.cells #[.int .i64 0, .int .i64 0, .int .i64 0] 25)).drewN nq)
      have h2 := (bw_new 25 (w.alloc (.cells #[.int .i64 a, .int .i64 b, .int .i64 c] 25)) ⟨0, 0, 0⟩).quiet ((Keeps.refl _ _).drewN nq)
      simp at h2
      generalize World.drewN _ nq = W at *
      obtain ⟨a0, a1, a2, af⟩ := h1.cells
      obtain ⟨b0, b1, b2, bf⟩ := h2.cells
      have ha := h1.lt
      have hb := h2.lt
      simp only at a0 a1 a2 b0 b1 b2
      have HX := hid (And.intro hk (And.intro h1 h2))
      clear hk h1 h2
      generalize hp : a + n = p at *
      generalize hq : b + n = q at *
      clear l0 l1 s0 s1 n0 n1
      go_wp2_with fail
      refine Calls.mono (HW.out _ _ _ _) ?_
      rintro e w1 ⟨rfl, rfl⟩
      rw [HV.out]
      go_wp2
      obtain ⟨hk, h1, h2⟩ := HX.out
      have HB := (bput_bw h2 ⟨a, b, c⟩)
      have HK := (bput_new hk (b := w.heap.size + 1) (by omega) ⟨a, b, c⟩)
      refine bodyPost_ret (v := pairW (⟨a, b, c⟩, false)) ?_ rfl ⟨rfl, HK⟩
      obtain ⟨d0, d1, d2, _⟩ := HB.cells
      simp [results, Try.results16, go_sem, d0, d1, d2]
  · have HV : Hid (decide (0 ≤ b + n ∧ b + n ≤ 2147483647) = false) := decide_eq_false h
    have e : shiftW ⟨a, b, c⟩ n = (⟨a, b, c⟩, false) := by simp [shiftW, h]
    rw [e]
    clear e h
    go_enter Try.func16, Try.ntmps16
    go_wp2_with fail
    go_quiet (fail)
    have hk := (((Keeps.refl nobody w).alloc (.cells #[.int .i64 a, .int .i64 b, .int .i64 c] 25)).alloc (.cells #[.int .i64 0, .int .i64 0, .int .i64 0] 25)).drewN nq
    have h1 := (bw_new 25 w ⟨a, b, c⟩).quiet ((keeps_alloc _ (.cells #[.int .i64 0, .int .i64 0, .int .i64 0] 25)).drewN nq)
    have h2 := (bw_new 25 (w.alloc (.cells #[.int .i64 a, .int .i64 b, .int .i64 c] 25)) ⟨0, 0, 0⟩).quiet ((Keeps.refl _ _).drewN nq)
    simp at h2
    generalize World.drewN _ nq = W at *
    obtain ⟨a0, a1, a2, af⟩ := h1.cells
    obtain ⟨b0, b1, b2, bf⟩ := h2.cells
    have ha := h1.lt
    have hb := h2.lt
    simp only at a0 a1 a2 b0 b1 b2
    have HX := hid (And.intro hk (And.intro h1 h2))
    clear hk h1 h2
    generalize hp : a + n = p at *
    generalize hq : b + n = q at *
    clear l0 l1 s0 s1 n0 n1
    go_wp2_with fail
    refine Calls.mono (HW.out _ _ _ _) ?_
    rintro e w1 ⟨rfl, rfl⟩
    rw [HV.out]
    go_wp2
    obtain ⟨hk, h1, h2⟩ := HX.out
    have HB := (bput_bw h2 ⟨a, b, c⟩)
    have HK := (bput_new hk (b := w.heap.size + 1) (by omega) ⟨a, b, c⟩)
    refine bodyPost_ret (v := pairW (⟨a, b, c⟩, false)) ?_ rfl ⟨rfl, HK⟩
    obtain ⟨d0, d1, d2, _⟩ := HB.cells
    simp [results, Try.results16, go_sem, d0, d1, d2]
set_option maxRecDepth 100000 in
set_option maxHeartbeats 1000000 in
theorem wcredit_ok (s : Wd) (n : Int) (w : World) (hs : Small s) (hn : n ≤ 1152921504606846976) : Calls Try.prog 19 #[wval s, .int .i64 n] w fun e w' => e = .returned (toldW (creditW s n)) ∧ Keeps nobody w w' := by
  obtain ⟨a, b, c⟩ := s
  obtain ⟨l0, l1, s0, s1, o0, o1⟩ := hs
  simp only at l0 l1 s0 s1 o0 o1
  have hm0 : ∀ ts t W, (Builtin.max_ ts t #[.int .i64 n, .int .i64 0]).run Try.prog W = .ok (.int .i64 (max n 0)) W := fun ts t W => by rw [run_max_int2]; rw [show (if 0 > n then (0 : Int) else n) = max n 0 by split <;> omega]
  have hq : b.tdiv 2 = b / 2 := Int.tdiv_eq_ediv_of_nonneg s0
  have hm1 : ∀ ts t W, (Builtin.max_ ts t #[.int .i64 (b / 2), .int .i64 1]).run Try.prog W = .ok (.int .i64 (halfW b)) W := fun ts t W => by rw [run_max_int2]; unfold halfW; rw [show (if 1 > b / 2 then (1 : Int) else b / 2) = max (b / 2) 1 by split <;> omega]
  have hb0 : 0 ≤ b / 2 := by omega
  have hb1 : b / 2 ≤ 1073741823 := by omega
  have e : creditW ⟨a, b, c⟩ n = if c + max n 0 < halfW b then (⟨a, b, c + max n 0⟩, 0) else (⟨a + (c + max n 0), b, 0⟩, c + max n 0) := rfl
  have hx0 : 0 ≤ max n 0 := by omega
  have hx1 : max n 0 ≤ 1152921504606846976 := by omega
  rw [e]
  clear e
  generalize max n 0 = x at *
  generalize halfW b = h at *
  generalize b / 2 = q at *
  by_cases hh : c + x < h
  · rw [if_pos hh]
    go_enter Try.func19, Try.ntmps19
    go_wp2
    exact bodyPost_ret (v := toldW (⟨a, b, c + x⟩, 0)) (by simp [results, Try.results19, go_sem]) rfl ⟨rfl, ((Keeps.refl _ _).alloc _).alloc _⟩
  · rw [if_neg hh]
    go_enter Try.func19, Try.ntmps19
    go_wp2
    exact bodyPost_ret (v := toldW (⟨a + (c + x), b, 0⟩, c + x)) (by simp [results, Try.results19, go_sem]) rfl ⟨rfl, ((Keeps.refl _ _).alloc _).alloc _⟩
end Go.Proofs.Ytbhjkgipidkfgaa
