/-
  The law PingSteady, walked.
-/
import Derived.Test.YtfgbijhmhanpeaaOLive
import Derived.Deep.DeepCutAuto
namespace Go.Proofs.Ytfgbijhmhanpeaa
open Go.RowKit
attribute [local irreducible] nums str bodyB

/-- What is known behind k ticks, each ping answered at once. -/
def steadyH (every wait k : Nat) : He := ⟨every, wait, every - k % every, k / every, false⟩
theorem steady_start (every wait : Nat) : newH every wait = steadyH every wait 0 := by simp [newH, steadyH]
theorem div_mod_of {m n q r : Nat} (h : n = m * q + r) (hr : r < m) : n / m = q ∧ n % m = r := by
  subst h
  exact ⟨by rw [Nat.mul_add_div (by omega), Nat.div_eq_of_lt hr, Nat.add_zero], by rw [Nat.mul_add_mod, Nat.mod_eq_of_lt hr]⟩
theorem steady_less (every wait k : Nat) (h : k % every + 1 < every) : tickH (steadyH every wait k) = (steadyH every wait (k + 1), ⟨#[]⟩, false) := by
  have e1 : every * (k / every) + k % every = k := Nat.div_add_mod k every
  obtain ⟨e3, e2⟩ := div_mod_of (n := k + 1) (m := every) (q := k / every) (r := k % every + 1) (by omega) h
  have h1 : 0 < every - k % every - 1 := by omega
  simp only [tickH, steadyH, e2, e3]
  simp [h1]
  omega
theorem steady_full (every wait k : Nat) (h : ¬ k % every + 1 < every) : tickH (steadyH every wait k) = (⟨every, wait, wait, k / every + 1, true⟩, bodyB (k / every + 1), false) := by
  have h2 : every - k % every - 1 = 0 := by omega
  simp [tickH, steadyH, h2]
theorem steady_back (every wait k : Nat) (h1 : 1 ≤ every) (hw : 1 ≤ wait) (h : ¬ k % every + 1 < every) : gotH ⟨every, wait, wait, k / every + 1, true⟩ (bodyB (k / every + 1)) = (steadyH every wait (k + 1), true) := by
  have hm := Nat.mod_lt k (show 0 < every by omega)
  have e1 : every * (k / every) + k % every = k := Nat.div_add_mod k every
  obtain ⟨e3, e2⟩ := div_mod_of (n := k + 1) (m := every) (q := k / every + 1) (r := 0) (by rw [Nat.mul_add, Nat.mul_one]; omega) (by omega)
  simp [gotH, steadyH, e2, e3, show wait ≠ 0 by omega]
attribute [local irreducible] steadyH tickH gotH newH
set_option maxRecDepth 100000 in
theorem steady_off (a b n : Int) (w : World) (h : a < 1 ∨ b < 1 ∨ 20 < a ∨ 20 < b ∨ n < 0 ∨ 300 < n) : Calls Try.prog 7 #[.int .i64 a, .int .i64 b, .int .i64 n] w (Fine w) := by
  have HA : Hid (∀ W, Calls Try.prog 8 #[] W fun e w' => e = .returned (.bool true) ∧ Keeps nobody W w') := alive_ok
  by_cases q0 : a < 1
  · clear h
    go_enter Try.func7, Try.ntmps7
    go_wp2_with fail
    refine Calls.mono (HA.out _) ?_
    rintro e w1 ⟨rfl, k1⟩
    go_wp2
    go_ret
    exact ⟨rfl, below_of_keeps k1⟩
  · have p0 : 1 ≤ a := by omega
    by_cases q1 : b < 1
    · clear h
      go_enter Try.func7, Try.ntmps7
      go_wp2_with fail
      refine Calls.mono (HA.out _) ?_
      rintro e w1 ⟨rfl, k1⟩
      go_wp2
      go_ret
      exact ⟨rfl, below_of_keeps k1⟩
    · have p1 : 1 ≤ b := by omega
      by_cases q2 : 20 < a
      · clear h
        go_enter Try.func7, Try.ntmps7
        go_wp2_with fail
        refine Calls.mono (HA.out _) ?_
        rintro e w1 ⟨rfl, k1⟩
        go_wp2
        go_ret
        exact ⟨rfl, below_of_keeps k1⟩
      · have p2 : a ≤ 20 := by omega
        by_cases q3 : 20 < b
        · clear h
          go_enter Try.func7, Try.ntmps7
          go_wp2_with fail
          refine Calls.mono (HA.out _) ?_
          rintro e w1 ⟨rfl, k1⟩
          go_wp2
          go_ret
          exact ⟨rfl, below_of_keeps k1⟩
        · have p3 : b ≤ 20 := by omega
          by_cases q4 : n < 0
          · clear h
            go_enter Try.func7, Try.ntmps7
            go_wp2_with fail
            refine Calls.mono (HA.out _) ?_
            rintro e w1 ⟨rfl, k1⟩
            go_wp2
            go_ret
            exact ⟨rfl, below_of_keeps k1⟩
          · have p4 : 0 ≤ n := by omega
            have q5 : 300 < n := by omega
            clear h q0 q1 q2 q3 q4
            go_enter Try.func7, Try.ntmps7
            go_wp2_with fail
            refine Calls.mono (HA.out _) ?_
            rintro e w1 ⟨rfl, k1⟩
            go_wp2
            go_ret
            exact ⟨rfl, below_of_keeps k1⟩
theorem steady_fit (every wait k : Nat) (h1 : 1 ≤ every) (h2 : every ≤ 20) (h3 : wait ≤ 20) (hk : k ≤ 300) : Fit (steadyH every wait k) ∧ (steadyH every wait k).every = every ∧ (steadyH every wait k).sent = k / every ∧ (steadyH every wait k).waits = false := by
  have hd := Nat.div_le_self k every
  unfold steadyH
  exact ⟨⟨h1, by show every ≤ _; omega, by show wait ≤ _; omega, by show every - k % every ≤ _; omega, by show k / every ≤ _; omega⟩, rfl, rfl, rfl⟩
set_option maxRecDepth 100000 in
set_option maxHeartbeats 4000000 in
theorem steady_main (every wait n : Nat) (w : World) (h1 : 1 ≤ every) (h2 : every ≤ 20) (h3 : 1 ≤ wait) (h4 : wait ≤ 20) (h5 : n ≤ 300) : Calls Try.prog 7 #[.int .i64 (every : Int), .int .i64 (wait : Int), .int .i64 (n : Int)] w (Fine w) := by
  have HA : Hid (∀ W, Calls Try.prog 8 #[] W fun e w' => e = .returned (.bool true) ∧ Keeps nobody W w') := alive_ok
  have HN : Hid (∀ W, Hold w W [] → Calls Try.prog 9 #[.int .i64 (every : Int), .int .i64 (wait : Int)] W fun e w' => ∃ g, e = .returned (.pointer (some ⟨g, 0, none⟩)) ∧ Hid (Hold w w' [heT g (newH every wait)])) := fun W H => t_new H every wait h1 h3
  have HT : Hid (∀ W g h r s o, Hold w W [heT g h] → Fit h → tickH h = (r, s, o) → Calls Try.prog 10 #[.pointer (some ⟨g, 0, none⟩)] W fun e w' => e = .returned (.tuple #[.string s, .bool o]) ∧ Hid (Hold w w' [heT g r])) := fun W g h r s o H F hr => t_tick H F hr
  have HG : Hid (∀ W g h b r o, Hold w W [heT g h] → Fit h → gotH h b = (r, o) → Calls Try.prog 11 #[.pointer (some ⟨g, 0, none⟩), .string b] W fun e w' => e = .returned (.bool o) ∧ Hid (Hold w w' [heT g r])) := fun W g h b r o H F hr => t_got H F b hr
  have HW : Hid (∀ W g h, Hold w W [heT g h] → 1 ≤ h.every → Calls Try.prog 12 #[.pointer (some ⟨g, 0, none⟩)] W fun e w' => e = .returned (.bool h.waits) ∧ w' = W) := fun W g h H h1 => t_waits H h1
  have HS : Hid (∀ W g h, Hold w W [heT g h] → 1 ≤ h.every → Calls Try.prog 13 #[.pointer (some ⟨g, 0, none⟩)] W fun e w' => e = .returned (.int .i64 (h.sent : Int)) ∧ w' = W) := fun W g h H h1 => t_sent H h1
  go_enter Try.func7, Try.ntmps7
  go_wp2_with fail
  refine Calls.mono (HA.out _) ?_
  rintro e w0 ⟨rfl, k0⟩
  have H0 := hid ((hold_start w).quiet k0)
  clear HA k0
  go_wp2_with fail
  refine Calls.mono (HN.out _ H0.out) ?_
  rintro e w1 ⟨g, rfl, H1⟩
  rw [steady_start] at H1
  clear H0 HN
  go_wp2_with fail
  go_loopg [8] n (fun k iv wr => ∃ j : Nat, iv = .int .i64 (j : Int) ∧ k + j = n ∧ Hid (Hold w wr [heT g (steadyH every wait j)]))
  case atStart => exact ⟨0, rfl, rfl, H1⟩
  case round =>
    clear H1
    obtain ⟨j, rfl, hk, HJ⟩ := hrel
    by_cases hj : j < n
    · have hf := steady_fit every wait j h1 h2 h4 (by omega)
      have HK := hid hk
      clear hk
      by_cases hl : j % every + 1 < every
      · have HT2 := hid (HT.out wr g _ _ _ _ HJ.out hf.1 (steady_less every wait j hl))
        clear HT HG HW HS hf hl
        go_wp2_with fail
        refine Calls.mono HT2.out ?_
        rintro e w3 ⟨rfl, H3⟩
        go_wp2
        have hk := HK.out
        go_roundg (gk - 1)
        case measure => omega
        case rel => exact ⟨j + 1, by simp, by omega, H3⟩
      · have HT2 := hid (HT.out wr g _ _ _ _ HJ.out hf.1 (steady_full every wait j hl))
        have hs : j / every ≤ 300 := by have := Nat.div_le_self j every; omega
        have HG2 := hid (fun W H => HG.out W g _ _ _ _ H ⟨h1, by show every ≤ _; omega, by show wait ≤ _; omega, by show wait ≤ _; omega, by show j / every + 1 ≤ _; omega⟩ (steady_back every wait j h1 h3 hl))
        have hne := bodyB_some (j / every + 1)
        clear HT HG HW HS hf hl hs HJ
        generalize bodyB (j / every + 1) = B at *
        go_wp2_with fail
        refine Calls.mono HT2.out ?_
        rintro e w3 ⟨rfl, H3⟩
        go_wp2_with fail
        refine Calls.mono (HG2.out _ H3.out) ?_
        rintro e w4 ⟨rfl, H4⟩
        go_wp2
        have hk := HK.out
        go_roundg (gk - 1)
        case measure => omega
        case rel => exact ⟨j + 1, by simp, by omega, H4⟩
    · obtain rfl : j = n := by omega
      obtain ⟨hf, he, hs, hw⟩ := steady_fit every wait j h1 h2 h4 (by omega)
      have hH := hid (fun m => HS.out (wr.drewN m) g _ (HJ.out.quiet ((Keeps.refl _ _).drewN m)) (by rw [he]; exact h1))
      have hO := hid (fun m => HW.out (wr.drewN m) g _ (HJ.out.quiet ((Keeps.refl _ _).drewN m)) (by rw [he]; exact h1))
      rw [hs] at hH
      rw [hw] at hO
      have hq : (j : Int).tdiv (every : Int) = ((j / every : Nat) : Int) := by rw [Int.tdiv_eq_ediv_of_nonneg (by omega)]; simp
      have hle : j / every ≤ 300 := by have := Nat.div_le_self j every; omega
      have hne : (every : Int) ≠ 0 := by omega
      clear HT HG HW HS hf he hs hw hj hk
      generalize j / every = q at *
      go_wp2_with fail
      go_quiet (first | (go_at_call 13; exact Calls.quiet_of_same (hH.out _)) | (go_at_call 12; exact Calls.quiet_of_same (hO.out _)))
      go_wp2
      go_ret
      exact ⟨rfl, (HJ.out.quiet ((Keeps.refl _ _).drewN _)).below⟩
theorem steady_walk (a b n : Int) (w : World) : Calls Try.prog 7 #[.int .i64 a, .int .i64 b, .int .i64 n] w (Fine w) := by
  by_cases h : a < 1 ∨ b < 1 ∨ 20 < a ∨ 20 < b ∨ n < 0 ∨ 300 < n
  · exact steady_off a b n w h
  · obtain ⟨a, rfl⟩ := Int.eq_ofNat_of_zero_le (show 0 ≤ a by omega)
    obtain ⟨b, rfl⟩ := Int.eq_ofNat_of_zero_le (show 0 ≤ b by omega)
    obtain ⟨n, rfl⟩ := Int.eq_ofNat_of_zero_le (show 0 ≤ n by omega)
    exact steady_main a b n w (by omega) (by omega) (by omega) (by omega) (by omega)
end Go.Proofs.Ytfgbijhmhanpeaa
