/-
  The law PingGone, walked.
-/
import Derived.Test.YtfgbijhmhanpeaaOLive
import Derived.Deep.DeepCutAuto
namespace Go.Proofs.Ytfgbijhmhanpeaa
open Go.RowKit
attribute [local irreducible] nums str bodyB

/-- What is known behind k ticks with no ping under way; with the first one under way. -/
def quietH (every wait k : Nat) : He := ⟨every, wait, every - k, 0, false⟩
def waitH (every wait k : Nat) : He := ⟨every, wait, wait - k, 1, true⟩
theorem quiet_start (every wait : Nat) : newH every wait = quietH every wait 0 := rfl
theorem quiet_less (every wait k : Nat) (h : k + 1 < every) : tickH (quietH every wait k) = (quietH every wait (k + 1), ⟨#[]⟩, false) := by
  simp only [tickH, quietH]
  simp [show 0 < every - k - 1 by omega]
  omega
theorem quiet_full (every wait k : Nat) (h : ¬ k + 1 < every) : tickH (quietH every wait k) = (waitH every wait 0, bodyB 1, false) := by
  simp only [tickH, quietH, waitH]
  simp [show every - k - 1 = 0 by omega]
theorem wait_less (every wait k : Nat) (h : k + 1 < wait) : tickH (waitH every wait k) = (waitH every wait (k + 1), ⟨#[]⟩, false) := by
  simp only [tickH, waitH]
  simp [show 0 < wait - k - 1 by omega]
  omega
theorem wait_full (every wait k : Nat) (h : ¬ k + 1 < wait) : tickH (waitH every wait k) = (waitH every wait wait, ⟨#[]⟩, true) := by
  simp only [tickH, waitH]
  simp [show wait - k - 1 = 0 by omega]
theorem wait_back (every wait k : Nat) (h : k < wait) : gotH (waitH every wait k) (bodyB 1) = (⟨every, wait, every, 1, false⟩, true) := by
  simp only [gotH, waitH]
  simp [show wait - k ≠ 0 by omega]
theorem wait_gone (every wait : Nat) : gotH (waitH every wait wait) (bodyB 1) = (waitH every wait wait, false) := by
  simp [gotH, waitH]
theorem back_no (every wait : Nat) (b : ByteArray) : gotH ⟨every, wait, every, 1, false⟩ b = (⟨every, wait, every, 1, false⟩, false) := by
  simp [gotH]
theorem quiet_fit (every wait k : Nat) (h1 : 1 ≤ every) (h2 : every ≤ 100) (h3 : wait ≤ 100) : Fit (quietH every wait k) :=
  ⟨h1, by show every ≤ _; omega, by show wait ≤ _; omega, by show every - k ≤ _; omega, by show 0 ≤ _; omega⟩
theorem wait_fit (every wait k : Nat) (h1 : 1 ≤ every) (h2 : every ≤ 100) (h3 : wait ≤ 100) : Fit (waitH every wait k) :=
  ⟨h1, by show every ≤ _; omega, by show wait ≤ _; omega, by show wait - k ≤ _; omega, by show 1 ≤ _; omega⟩
theorem back_fit (every wait : Nat) (h1 : 1 ≤ every) (h2 : every ≤ 100) (h3 : wait ≤ 100) : Fit ⟨every, wait, every, 1, false⟩ :=
  ⟨h1, by show every ≤ _; omega, by show wait ≤ _; omega, by show every ≤ _; omega, by show 1 ≤ _; omega⟩
attribute [local irreducible] quietH waitH tickH gotH newH
set_option maxRecDepth 100000 in
theorem gone_off (a b n : Int) (w : World) (h : a < 1 ∨ b < 1 ∨ 100 < a ∨ 100 < b ∨ n < 0 ∨ 100 < n) : Calls Try.prog 4 #[.int .i64 a, .int .i64 b, .int .i64 n] w (Fine w) := by
  have HA : Hid (∀ W, Calls Try.prog 8 #[] W fun e w' => e = .returned (.bool true) ∧ Keeps nobody W w') := alive_ok
  by_cases q0 : a < 1
  · clear h
    go_enter Try.func4, Try.ntmps4
    go_wp2_with fail
    refine Calls.mono (HA.out _) ?_
    rintro e w1 ⟨rfl, k1⟩
    go_wp2
    go_ret
    exact ⟨rfl, below_of_keeps k1⟩
  · have p0 : 1 ≤ a := by omega
    by_cases q1 : b < 1
    · clear h
      go_enter Try.func4, Try.ntmps4
      go_wp2_with fail
      refine Calls.mono (HA.out _) ?_
      rintro e w1 ⟨rfl, k1⟩
      go_wp2
      go_ret
      exact ⟨rfl, below_of_keeps k1⟩
    · have p1 : 1 ≤ b := by omega
      by_cases q2 : 100 < a
      · clear h
        go_enter Try.func4, Try.ntmps4
        go_wp2_with fail
        refine Calls.mono (HA.out _) ?_
        rintro e w1 ⟨rfl, k1⟩
        go_wp2
        go_ret
        exact ⟨rfl, below_of_keeps k1⟩
      · have p2 : a ≤ 100 := by omega
        by_cases q3 : 100 < b
        · clear h
          go_enter Try.func4, Try.ntmps4
          go_wp2_with fail
          refine Calls.mono (HA.out _) ?_
          rintro e w1 ⟨rfl, k1⟩
          go_wp2
          go_ret
          exact ⟨rfl, below_of_keeps k1⟩
        · have p3 : b ≤ 100 := by omega
          by_cases q4 : n < 0
          · clear h
            go_enter Try.func4, Try.ntmps4
            go_wp2_with fail
            refine Calls.mono (HA.out _) ?_
            rintro e w1 ⟨rfl, k1⟩
            go_wp2
            go_ret
            exact ⟨rfl, below_of_keeps k1⟩
          · have p4 : 0 ≤ n := by omega
            have q5 : 100 < n := by omega
            clear h q0 q1 q2 q3 q4
            go_enter Try.func4, Try.ntmps4
            go_wp2_with fail
            refine Calls.mono (HA.out _) ?_
            rintro e w1 ⟨rfl, k1⟩
            go_wp2
            go_ret
            exact ⟨rfl, below_of_keeps k1⟩
set_option maxRecDepth 100000 in
set_option maxHeartbeats 4000000 in
theorem gone_main (every wait at_ : Nat) (w : World) (h1 : 1 ≤ every) (h2 : every ≤ 100) (h3 : 1 ≤ wait) (h4 : wait ≤ 100) (h5 : at_ ≤ 100) : Calls Try.prog 4 #[.int .i64 (every : Int), .int .i64 (wait : Int), .int .i64 (at_ : Int)] w (Fine w) := by
  have HA : Hid (∀ W, Calls Try.prog 8 #[] W fun e w' => e = .returned (.bool true) ∧ Keeps nobody W w') := alive_ok
  have HN : Hid (∀ W, Hold w W [] → Calls Try.prog 9 #[.int .i64 (every : Int), .int .i64 (wait : Int)] W fun e w' => ∃ g, e = .returned (.pointer (some ⟨g, 0, none⟩)) ∧ Hid (Hold w w' [heT g (newH every wait)])) := fun W H => t_new H every wait h1 h3
  have HT : Hid (∀ W g h r s o, Hold w W [heT g h] → Fit h → tickH h = (r, s, o) → Calls Try.prog 10 #[.pointer (some ⟨g, 0, none⟩)] W fun e w' => e = .returned (.tuple #[.string s, .bool o]) ∧ Hid (Hold w w' [heT g r])) := fun W g h r s o H F hr => t_tick H F hr
  have HG : Hid (∀ W g h b r o, Hold w W [heT g h] → Fit h → gotH h b = (r, o) → Calls Try.prog 11 #[.pointer (some ⟨g, 0, none⟩), .string b] W fun e w' => e = .returned (.bool o) ∧ Hid (Hold w w' [heT g r])) := fun W g h b r o H F hr => t_got H F b hr
  have HW : Hid (∀ W g, Hold w W [heT g ⟨every, wait, every, 1, false⟩] → Calls Try.prog 12 #[.pointer (some ⟨g, 0, none⟩)] W fun e w' => e = .returned (.bool false) ∧ w' = W) := fun W g H => t_waits H h1
  have hne := bodyB_some 1
  go_enter Try.func4, Try.ntmps4
  go_wp2_with fail
  refine Calls.mono (HA.out _) ?_
  rintro e w0 ⟨rfl, k0⟩
  have H0 := hid ((hold_start w).quiet k0)
  clear HA k0
  go_wp2_with fail
  refine Calls.mono (HN.out _ H0.out) ?_
  rintro e w1 ⟨g, rfl, H1⟩
  rw [quiet_start] at H1
  clear H0 HN
  go_wp2_with fail
  go_loopg [8, 9] every (fun k bv iv wr => ∃ (j : Nat) (B : ByteArray), bv = .string B ∧ iv = .int .i64 ((j : Int) + 1) ∧ k + j = every ∧ Hid ((j < every ∧ Hold w wr [heT g (quietH every wait j)]) ∨ (j = every ∧ B = bodyB 1 ∧ Hold w wr [heT g (waitH every wait 0)])))
  case atStart => exact ⟨0, ⟨#[]⟩, rfl, rfl, rfl, .inl ⟨by omega, H1.out⟩⟩
  case round =>
    clear H1
    obtain ⟨j, B, rfl, rfl, hk, HJ⟩ := hrel
    by_cases hj : j < every
    · have HK := hid hk
      have HJ2 : Hid (Hold w wr [heT g (quietH every wait j)]) := by
        rcases HJ.out with h | h
        · exact h.2
        · omega
      clear hk HJ
      by_cases hl : j + 1 < every
      · have HT2 := hid (HT.out wr g _ _ _ _ HJ2.out (quiet_fit every wait j h1 h2 h4) (quiet_less every wait j hl))
        have q1 : (((j : Int) + 1) == (every : Int)) = false := by simp; omega
        clear HT HG HW HJ2
        go_wp2_with fail
        refine Calls.mono HT2.out ?_
        rintro e w3 ⟨rfl, H3⟩
        go_wp2
        have hk := HK.out
        go_roundg (gk - 1)
        case measure => omega
        case rel => exact ⟨j + 1, ⟨#[]⟩, rfl, by simp, by omega, .inl ⟨by omega, H3.out⟩⟩
      · have HT2 := hid (HT.out wr g _ _ _ _ HJ2.out (quiet_fit every wait j h1 h2 h4) (quiet_full every wait j hl))
        have q1 : (((j : Int) + 1) == (every : Int)) = true := by simp; omega
        have HBB : Hid (∃ C, C = bodyB 1) := ⟨_, rfl⟩
        obtain ⟨C, hC⟩ := HBB.out
        rw [← hC] at HT2 hne
        have HC := hid hC
        clear HT HG HW HJ2 hC HBB
        go_wp2_with fail
        refine Calls.mono HT2.out ?_
        rintro e w3 ⟨rfl, H3⟩
        go_wp2
        have hk := HK.out
        go_roundg (gk - 1)
        case measure => omega
        case rel => exact ⟨j + 1, C, rfl, by simp, by omega, .inr ⟨by omega, HC.out, H3.out⟩⟩
    · have HJ2 : Hid (B = bodyB 1 ∧ Hold w wr [heT g (waitH every wait 0)]) := by
        rcases HJ.out with h | h
        · omega
        · exact h.2
      have hjl : (every : Int) < (j : Int) + 1 := by omega
      clear HJ hk
      have HB := hid HJ2.out.1
      have H2 := hid HJ2.out.2
      clear HJ2
      go_wp2_with fail
      go_loopg [12] wait (fun k iv wr => ∃ j : Nat, iv = .int .i64 ((j : Int) + 1) ∧ k + j = wait ∧ Hid (Hold w wr [heT g (waitH every wait j)]))
      case atStart => exact ⟨0, rfl, rfl, H2⟩
      case round =>
        clear H2 hj hjl
        obtain ⟨j, rfl, hk, HJ⟩ := hrel
        by_cases hj : j < wait
        · have HK := hid hk
          clear hk
          by_cases ha : j + 1 = at_
          · have HG1 := hid (HG.out wr g _ B ⟨every, wait, every, 1, false⟩ true HJ.out (wait_fit every wait j h1 h2 h4) (by rw [HB.out]; exact wait_back every wait j hj))
            have HG3 := hid (fun W H => HG.out W g _ B _ _ H (back_fit every wait h1 h2 h4) (back_no every wait B))
            have ha' : (((j : Int) + 1) == (at_ : Int)) = true := by simp; omega
            clear HT HG
            go_wp2_with fail
            refine Calls.mono HG1.out ?_
            rintro e w3 ⟨rfl, H3⟩
            go_wp2_with fail
            refine Calls.mono (HW.out _ _ H3.out) ?_
            rintro e w4 ⟨rfl, rfl⟩
            go_wp2_with fail
            refine Calls.mono (HG3.out _ H3.out) ?_
            rintro e w5 ⟨rfl, H5⟩
            go_wp2
            go_ret
            exact ⟨rfl, H5.out.below⟩
          · have ha' : (((j : Int) + 1) == (at_ : Int)) = false := by simp; omega
            clear ha
            by_cases hl : j + 1 < wait
            · have HT2 := hid (HT.out wr g _ _ _ _ HJ.out (wait_fit every wait j h1 h2 h4) (wait_less every wait j hl))
              have q1 : (((j : Int) + 1) == (wait : Int)) = false := by simp; omega
              clear HT HG HW
              go_wp2_with fail
              refine Calls.mono HT2.out ?_
              rintro e w3 ⟨rfl, H3⟩

              go_wp2
              have hk := HK.out
              go_roundg (gk - 1)
              case measure => omega
              case rel => exact ⟨j + 1, by simp, by omega, H3⟩
            · have HT2 := hid (HT.out wr g _ _ _ _ HJ.out (wait_fit every wait j h1 h2 h4) (wait_full every wait j hl))
              have q1 : (((j : Int) + 1) == (wait : Int)) = true := by simp; omega
              have hjw : j + 1 = wait := by omega
              clear HT HG HW
              go_wp2_with fail
              refine Calls.mono HT2.out ?_
              rintro e w3 ⟨rfl, H3⟩
              go_wp2
              have hk := HK.out
              go_roundg (gk - 1)
              case measure => omega
              case rel => exact ⟨j + 1, by simp, by omega, by rw [hjw]; exact H3⟩
        · have hjw : j = wait := by omega
          subst hjw
          have HT2 := hid (HT.out wr g _ _ _ _ HJ.out (wait_fit every j j h1 h2 h4) (wait_full every j j (by omega)))
          have HG2 := hid (fun W H => HG.out W g _ B (waitH every j j) false H (wait_fit every j j h1 h2 h4) (by rw [HB.out]; exact wait_gone every j))
          clear HT HG HW hk hj
          go_wp2_with fail
          refine Calls.mono HT2.out ?_
          rintro e w3 ⟨rfl, H3⟩
          go_wp2_with fail
          refine Calls.mono (HG2.out _ H3.out) ?_
          rintro e w4 ⟨rfl, H4⟩
          go_wp2
          go_ret
          exact ⟨rfl, H4.out.below⟩
theorem gone_walk (a b n : Int) (w : World) : Calls Try.prog 4 #[.int .i64 a, .int .i64 b, .int .i64 n] w (Fine w) := by
  by_cases h : a < 1 ∨ b < 1 ∨ 100 < a ∨ 100 < b ∨ n < 0 ∨ 100 < n
  · exact gone_off a b n w h
  · obtain ⟨a, rfl⟩ := Int.eq_ofNat_of_zero_le (show 0 ≤ a by omega)
    obtain ⟨b, rfl⟩ := Int.eq_ofNat_of_zero_le (show 0 ≤ b by omega)
    obtain ⟨n, rfl⟩ := Int.eq_ofNat_of_zero_le (show 0 ≤ n by omega)
    exact gone_main a b n w (by omega) (by omega) (by omega) (by omega) (by omega)
end Go.Proofs.Ytfgbijhmhanpeaa
