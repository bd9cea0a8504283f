/-
  The law PingNumbers, walked.
-/
import Derived.Test.YtfgbijhmhanpeaaOLive
import Derived.Deep.DeepCutAuto
namespace Go.Proofs.Ytfgbijhmhanpeaa
open Go.RowKit
attribute [local irreducible] nums str bodyB

/-- i ticks behind the answer of ping j; ping j is under way. -/
def partH (every i j : Nat) : He := ⟨every, 5, every - i, j, false⟩
def sentH (every j : Nat) : He := ⟨every, 5, 5, j, true⟩
theorem part_start (every : Nat) : newH every 5 = partH every 0 0 := rfl
theorem part_less (every i j : Nat) (h : i + 1 < every) : tickH (partH every i j) = (partH every (i + 1) j, ⟨#[]⟩, false) := by
  simp only [tickH, partH]
  simp [show 0 < every - i - 1 by omega]
  omega
theorem part_full (every i j : Nat) (h : ¬ i + 1 < every) : tickH (partH every i j) = (sentH every (j + 1), bodyB (j + 1), false) := by
  simp only [tickH, partH, sentH]
  simp [show every - i - 1 = 0 by omega]
theorem sent_old (every j : Nat) (h : j ≤ 300) : gotH (sentH every (j + 1)) (bodyB j) = (sentH every (j + 1), false) := by
  have : bodyB j ≠ bodyB (j + 1) := fun e => by
    have := bodyB_inj (by omega) (by omega) e
    omega
  simp [gotH, sentH, this]
theorem sent_back (every j : Nat) : gotH (sentH every j) (bodyB j) = (partH every 0 j, true) := by
  simp [gotH, sentH, partH]
theorem part_fit (every i j : Nat) (h1 : 1 ≤ every) (h2 : every ≤ 20) (h3 : j ≤ 400) : Fit (partH every i j) :=
  ⟨h1, by show every ≤ _; omega, by show 5 ≤ _; omega, by show every - i ≤ _; omega, by show j ≤ _; omega⟩
theorem sent_fit (every j : Nat) (h1 : 1 ≤ every) (h2 : every ≤ 20) (h3 : j ≤ 400) : Fit (sentH every j) :=
  ⟨h1, by show every ≤ _; omega, by show 5 ≤ _; omega, by show 5 ≤ _; omega, by show j ≤ _; omega⟩
set_option maxRecDepth 100000 in
theorem numbers_off (a n : Int) (w : World) (h : a < 1 ∨ 20 < a ∨ n < 1 ∨ 300 < n) : Calls Try.prog 5 #[.int .i64 a, .int .i64 n] w (Fine w) := by
  have HA : Hid (∀ W, Calls Try.prog 8 #[] W fun e w' => e = .returned (.bool true) ∧ Keeps nobody W w') := alive_ok
  by_cases q0 : a < 1
  · clear h
    go_enter Try.func5, Try.ntmps5
    go_wp2_with fail
    refine Calls.mono (HA.out _) ?_
    rintro e w1 ⟨rfl, k1⟩
    go_wp2
    go_ret
    exact ⟨rfl, below_of_keeps k1⟩
  · have p0 : 1 ≤ a := by omega
    by_cases q1 : 20 < a
    · clear h
      go_enter Try.func5, Try.ntmps5
      go_wp2_with fail
      refine Calls.mono (HA.out _) ?_
      rintro e w1 ⟨rfl, k1⟩
      go_wp2
      go_ret
      exact ⟨rfl, below_of_keeps k1⟩
    · have p1 : a ≤ 20 := by omega
      by_cases q2 : n < 1
      · clear h
        go_enter Try.func5, Try.ntmps5
        go_wp2_with fail
        refine Calls.mono (HA.out _) ?_
        rintro e w1 ⟨rfl, k1⟩
        go_wp2
        go_ret
        exact ⟨rfl, below_of_keeps k1⟩
      · have p2 : 1 ≤ n := by omega
        have q3 : 300 < n := by omega
        clear h q0 q1 q2
        go_enter Try.func5, Try.ntmps5
        go_wp2_with fail
        refine Calls.mono (HA.out _) ?_
        rintro e w1 ⟨rfl, k1⟩
        go_wp2
        go_ret
        exact ⟨rfl, below_of_keeps k1⟩
/-- What was told last. -/
def lastB (j : Nat) : ByteArray := if j = 0 then ⟨#[]⟩ else bodyB j
theorem last_zero : lastB 0 = ⟨#[]⟩ := rfl
theorem last_some (j : Nat) : lastB (j + 1) = bodyB (j + 1) := rfl
theorem last_pos (j : Nat) (h : j ≠ 0) : lastB j = bodyB j := if_neg h
theorem t_part {W w : World} {g every i j : Nat} (H : Hold W w [heT g (partH every i j)]) (h1 : 1 ≤ every) : Calls Try.prog 12 #[.pointer (some ⟨g, 0, none⟩)] w fun e w' => e = .returned (.bool false) ∧ w' = w := t_waits H h1
theorem t_under {W w : World} {g every j : Nat} (H : Hold W w [heT g (sentH every j)]) (h1 : 1 ≤ every) : Calls Try.prog 12 #[.pointer (some ⟨g, 0, none⟩)] w fun e w' => e = .returned (.bool true) ∧ w' = w := t_waits H h1
theorem t_count {W w : World} {g every j : Nat} (H : Hold W w [heT g (sentH every (j + 1))]) (h1 : 1 ≤ every) : Calls Try.prog 13 #[.pointer (some ⟨g, 0, none⟩)] w fun e w' => e = .returned (.int .i64 ((j : Int) + 1)) ∧ w' = w := t_sent H h1
theorem big_told (W : World) (j : Nat) (hj : j ≤ 400) : Calls Try.prog 16 #[.int .i64 ((j : Int) + 1), .int .i64 8] W fun e w' => e = .returned (.string (bodyB (j + 1))) ∧ Keeps nobody W w' := by
  have := big_ok (j + 1) 8 W (by omega) (by decide) (by decide)
  unfold bodyB
  rw [show ((j + 1 : Nat) : Int) = (j : Int) + 1 by omega] at this
  exact this
attribute [local irreducible] partH sentH tickH gotH newH lastB
set_option maxRecDepth 100000 in
set_option maxHeartbeats 4000000 in
theorem numbers_main (every n : Nat) (w : World) (h1 : 1 ≤ every) (h2 : every ≤ 20) (h3 : 1 ≤ n) (h4 : n ≤ 300) : Calls Try.prog 5 #[.int .i64 (every : Int), .int .i64 (n : Int)] w (Fine w) := by
  have HA : Hid (∀ W, Calls Try.prog 8 #[] W fun e w' => e = .returned (.bool true) ∧ Keeps nobody W w') := alive_ok
  have HN : Hid (∀ W, Hold w W [] → Calls Try.prog 9 #[.int .i64 (every : Int), .int .i64 5] W fun e w' => ∃ g, e = .returned (.pointer (some ⟨g, 0, none⟩)) ∧ Hid (Hold w w' [heT g (newH every 5)])) := fun W H => t_new H every 5 h1 (by decide)
  have HT : Hid (∀ W g h r s o, Hold w W [heT g h] → Fit h → tickH h = (r, s, o) → Calls Try.prog 10 #[.pointer (some ⟨g, 0, none⟩)] W fun e w' => e = .returned (.tuple #[.string s, .bool o]) ∧ Hid (Hold w w' [heT g r])) := fun W g h r s o H F hr => t_tick H F hr
  have HG : Hid (∀ W g h b r o, Hold w W [heT g h] → Fit h → gotH h b = (r, o) → Calls Try.prog 11 #[.pointer (some ⟨g, 0, none⟩), .string b] W fun e w' => e = .returned (.bool o) ∧ Hid (Hold w w' [heT g r])) := fun W g h b r o H F hr => t_got H F b hr
  have HW : Hid (∀ W g i j, Hold w W [heT g (partH every i j)] → Calls Try.prog 12 #[.pointer (some ⟨g, 0, none⟩)] W fun e w' => e = .returned (.bool false) ∧ w' = W) := fun W g i j H => t_part H h1
  have HU : Hid (∀ W g j, Hold w W [heT g (sentH every j)] → Calls Try.prog 12 #[.pointer (some ⟨g, 0, none⟩)] W fun e w' => e = .returned (.bool true) ∧ w' = W) := fun W g j H => t_under H h1
  have HS : Hid (∀ W g j, Hold w W [heT g (sentH every (j + 1))] → Calls Try.prog 13 #[.pointer (some ⟨g, 0, none⟩)] W fun e w' => e = .returned (.int .i64 ((j : Int) + 1)) ∧ w' = W) := fun W g j H => t_count H h1
  have HB : Hid (∀ W (j : Nat), j ≤ 400 → Calls Try.prog 16 #[.int .i64 ((j : Int) + 1), .int .i64 8] W fun e w' => e = .returned (.string (bodyB (j + 1))) ∧ Keeps nobody W w') := big_told
  go_enter Try.func5, Try.ntmps5
  go_wp2_with fail
  refine Calls.mono (HA.out _) ?_
  rintro e w0 ⟨rfl, k0⟩
  have H0 := hid ((hold_start w).quiet k0)
  clear HA k0
  go_wp2_with fail
  refine Calls.mono (HN.out _ H0.out) ?_
  rintro e w1 ⟨g, rfl, H1⟩
  rw [part_start] at H1
  clear H0 HN
  go_wp2_with fail
  go_loopg [6, 7] n (fun k lv iv wr => ∃ j : Nat, lv = .string (lastB j) ∧ iv = .int .i64 ((j : Int) + 1) ∧ k + j = n ∧ Hid (Hold w wr [heT g (partH every 0 j)]))
  case atStart => exact ⟨0, by rw [last_zero], rfl, rfl, H1⟩
  case round =>
    clear H1
    obtain ⟨j, rfl, rfl, hk, HJ⟩ := hrel
    by_cases hj : j < n
    · have HK := hid hk
      have hj3 : j ≤ 300 := by omega
      have HJN := hid hj
      have hjb : decide ((j : Int) + 1 ≤ (n : Int)) = true := decide_eq_true (by omega)
      clear hk hj
      obtain ⟨wo, hwo⟩ : ∃ wo : World, wo = wr := ⟨_, rfl⟩
      subst hwo
      obtain ⟨go, hgo⟩ : ∃ go : Nat, go = gk := ⟨_, rfl⟩
      subst hgo
      go_wp2_with fail
      go_loopg [8, 9] every (fun k bv iv wr => ∃ (i : Nat) (B : ByteArray), bv = .string B ∧ iv = .int .i64 (i : Int) ∧ k + i = every ∧ Hid ((i < every ∧ B = ⟨#[]⟩ ∧ Hold w wr [heT g (partH every i j)]) ∨ (i = every ∧ B = bodyB (j + 1) ∧ Hold w wr [heT g (sentH every (j + 1))])))
      case atStart => exact ⟨0, ⟨#[]⟩, rfl, rfl, rfl, .inl ⟨by omega, rfl, HJ.out⟩⟩
      case round =>
        clear HJ
        obtain ⟨i, B, rfl, rfl, hki, HI⟩ := hrel
        by_cases hi : i < every
        · have HI2 : Hid (B = ⟨#[]⟩ ∧ Hold w wr [heT g (partH every i j)]) := by
            rcases HI.out with h | h
            · exact h.2
            · omega
          obtain ⟨rfl, H2⟩ := HI2.out
          have H3 := hid H2
          have HKI := hid hki
          clear HI HI2 H2 hki HG HW HU HS HB
          by_cases hl : i + 1 < every
          · have HT2 := hid (HT.out wr g _ _ _ _ H3.out (part_fit every i j h1 h2 (by omega)) (part_less every i j hl))
            clear HT H3
            go_wp2_with fail
            refine Calls.mono HT2.out ?_
            rintro e w3 ⟨rfl, H3⟩
            go_wp2
            have hki := HKI.out
            go_roundg (gk - 1)
            case measure => omega
            case rel => exact ⟨i + 1, ⟨#[]⟩, rfl, by simp, by omega, .inl ⟨by omega, rfl, H3.out⟩⟩
          · have HT2 := hid (HT.out wr g _ _ _ _ H3.out (part_fit every i j h1 h2 (by omega)) (part_full every i j hl))
            obtain ⟨C, hC⟩ : ∃ C, C = bodyB (j + 1) := ⟨_, rfl⟩
            rw [← hC] at HT2
            have HC := hid hC
            clear HT H3 hC
            go_wp2_with fail
            refine Calls.mono HT2.out ?_
            rintro e w3 ⟨rfl, H3⟩
            go_wp2
            have hki := HKI.out
            go_roundg (gk - 1)
            case measure => omega
            case rel => exact ⟨i + 1, C, rfl, by simp, by omega, .inr ⟨by omega, HC.out, H3.out⟩⟩
        · have HI2 : Hid (B = bodyB (j + 1) ∧ Hold w wr [heT g (sentH every (j + 1))]) := by
            rcases HI.out with h | h
            · omega
            · exact h.2
          have H2 := hid HI2.out.2
          have HBE := hid HI2.out.1
          have hi' : (i < every) = False := by simp; omega
          clear HI HI2 hki HT HW
          have HB2 := hid (fun W => HB.out W j (by omega))
          have HG2 := hid (fun W H => HG.out W g (sentH every (j + 1)) B (partH every 0 (j + 1)) true H (sent_fit every (j + 1) h1 h2 (by omega)) (by rw [HBE.out]; exact sent_back every (j + 1)))
          rw [← HBE.out] at HB2
          have z1 : (B.toList == B.toList) = true := beq_list_of_eq rfl
          by_cases h0 : j = 0
          · subst h0
            rw [last_zero]
            clear HG HB
            go_wp2_with fail
            refine Calls.mono (HB2.out _) ?_
            rintro e w3 ⟨rfl, k3⟩
            have H3 := hid (H2.out.quiet k3)
            clear k3 H2
            go_wp2_with fail
            refine Calls.mono (HS.out _ _ _ H3.out) ?_
            rintro e w4 ⟨rfl, rfl⟩
            go_wp2_with fail
            refine Calls.mono (HU.out _ _ _ H3.out) ?_
            rintro e w4 ⟨rfl, rfl⟩
            go_wp2_with fail
            refine Calls.mono (HG2.out _ H3.out) ?_
            rintro e w5 ⟨rfl, H5⟩
            go_wp2
            have hk := HK.out
            have hj := HJN.out
            go_roundg (go - 1)
            case measure => omega
            case rel => exact ⟨1, congrArg Value.string (HBE.out.trans (last_some 0).symm), by simp, by omega, H5⟩
          · obtain ⟨D, hD⟩ : ∃ D, D = lastB j := ⟨_, rfl⟩
            have hD2 : D = bodyB j := hD.trans (last_pos j h0)
            have hDne : D.toList.isEmpty = false := by rw [hD2]; exact bodyB_some j
            have HGD := hid (fun W H => HG.out W g (sentH every (j + 1)) D (sentH every (j + 1)) false H (sent_fit every (j + 1) h1 h2 (by omega)) (by rw [hD2]; exact sent_old every j hj3))
            rw [← hD]
            clear HG HB hD hD2 h0
            go_wp2_with fail
            refine Calls.mono (HB2.out _) ?_
            rintro e w3 ⟨rfl, k3⟩
            have H3 := hid (H2.out.quiet k3)
            clear k3 H2
            go_wp2_with fail
            refine Calls.mono (HS.out _ _ _ H3.out) ?_
            rintro e w4 ⟨rfl, rfl⟩
            go_wp2_with fail
            refine Calls.mono (HGD.out _ H3.out) ?_
            rintro e w4 ⟨rfl, H4⟩
            go_wp2_with fail
            refine Calls.mono (HU.out _ _ _ H4.out) ?_
            rintro e w5 ⟨rfl, rfl⟩
            go_wp2_with fail
            refine Calls.mono (HG2.out _ H4.out) ?_
            rintro e w6 ⟨rfl, H5⟩
            go_wp2
            have hk := HK.out
            have hj := HJN.out
            go_roundg (go - 1)
            case measure => omega
            case rel => exact ⟨j + 1, congrArg Value.string (HBE.out.trans (last_some j).symm), by simp, by omega, H5⟩
    · obtain rfl : j = n := by omega
      clear HT HG HU HS HB
      go_wp2_with fail
      refine Calls.mono (HW.out _ _ _ _ HJ.out) ?_
      rintro e w3 ⟨rfl, rfl⟩
      go_wp2
      go_ret
      exact ⟨rfl, HJ.out.below⟩
theorem numbers_walk (a n : Int) (w : World) : Calls Try.prog 5 #[.int .i64 a, .int .i64 n] w (Fine w) := by
  by_cases h : a < 1 ∨ 20 < a ∨ n < 1 ∨ 300 < n
  · exact numbers_off a n w h
  · obtain ⟨a, rfl⟩ := Int.eq_ofNat_of_zero_le (show 0 ≤ a by omega)
    obtain ⟨n, rfl⟩ := Int.eq_ofNat_of_zero_le (show 0 ≤ n by omega)
    exact numbers_main a n w (by omega) (by omega) (by omega) (by omega)
end Go.Proofs.Ytfgbijhmhanpeaa
