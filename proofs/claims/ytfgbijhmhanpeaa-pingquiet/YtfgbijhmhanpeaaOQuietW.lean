/-
  The law PingQuiet, walked.
-/
import Derived.Test.YtfgbijhmhanpeaaOGoneW
import Derived.Test.YtfgbijhmhanpeaaOOpen
namespace Go.Proofs.Ytfgbijhmhanpeaa
open Go.RowKit
attribute [local irreducible] nums str bodyB

theorem quiet_no (every wait k : Nat) (b : ByteArray) : gotH (quietH every wait k) b = (quietH every wait k, false) := by
  simp [gotH, quietH]
theorem wait_other (every wait k : Nat) (b : ByteArray) (h : b ≠ bodyB 1) : gotH (waitH every wait k) b = (waitH every wait k, false) := by
  simp [gotH, waitH, h]
theorem q_waits {W w : World} {g every wait k : Nat} (H : Hold W w [heT g (quietH every wait k)]) (h1 : 1 ≤ every) : Calls Try.prog 12 #[.pointer (some ⟨g, 0, none⟩)] w fun e w' => e = .returned (.bool false) ∧ w' = w := t_waits H h1
theorem w_waits {W w : World} {g every wait k : Nat} (H : Hold W w [heT g (waitH every wait k)]) (h1 : 1 ≤ every) : Calls Try.prog 12 #[.pointer (some ⟨g, 0, none⟩)] w fun e w' => e = .returned (.bool true) ∧ w' = w := t_waits H h1
theorem w_sent {W w : World} {g every wait k : Nat} (H : Hold W w [heT g (waitH every wait k)]) (h1 : 1 ≤ every) : Calls Try.prog 13 #[.pointer (some ⟨g, 0, none⟩)] w fun e w' => e = .returned (.int .i64 1) ∧ w' = w := t_sent H h1
theorem big_one (W : World) : Calls Try.prog 16 #[.int .i64 1, .int .i64 8] W fun e w' => e = .returned (.string (bodyB 1)) ∧ Keeps nobody W w' := by
  have := big_ok 1 8 W (by omega) (by decide) (by decide)
  unfold bodyB
  exact this
attribute [local irreducible] quietH waitH tickH gotH newH
set_option maxRecDepth 100000 in
theorem silent_off (a b : Int) (s : Option Addr) (n cap : Nat) (w : World) (h : a < 1 ∨ b < 1 ∨ 50 < a ∨ 50 < b ∨ 30 < n) : Calls Try.prog 6 #[.int .i64 a, .int .i64 b, .slice s n cap] w (Fine w) := by
  have HA : Hid (∀ W, Calls Try.prog 8 #[] W fun e w' => e = .returned (.bool true) ∧ Keeps nobody W w') := alive_ok
  by_cases q0 : a < 1
  · clear h
    go_enter Try.func6, Try.ntmps6
    go_wp2_with fail
    refine Calls.mono (HA.out _) ?_
    rintro e w1 ⟨rfl, k1⟩
    go_wp2
    go_ret
    exact ⟨rfl, below_of_keeps k1⟩
  · have p0 : 1 ≤ a := by omega
    by_cases q1 : b < 1
    · clear h
      go_enter Try.func6, Try.ntmps6
      go_wp2_with fail
      refine Calls.mono (HA.out _) ?_
      rintro e w1 ⟨rfl, k1⟩
      go_wp2
      go_ret
      exact ⟨rfl, below_of_keeps k1⟩
    · have p1 : 1 ≤ b := by omega
      by_cases q2 : 50 < a
      · clear h
        go_enter Try.func6, Try.ntmps6
        go_wp2_with fail
        refine Calls.mono (HA.out _) ?_
        rintro e w1 ⟨rfl, k1⟩
        go_wp2
        go_ret
        exact ⟨rfl, below_of_keeps k1⟩
      · have p2 : a ≤ 50 := by omega
        by_cases q3 : 50 < b
        · clear h
          go_enter Try.func6, Try.ntmps6
          go_wp2_with fail
          refine Calls.mono (HA.out _) ?_
          rintro e w1 ⟨rfl, k1⟩
          go_wp2
          go_ret
          exact ⟨rfl, below_of_keeps k1⟩
        · have p3 : b ≤ 50 := by omega
          have q4 : 30 < n := by omega
          clear h q0 q1 q2 q3
          go_enter Try.func6, Try.ntmps6
          go_wp2_with fail
          refine Calls.mono (HA.out _) ?_
          rintro e w1 ⟨rfl, k1⟩
          go_wp2
          go_ret
          exact ⟨rfl, below_of_keeps k1⟩
set_option maxRecDepth 100000 in
set_option maxHeartbeats 4000000 in
theorem silent_main (every wait : Nat) (a : Option Addr) (b off cap : Nat) (l : List ByteArray) (w : World) (h1 : 1 ≤ every) (h2 : every ≤ 50) (h3 : 1 ≤ wait) (h4 : wait ≤ 50) (h5 : l.length ≤ 30) (ha : Hid (l = [] ∨ a = some ⟨b, off, none⟩)) (HC : Hid (∀ W, Below w.heap.size w W → AtS W b off l)) : Calls Try.prog 6 #[.int .i64 (every : Int), .int .i64 (wait : Int), .slice a l.length cap] w (Fine w) := by
  have HA : Hid (∀ W, Calls Try.prog 8 #[] W fun e w' => e = .returned (.bool true) ∧ Keeps nobody W w') := alive_ok
  have HN : Hid (∀ W, Hold w W [] → Calls Try.prog 9 #[.int .i64 (every : Int), .int .i64 (wait : Int)] W fun e w' => ∃ g, e = .returned (.pointer (some ⟨g, 0, none⟩)) ∧ Hid (Hold w w' [heT g (newH every wait)])) := fun W H => t_new H every wait h1 h3
  have HT : Hid (∀ W g h r s o, Hold w W [heT g h] → Fit h → tickH h = (r, s, o) → Calls Try.prog 10 #[.pointer (some ⟨g, 0, none⟩)] W fun e w' => e = .returned (.tuple #[.string s, .bool o]) ∧ Hid (Hold w w' [heT g r])) := fun W g h r s o H F hr => t_tick H F hr
  have HGQ : Hid (∀ W g k x, Hold w W [heT g (quietH every wait k)] → Calls Try.prog 11 #[.pointer (some ⟨g, 0, none⟩), .string x] W fun e w' => e = .returned (.bool false) ∧ Hid (Hold w w' [heT g (quietH every wait k)])) := fun W g k x H => t_got H (quiet_fit every wait k h1 (by omega) (by omega)) x (quiet_no every wait k x)
  have HGW : Hid (∀ W g x, x ≠ bodyB 1 → Hold w W [heT g (waitH every wait 0)] → Calls Try.prog 11 #[.pointer (some ⟨g, 0, none⟩), .string x] W fun e w' => e = .returned (.bool false) ∧ Hid (Hold w w' [heT g (waitH every wait 0)])) := fun W g x hx H => t_got H (wait_fit every wait 0 h1 (by omega) (by omega)) x (wait_other every wait 0 x hx)
  have HW : Hid (∀ W g k, Hold w W [heT g (quietH every wait k)] → Calls Try.prog 12 #[.pointer (some ⟨g, 0, none⟩)] W fun e w' => e = .returned (.bool false) ∧ w' = W) := fun W g k H => q_waits H h1
  have HU : Hid (∀ W g, Hold w W [heT g (waitH every wait 0)] → Calls Try.prog 12 #[.pointer (some ⟨g, 0, none⟩)] W fun e w' => e = .returned (.bool true) ∧ w' = W) := fun W g H => w_waits H h1
  have HS : Hid (∀ W g, Hold w W [heT g (waitH every wait 0)] → Calls Try.prog 13 #[.pointer (some ⟨g, 0, none⟩)] W fun e w' => e = .returned (.int .i64 1) ∧ w' = W) := fun W g H => w_sent H h1
  have HB : Hid (∀ W, Calls Try.prog 16 #[.int .i64 1, .int .i64 8] W fun e w' => e = .returned (.string (bodyB 1)) ∧ Keeps nobody W w') := big_one
  go_enter Try.func6, Try.ntmps6
  go_wp2_with fail
  refine Calls.mono (HA.out _) ?_
  rintro e w0 ⟨rfl, k0⟩
  have H0 := hid ((hold_start w).quiet k0)
  clear HA k0
  go_wp2_with fail
  refine Calls.mono (HN.out _ H0.out) ?_
  rintro e w1 ⟨g, rfl, H1⟩
  rw [quiet_start] at H1
  clear H0 HN
  go_wp2_with fail
  go_loopg [8] every (fun k iv wr => ∃ j : Nat, iv = .int .i64 (j : Int) ∧ k + j = every ∧ Hid ((j < every ∧ Hold w wr [heT g (quietH every wait j)]) ∨ (j = every ∧ Hold w wr [heT g (waitH every wait 0)])))
  case atStart => exact ⟨0, rfl, rfl, .inl ⟨by omega, H1.out⟩⟩
  case round =>
    clear H1
    obtain ⟨j, rfl, hk, HJ⟩ := hrel
    by_cases hj : j < every
    · have HJ2 : Hid (Hold w wr [heT g (quietH every wait j)]) := by
        rcases HJ.out with h | h
        · exact h.2
        · omega
      have HK := hid hk
      have HJN := hid hj
      have hjb : decide (j < every) = true := decide_eq_true hj
      have hjs : j ≤ 50 := by omega
      clear HJ hk hj HGW HU HS HB
      obtain ⟨wo, hwo⟩ : ∃ wo : World, wo = wr := ⟨_, rfl⟩
      subst hwo
      obtain ⟨go, hgo⟩ : ∃ go : Nat, go = gk := ⟨_, rfl⟩
      subst hgo
      go_wp2_with fail
      go_loopg [49] l.length (fun k iv wr => ∃ i : Nat, iv = .int .i64 (i : Int) ∧ k + i = l.length ∧ Hid (Hold w wr [heT g (quietH every wait j)]))
      case atStart => exact ⟨0, rfl, rfl, HJ2⟩
      case round =>
        clear HJ2
        obtain ⟨i, rfl, hki, HI⟩ := hrel
        by_cases hi : i < l.length
        · obtain rfl : a = some ⟨b, off, none⟩ := by
            rcases ha.out with h | h
            · rw [h] at hi; simp at hi
            · exact h
          obtain ⟨x, hx⟩ : ∃ x, l[i]? = some x := ⟨_, List.getElem?_eq_getElem hi⟩
          have c0 := HC.out _ HI.out.below i x hx
          have HKI := hid hki
          clear hx hki HC HT
          go_wp2_with fail
          refine Calls.mono (HGQ.out _ _ _ _ HI.out) ?_
          rintro e w3 ⟨rfl, H3⟩
          go_wp2_with fail
          refine Calls.mono (HW.out _ _ _ H3.out) ?_
          rintro e w4 ⟨rfl, rfl⟩
          go_wp2
          have hki := HKI.out
          go_roundg (gk - 1)
          case measure => omega
          case rel => exact ⟨i + 1, by simp, by omega, H3⟩
        · have HJM := HJN.out
          clear hki HGQ HW HC
          by_cases hl : j + 1 < every
          · have HT2 := hid (HT.out wr g _ _ _ _ HI.out (quiet_fit every wait j h1 (by omega) (by omega)) (quiet_less every wait j hl))
            have HL := hid hl
            clear HT HI hl HJM
            go_wp2_with fail
            refine Calls.mono HT2.out ?_
            rintro e w3 ⟨rfl, H3⟩
            go_wp2
            have hk := HK.out
            have hl := HL.out
            go_roundg (go - 1)
            case measure => omega
            case rel => exact ⟨j + 1, by simp, by omega, .inl ⟨by omega, H3.out⟩⟩
          · have HT2 := hid (HT.out wr g _ _ _ _ HI.out (quiet_fit every wait j h1 (by omega) (by omega)) (quiet_full every wait j hl))
            have HL : Hid (j + 1 = every) := by show _ = _; omega
            generalize bodyB 1 = C at *
            clear HT HI hl HJM
            go_wp2_with fail
            refine Calls.mono HT2.out ?_
            rintro e w3 ⟨rfl, H3⟩
            go_wp2
            have hk := HK.out
            have hl := HL.out
            go_roundg (go - 1)
            case measure => omega
            case rel => exact ⟨j + 1, by simp, by omega, .inr ⟨by omega, H3.out⟩⟩
    · have HJ2 : Hid (Hold w wr [heT g (waitH every wait 0)]) := by
        rcases HJ.out with h | h
        · omega
        · exact h.2
      clear HJ hk HGQ HW HT
      generalize bodyB 1 = B at *
      go_wp2_with fail
      go_loopg [65] l.length (fun k iv wr => ∃ i : Nat, iv = .int .i64 (i : Int) ∧ k + i = l.length ∧ Hid (Hold w wr [heT g (waitH every wait 0)]))
      case atStart => exact ⟨0, rfl, rfl, HJ2⟩
      case round =>
        clear HJ2
        obtain ⟨i, rfl, hki, HI⟩ := hrel
        by_cases hi : i < l.length
        · obtain rfl : a = some ⟨b, off, none⟩ := by
            rcases ha.out with h | h
            · rw [h] at hi; simp at hi
            · exact h
          obtain ⟨x, hx⟩ : ∃ x, l[i]? = some x := ⟨_, List.getElem?_eq_getElem hi⟩
          have c0 := HC.out _ HI.out.below i x hx
          have HKI := hid hki
          clear hx hki HC HS
          by_cases hb : x = B
          · have hq := beq_list_of_eq hb
            clear hb HGW HU
            go_wp2_with fail
            refine Calls.mono (HB.out _) ?_
            rintro e w3 ⟨rfl, k3⟩
            go_wp2
            have hki := HKI.out
            go_roundg (gk - 1)
            case measure => omega
            case rel => exact ⟨i + 1, by simp, by omega, HI.out.quiet k3⟩
          · have hq := beq_list_of_ne hb
            have HG2 := hid (fun W H => HGW.out W g x hb H)
            clear hb HGW
            go_wp2_with fail
            refine Calls.mono (HB.out _) ?_
            rintro e w3 ⟨rfl, k3⟩
            have H3 := hid (HI.out.quiet k3)
            clear k3
            go_wp2_with fail
            refine Calls.mono (HG2.out _ H3.out) ?_
            rintro e w4 ⟨rfl, H4⟩
            go_wp2_with fail
            refine Calls.mono (HU.out _ _ H4.out) ?_
            rintro e w5 ⟨rfl, rfl⟩
            go_wp2
            have hki := HKI.out
            go_roundg (gk - 1)
            case measure => omega
            case rel => exact ⟨i + 1, by simp, by omega, H4⟩
        · clear HC HGW HB hki
          go_wp2_with fail
          refine Calls.mono (HS.out _ _ HI.out) ?_
          rintro e w3 ⟨rfl, rfl⟩
          go_wp2_with fail
          refine Calls.mono (HU.out _ _ HI.out) ?_
          rintro e w3 ⟨rfl, rfl⟩
          go_wp2
          go_ret
          exact ⟨rfl, HI.out.below⟩
theorem silent_walk (m n : Int) (a : Option Addr) (cap : Nat) (l : List ByteArray) (w : World) (H : Strs w a l) : Calls Try.prog 6 #[.int .i64 m, .int .i64 n, .slice a l.length cap] w (Fine w) := by
  by_cases h : m < 1 ∨ n < 1 ∨ 50 < m ∨ 50 < n ∨ 30 < l.length
  · exact silent_off m n a l.length cap w h
  · obtain ⟨m, rfl⟩ := Int.eq_ofNat_of_zero_le (show 0 ≤ m by omega)
    obtain ⟨n, rfl⟩ := Int.eq_ofNat_of_zero_le (show 0 ≤ n by omega)
    obtain ⟨b, off, ha, hC⟩ := H.at
    exact silent_main m n a b off cap l w (by omega) (by omega) (by omega) (by omega) (by omega) ha hC
end Go.Proofs.Ytfgbijhmhanpeaa
