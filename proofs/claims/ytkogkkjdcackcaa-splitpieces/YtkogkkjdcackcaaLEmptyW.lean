/-
  The law SplitEmpty as a walk.
-/
import Derived.Test.YtkogkkjdcackcaaLBoundW
namespace Go.Proofs.Ytkogkkjdcackcaa
open Go.RowKit

/-- The same bytes so many times. -/
def repA (P : ByteArray) : Nat → ByteArray
  | 0 => ⟨#[]⟩
  | k + 1 => P ++ repA P k
theorem none_append (b : ByteArray) : (⟨#[]⟩ : ByteArray) ++ b = b := by apply nums_inj; simp [nums]
theorem append_none' (b : ByteArray) : b ++ (⟨#[]⟩ : ByteArray) = b := by apply nums_inj; simp [nums]
theorem repA_snoc (P : ByteArray) (k : Nat) : repA P k ++ P = repA P (k + 1) := by
  induction k with
  | zero => simp only [repA, none_append, append_none']
  | succ k ih => rw [repA, ByteArray.append_assoc, ih, repA]; rfl
theorem repA_size (P : ByteArray) (k : Nat) : (repA P k).size = P.size * k := by
  induction k with
  | zero => rfl
  | succ k ih => rw [repA, ByteArray.size_append, ih, Nat.mul_succ]; omega
def ackF : Frm := ⟨4, 1, 0, ⟨#[]⟩⟩
def ackA : ByteArray := ⟨#[0, 0, 0, 4, 1, 0, 0, 0, 0]⟩
theorem ack_right : right ackF := by decide +kernel
theorem ack_put : putA ackF = ackA := by decide +kernel
theorem ack_next (k : Nat) : nextR 64 false (repA ackA (k + 1)) = ((ackF, true, 0), false, repA ackA k) := by
  rw [repA, ← ack_put]
  exact next_put 64 ack_right (by decide)
theorem none_next : nextR 64 false ⟨#[]⟩ = ((noF, false, 0), false, ⟨#[]⟩) := nextR_none _ _ (by decide +kernel) (by decide +kernel)
attribute [local irreducible] putA right nums str nextR repA

theorem empty_off (n : Int) (w : World) (h : n < 0 ∨ 40 < n) : Calls Try.prog 7 #[.int .i64 n] w (Fine w) := by
  have HA : Hid (∀ W, Calls Try.prog 9 #[] W fun e w' => e = .returned (.bool true) ∧ Keeps nobody W w') := alive_ok
  by_cases h1 : n < 0
  · clear h
    go_enter Try.func7, Try.ntmps7
    go_wp2_with fail
    refine Calls.mono (HA.out _) ?_
    rintro e w1 ⟨rfl, k1⟩
    go_wp2
    go_ret
    exact ⟨rfl, below_of_keeps k1⟩
  · have h2 : 40 < n := by omega
    have h3 : 0 ≤ n := by omega
    clear h h1
    go_enter Try.func7, Try.ntmps7
    go_wp2_with fail
    refine Calls.mono (HA.out _) ?_
    rintro e w1 ⟨rfl, k1⟩
    go_wp2
    go_ret
    exact ⟨rfl, below_of_keeps k1⟩

set_option maxRecDepth 100000 in
set_option maxHeartbeats 1000000 in
theorem empty_main (n : Nat) (w : World) (hn : n ≤ 40) : Calls Try.prog 7 #[.int .i64 (n : Int)] w (Fine w) := by
  have HA : Hid (∀ W, Calls Try.prog 9 #[] W fun e w' => e = .returned (.bool true) ∧ Keeps nobody W w') := alive_ok
  have HN : Hid (∀ W, Hold w W [] → Calls Try.prog 10 #[.int .i64 64] W fun e w' => ∃ g v, e = .returned (.pointer (some ⟨g, 0, none⟩)) ∧ Hid (Hold w w' [spT g v 64 false ⟨#[]⟩])) := fun W h => t_new h 64 (by decide) (by decide)
  have HE : Hid (∀ W g v, Hold w W [spT g v 64 false ⟨#[]⟩] → Calls Try.prog 12 #[.pointer (some ⟨g, 0, none⟩), .string ⟨#[]⟩] W fun e w' => e = .returned (.int .i64 0) ∧ ∃ v', Hid (Hold w w' [spT g v' 64 false (repA ackA 0)])) := fun W g v h => by
    have := t_feed h ⟨#[]⟩ (by decide)
    rw [none_append] at this
    unfold repA
    exact this
  have HP : Hid (∀ W, Calls Try.prog 16 #[.agg #[.int .i64 4, .int .i64 1, .int .i64 0, .string ⟨#[]⟩]] W fun e w' => e = .returned (.tuple #[.string ackA, .bool true]) ∧ Keeps nobody W w') := fun W => by
    have := fput_ok ackF W
    rw [ack_put, decide_eq_true ack_right] at this
    exact this
  have HF : Hid (∀ W g v ts k, k ≤ 40 → Hold w W (spT g v 64 false (repA ackA k) :: ts) → Calls Try.prog 12 #[.pointer (some ⟨g, 0, none⟩), .string ackA] W fun e w' => e = .returned (.int .i64 9) ∧ ∃ v', Hid (Hold w w' (spT g v' 64 false (repA ackA (k + 1)) :: ts))) := fun W g v ts k hk h => by
    have := t_feed h ackA (by have e : ackA.size = 9 := rfl; rw [repA_size, e]; omega)
    rw [repA_snoc] at this
    exact this
  have HX : Hid (∀ W g v ts k, Hold w W (spT g v 64 false (repA ackA (k + 1)) :: ts) → Calls Try.prog 11 #[.pointer (some ⟨g, 0, none⟩)] W fun e w' => e = .returned (.tuple #[.agg #[.int .i64 4, .int .i64 1, .int .i64 0, .string ⟨#[]⟩], .bool true, .int .i64 0]) ∧ ∃ v', Hid (Hold w w' (spT g v' 64 false (repA ackA k) :: ts))) := fun W g v ts k h => by
    have := t_next h
    rwa [ack_next] at this
  have HY : Hid (∀ W g v ts, Hold w W (spT g v 64 false (repA ackA 0) :: ts) → Calls Try.prog 11 #[.pointer (some ⟨g, 0, none⟩)] W fun e w' => e = .returned (.tuple #[.agg #[.int .i64 0, .int .i64 0, .int .i64 0, .string ⟨#[]⟩], .bool false, .int .i64 0]) ∧ ∃ v', Hid (Hold w w' (spT g v' 64 false ⟨#[]⟩ :: ts))) := fun W g v ts h => by
    unfold repA at h
    have := t_next h
    rwa [none_next] at this
  have HH : Hid (∀ W g v ts, Hold w W (spT g v 64 false ⟨#[]⟩ :: ts) → Calls Try.prog 13 #[.pointer (some ⟨g, 0, none⟩)] W fun e w' => e = .returned (.int .i64 0) ∧ W = w') := fun W g v ts h => t_held h
  have HO : Hid (∀ W g v ts, Hold w W (spT g v 64 false ⟨#[]⟩ :: ts) → Calls Try.prog 14 #[.pointer (some ⟨g, 0, none⟩)] W fun e w' => e = .returned (.bool false) ∧ W = w') := fun W g v ts h => t_over h
  generalize ackA = PA at *
  go_enter Try.func7, Try.ntmps7
  go_wp2_with fail
  refine Calls.mono (HA.out _) ?_
  rintro e w1 ⟨rfl, k1⟩
  have H1 := hid ((hold_start w).quiet k1)
  clear k1 HA
  go_wp2_with fail
  refine Calls.mono (HN.out _ H1.out) ?_
  rintro e w2 ⟨g, v, rfl, H2⟩
  clear H1 HN
  go_wp2_with fail
  refine Calls.mono (HE.out _ _ _ H2.out) ?_
  rintro e w3 ⟨rfl, v3, H3⟩
  clear H2 HE
  go_wp2_with fail
  refine Calls.mono (HP.out _) ?_
  rintro e w4 ⟨rfl, k4⟩
  have H4 := hid ((H3.out.box2 ackF).quiet k4)
  generalize w3.heap.size = gf at *
  clear H3 k4 HP
  go_wp2_with fail
  go_loopg [7] n (fun k i wr => ∃ (j : Nat) (v : Value), i = .int .i64 (j : Int) ∧ k + j = n ∧ Hid (Hold w wr [spT g v 64 false (repA PA j), bxT gf ackF]))
  case atStart => exact ⟨0, v3, rfl, rfl, H4⟩
  case round =>
    clear H4
    obtain ⟨j, v, rfl, hk, HJ⟩ := hrel
    by_cases hj : j < n
    · go_wp2_with fail
      refine Calls.mono (HF.out _ _ _ _ _ (by omega) HJ.out) ?_
      rintro e w5 ⟨rfl, v5, H5⟩
      go_wp2
      go_roundg (gk - 1)
      case measure => omega
      case rel => exact ⟨j + 1, v5, by simp, by omega, H5⟩
    · obtain rfl : j = n := by omega
      clear hk hj HF
      go_wp2_with fail
      obtain ⟨wo, hwo⟩ : ∃ wo : World, wo = wr := ⟨_, rfl⟩
      subst hwo
      obtain ⟨go, hgo⟩ : ∃ go : Nat, go = gk := ⟨_, rfl⟩
      subst hgo
      go_loopg [8] j (fun k i wr => ∃ (q : Nat) (v : Value), i = .int .i64 (q : Int) ∧ k + q = j ∧ Hid (Hold w wr [spT g v 64 false (repA PA k), bxT gf ackF]))
      case atStart => exact ⟨0, v, rfl, rfl, HJ⟩
      case round =>
        clear HJ
        obtain ⟨q, v, rfl, hk, HJ⟩ := hrel
        by_cases hq : q < j
        · obtain ⟨r, rfl⟩ : ∃ r, gk = r + 1 := ⟨gk - 1, by omega⟩
          go_wp2_with fail
          refine Calls.mono (HX.out _ _ _ _ _ HJ.out) ?_
          rintro e w5 ⟨rfl, v5, H5⟩
          have H6 := hid (H5.out.quiet (keeps_alloc w5 (frobj 4 1 0 ⟨#[]⟩)))
          obtain ⟨b0, b1, b2, b3, _⟩ := H6.out.bx (g := gf) (f := ackF) (by simp)
          simp only [ackF] at b0 b1 b2 b3
          clear HJ H5
          go_wp2
          go_roundg r
          case measure => omega
          case rel => exact ⟨q + 1, v5, by simp, by omega, H6⟩
        · obtain rfl : gk = 0 := by omega
          obtain rfl : q = j := by omega
          clear hk hq HX
          go_wp2_with fail
          refine Calls.mono (HY.out _ _ _ _ HJ.out) ?_
          rintro e w5 ⟨rfl, v5, H5⟩
          have H6 := hid (H5.out.quiet (keeps_alloc w5 (frobj 0 0 0 ⟨#[]⟩)))
          clear HJ H5 HY
          go_wp2_with fail
          refine Calls.mono (HH.out _ _ _ _ H6.out) ?_
          rintro e w6 ⟨rfl, rfl⟩
          go_wp2_with fail
          refine Calls.mono (HO.out _ _ _ _ H6.out) ?_
          rintro e w6 ⟨rfl, rfl⟩
          go_wp2
          go_ret
          exact ⟨rfl, H6.out.below⟩
theorem empty_true (n : Int) (w : World) : Calls Try.prog 7 #[.int .i64 n] w (Fine w) := by
  by_cases h : n < 0 ∨ 40 < n
  · exact empty_off n w h
  · obtain ⟨k, rfl⟩ := Int.eq_ofNat_of_zero_le (show 0 ≤ n by omega)
    exact empty_main k w (by omega)
end Go.Proofs.Ytkogkkjdcackcaa
