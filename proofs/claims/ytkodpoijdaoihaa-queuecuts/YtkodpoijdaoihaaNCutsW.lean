/-
  The law QueueCuts, walked.
-/
import Derived.Test.YtkodpoijdaoihaaNFullW
namespace Go.Proofs.Ytkodpoijdaoihaa
open Go.RowKit

/-- What waits where one of 1 to n has gone, and the first k of 1 to n have come out. -/
def leftC (n : Nat) (id : Int) (k : Nat) : List Int := ((upL n).erase id).filter fun x => decide ((k : Int) < x)
theorem up_nodup (n : Nat) : (upL n).Nodup := by
  induction n with
  | zero => simp [upL]
  | succ n ih =>
    rw [up_succ]
    refine List.nodup_append.2 ⟨ih, by simp, fun a ha b hb => ?_⟩
    obtain rfl := List.mem_singleton.1 hb
    have := ((up_mem n a).1 ha).2
    omega
theorem up_filter (n k : Nat) (h : k < n) : (upL n).filter (fun x => decide ((k : Int) < x)) = ((k + 1 : Nat) : Int) :: (upL n).filter (fun x => decide (((k + 1 : Nat) : Int) < x)) := by
  induction n with
  | zero => omega
  | succ n ih =>
    rw [up_succ, List.filter_append, List.filter_append]
    by_cases hk : k < n
    · rw [ih hk, List.cons_append]
      congr 1
      congr 1
      have e1 : decide ((k : Int) < ((n + 1 : Nat) : Int)) = true := decide_eq_true (by omega)
      have e2 : decide (((k + 1 : Nat) : Int) < ((n + 1 : Nat) : Int)) = true := decide_eq_true (by omega)
      simp only [List.filter_cons, e1, e2, if_true, List.filter_nil]
    · obtain rfl : k = n := by omega
      have e0 : (upL k).filter (fun x => decide ((k : Int) < x)) = [] := List.filter_eq_nil_iff.2 fun x hx => by
        have := ((up_mem k x).1 hx).2
        simp; omega
      have e00 : (upL k).filter (fun x => decide (((k + 1 : Nat) : Int) < x)) = [] := List.filter_eq_nil_iff.2 fun x hx => by
        have := ((up_mem k x).1 hx).2
        simp; omega
      have e1 : decide ((k : Int) < ((k + 1 : Nat) : Int)) = true := decide_eq_true (by omega)
      have e2 : decide (((k + 1 : Nat) : Int) < ((k + 1 : Nat) : Int)) = false := decide_eq_false (by omega)
      rw [e0, e00]
      simp only [List.filter_cons, e1, e2, if_true, List.filter_nil, List.nil_append]
      rfl
theorem left_start (n : Nat) (id : Int) : leftC n id 0 = (upL n).erase id := by
  refine List.filter_eq_self.2 fun x hx => decide_eq_true ?_
  have := ((up_mem n x).1 (List.mem_of_mem_erase hx)).1
  omega
theorem left_eq (n : Nat) (id : Int) (k : Nat) : leftC n id k = ((upL n).filter (fun x => decide ((k : Int) < x))).erase id := by
  have hf : ((upL n).filter (fun x => decide ((k : Int) < x))).Nodup := List.Pairwise.filter _ (up_nodup n)
  rw [leftC, List.Nodup.erase_eq_filter (up_nodup n), List.Nodup.erase_eq_filter hf, List.filter_filter, List.filter_filter]
  congr 1
  funext x
  exact Bool.and_comm _ _
theorem left_next (n : Nat) (id : Int) (k : Nat) (x : Int) (hx : x = (k : Int) + 1) (h : k < n) (hi : x ≠ id) : leftC n id k = x :: leftC n id (k + 1) := by
  rw [left_eq, left_eq, up_filter n k h, List.erase_cons_tail (by simp; omega), hx]
  rfl
theorem left_skip (n : Nat) (id : Int) (k : Nat) (x : Int) (hx : x = (k : Int) + 1) (h : k < n) (hi : x = id) : leftC n id k = leftC n id (k + 1) := by
  have e : ((k + 1 : Nat) : Int) = id := by omega
  rw [left_eq, left_eq, up_filter n k h, e, List.erase_cons_head, List.erase_of_not_mem]
  intro hm
  simp at hm
theorem left_end (n : Nat) (id : Int) : leftC n id n = [] := by
  rw [leftC]
  refine List.filter_eq_nil_iff.2 fun x hx => ?_
  have := ((up_mem n x).1 (List.mem_of_mem_erase hx)).2
  simp; omega
theorem left_len (n : Nat) (id : Int) (k : Nat) : (leftC n id k).length ≤ n := by
  refine Nat.le_trans (List.length_filter_le _ _) (Nat.le_trans (List.length_erase_le) ?_)
  rw [up_len]
  exact Nat.le_refl _
/-- The id that is taken out. -/
theorem cut_id (n : Nat) (at0 : Int) (h : 1 ≤ n) (hn : n ≤ 50) : ∃ r s y id : Int, at0.tmod (n : Int) = r ∧ -(n : Int) < r ∧ r < (n : Int) ∧ r + (n : Int) = s ∧ 0 ≤ s ∧ s ≤ 100 ∧ s.tmod (n : Int) = y ∧ 0 ≤ y ∧ y < (n : Int) ∧ 1 + y = id ∧ 1 ≤ id ∧ id ≤ (n : Int) := by
  have h1 := Int.lt_tmod_of_pos at0 (show (0 : Int) < (n : Int) by omega)
  have h2 := Int.tmod_lt_of_pos at0 (show (0 : Int) < (n : Int) by omega)
  have h3 : 0 ≤ (at0.tmod (n : Int) + (n : Int)).tmod (n : Int) := Int.tmod_nonneg _ (by omega)
  have h4 : (at0.tmod (n : Int) + (n : Int)).tmod (n : Int) < (n : Int) := Int.tmod_lt_of_pos _ (by omega)
  exact ⟨_, _, _, _, rfl, h1, h2, rfl, by omega, by omega, rfl, h3, h4, rfl, by omega, by omega⟩
theorem up_zero : upL 0 = [] := rfl
theorem cut_up (n : Nat) (id : Int) : cutQ (upL n) id = leftC n id 0 := (left_start n id).symm
theorem cut_out {l : List Int} {id : Int} (h : ¬ id ∈ l) : cutQ l id = l := List.erase_of_not_mem h
attribute [local irreducible] fullL mayQ putQ backQ leftC upL cutQ
set_option maxRecDepth 100000 in
theorem cuts_bad (n at0 : Int) (w : World) (h : n < 1 ∨ 50 < n) : Calls Try.prog 6 #[.int .i64 n, .int .i64 at0] w (Fine w) := by
  have HA : Hid (∀ W, Calls Try.prog 7 #[] W fun e w' => e = .returned (.bool true) ∧ Keeps nobody W w') := alive_ok
  by_cases q0 : n < 1
  · clear h
    go_enter Try.func6, Try.ntmps6
    go_wp2_with fail
    refine Calls.mono (HA.out _) ?_
    rintro e w1 ⟨rfl, k1⟩
    go_wp2
    go_ret
    exact ⟨rfl, below_of_keeps k1⟩
  · have p0 : 1 ≤ n := by omega
    have q1 : 50 < n := by omega
    clear h q0
    go_enter Try.func6, Try.ntmps6
    go_wp2_with fail
    refine Calls.mono (HA.out _) ?_
    rintro e w1 ⟨rfl, k1⟩
    go_wp2
    go_ret
    exact ⟨rfl, below_of_keeps k1⟩
set_option maxRecDepth 100000 in
set_option maxHeartbeats 4000000 in
theorem cuts_main (n : Nat) (at0 : Int) (w : World) (h1 : 1 ≤ n) (h2 : n ≤ 50) : Calls Try.prog 6 #[.int .i64 (n : Int), .int .i64 at0] w (Fine w) := by
  obtain ⟨r, s, y, id, hr, hr1, hr2, hs, hs1, hs2, hy, hy0, hyn, hd, hd1, hd2⟩ := cut_id n at0 h1 h2
  have HA : Hid (∀ W, Calls Try.prog 7 #[] W fun e w' => e = .returned (.bool true) ∧ Keeps nobody W w') := alive_ok
  have HN : Hid (∀ W, Hold w W [] → Calls Try.prog 8 #[.int .i64 50] W fun e w' => ∃ g, e = .returned (.pointer (some ⟨g, 0, none⟩)) ∧ Hid (HQ w w' g 50 (upL 0) [])) := fun W H => by rw [up_zero]; exact t_new H 50 (by decide)
  have HY : Hid (∀ W g (k : Nat) (x : Int), HQ w W g 50 (upL k) [] → x = (k : Int) + 1 → k < n → Calls Try.prog 10 #[.pointer (some ⟨g, 0, none⟩), .int .i64 x] W fun e w' => e = .returned (.int .i64 0) ∧ Hid (HQ w w' g 50 (upL (k + 1)) [])) := fun W g k x H hx hk => by
    have hm : mayQ 50 (upL k) x = 0 := may_yes (fun e => by have := ((up_mem _ _).1 e).2; omega) (by rw [up_len]; omega)
    refine t_put H (by rw [up_len]; omega) x hm ?_
    rw [put_yes hm, up_succ, hx]
    rfl
  have HC1 : Hid (∀ W g (id : Int), HQ w W g 50 (upL n) [] → 1 ≤ id → id ≤ (n : Int) → Calls Try.prog 12 #[.pointer (some ⟨g, 0, none⟩), .int .i64 id] W fun e w' => e = .returned (.bool true) ∧ Hid (HQ w w' g 50 (leftC n id 0) [])) := fun W g id H i1 i2 =>
    t_cut H (by rw [up_len]; omega) id (decide_eq_true ((up_mem _ _).2 ⟨i1, i2⟩)) (cut_up n id)
  have hnot : ∀ id, ¬ id ∈ leftC n id 0 := fun id hm => by
    rw [left_start] at hm
    exact (up_nodup n).not_mem_erase hm
  have HC2 : Hid (∀ W g (id : Int), HQ w W g 50 (leftC n id 0) [] → Calls Try.prog 12 #[.pointer (some ⟨g, 0, none⟩), .int .i64 id] W fun e w' => e = .returned (.bool false) ∧ Hid (HQ w w' g 50 (leftC n id 0) [])) := fun W g id H =>
    t_cut H (by have := left_len n id 0; omega) id (decide_eq_false (hnot id)) (cut_out (hnot id))
  have HP : Hid (∀ W g (id : Int), HQ w W g 50 (leftC n id 0) [] → Calls Try.prog 13 #[.pointer (some ⟨g, 0, none⟩), .int .i64 id] W fun e w' => e = .returned (.int .i64 (-1)) ∧ W = w') := fun W g id H => t_place H id (place_out (hnot id))
  have HF : Hid (∀ W g (id x : Int) (k : Nat), HQ w W g 50 (leftC n id k) [] → x = (k : Int) + 1 → k < n → x ≠ id → Calls Try.prog 9 #[.pointer (some ⟨g, 0, none⟩)] W fun e w' => e = .returned (.tuple #[.int .i64 x, .bool true]) ∧ Hid (HQ w w' g 50 (leftC n id (k + 1)) [])) := fun W g id x k H hx hk hi => by
    rw [left_next n id k x hx hk hi] at H
    exact t_first H (by have := left_len n id (k + 1); omega)
  have HF0 : Hid (∀ W g (id : Int), HQ w W g 50 (leftC n id n) [] → Calls Try.prog 9 #[.pointer (some ⟨g, 0, none⟩)] W fun e w' => e = .returned (.tuple #[.int .i64 0, .bool false]) ∧ W = w') := fun W g id H => by
    rw [left_end] at H
    exact t_first0 H
  clear hnot
  go_enter Try.func6, Try.ntmps6
  go_wp2_with fail
  refine Calls.mono (HA.out _) ?_
  rintro e w0 ⟨rfl, k0⟩
  have H0 := hid ((hold_start w).quiet k0)
  clear HA k0
  go_wp2_with fail
  refine Calls.mono (HN.out _ H0.out) ?_
  rintro e w1 ⟨g, rfl, H1⟩
  clear H0 HN
  go_wp2_with fail
  go_loopg [6] n (fun q iv wr => ∃ (k : Nat) (x : Int), iv = .int .i64 x ∧ x = (k : Int) + 1 ∧ q + k = n ∧ Hid (HQ w wr g 50 (upL k) []))
  case atStart => exact ⟨0, 1, rfl, rfl, rfl, H1⟩
  case round =>
    clear H1
    obtain ⟨k, x, rfl, hx, hk, HJ⟩ := hrel
    by_cases hj : k < n
    · have HK := hid hk
      have HX := hid hx
      have hxn : x ≤ (n : Int) := by omega
      have hx0 : 1 ≤ x := by omega
      have hn50 : (n : Int) ≤ 50 := by omega
      have HC := hid (HY.out wr g k x HJ.out hx hj)
      clear hk hx HY HC1 HC2 HP HF HF0 HJ hr hr1 hr2 hs hs1 hs2 hy hy0 hyn hd hd1 hd2
      go_wp2_with fail
      refine Calls.mono HC.out ?_
      rintro e w3 ⟨rfl, H3⟩
      go_wp2
      have hk := HK.out
      go_roundg (gk - 1)
      case measure => omega
      case rel => exact ⟨k + 1, x + 1, rfl, by rw [HX.out]; simp, by omega, H3⟩
    · have hxn : (n : Int) < x := by omega
      obtain rfl : k = n := by omega
      have hnz : ¬ ((k : Int) = 0) := by omega
      have hnb : ((k : Int) == 0) = false := by simpa using hnz
      have C1 := hid (HC1.out wr g id HJ.out hd1 hd2)
      have hn1 : (1 : Int) ≤ (k : Int) := by omega
      clear hk hj HJ HY HC1 hx
      go_wp2_with fail
      refine Calls.mono C1.out ?_
      rintro e w3 ⟨rfl, H3⟩
      go_wp2_with fail
      refine Calls.mono (HC2.out _ _ _ H3.out) ?_
      rintro e w4 ⟨rfl, H4⟩
      go_wp2_with fail
      refine Calls.mono (HP.out _ _ _ H4.out) ?_
      rintro e w5 ⟨rfl, rfl⟩
      clear HC2 HP C1 H3 hxn
      go_wp2_with fail
      go_loopg [8] k (fun q iv wr => ∃ (j : Nat) (x : Int), iv = .int .i64 x ∧ x = (j : Int) + 1 ∧ q + j = k ∧ Hid (HQ w wr g 50 (leftC k id j) []))
      case atStart => exact ⟨0, 1, rfl, rfl, rfl, H4⟩
      case round =>
        clear H4
        obtain ⟨j, x, rfl, hx, hq, HJ⟩ := hrel
        by_cases hj : j < k
        · have HK := hid hq
          have HX := hid hx
          have hxn : x ≤ (k : Int) := by omega
          have hx0 : 1 ≤ x := by omega
          have hn50 : (k : Int) ≤ 50 := by omega
          by_cases hi : x = id
          · have HS : Hid (HQ w wr g 50 (leftC k id (j + 1)) []) := by
              rw [left_skip k id j x hx hj hi] at HJ
              exact HJ
            have hb : (x == id) = true := by simpa using hi
            clear hq hx HJ HF HF0 hi
            go_wp2
            have hk := HK.out
            go_roundg (gk - 1)
            case measure => omega
            case rel => exact ⟨j + 1, x + 1, rfl, by rw [HX.out]; simp, by omega, HS⟩
          · have HC := hid (HF.out wr g id x j HJ.out hx hj hi)
            have hb : (x == id) = false := by simpa using hi
            clear hq hx HJ HF HF0 hi
            go_wp2_with fail
            refine Calls.mono HC.out ?_
            rintro e w6 ⟨rfl, H6⟩
            go_wp2
            have hk := HK.out
            go_roundg (gk - 1)
            case measure => omega
            case rel => exact ⟨j + 1, x + 1, rfl, by rw [HX.out]; simp, by omega, H6⟩
        · have hxn : (k : Int) < x := by omega
          obtain rfl : j = k := by omega
          have HC := hid (HF0.out wr g id HJ.out)
          clear HF HF0 hq hx
          go_wp2_with fail
          refine Calls.mono HC.out ?_
          rintro e w6 ⟨rfl, rfl⟩
          go_wp2
          go_ret
          exact ⟨rfl, HJ.out.below⟩
theorem cuts_walk (n at0 : Int) (w : World) : Calls Try.prog 6 #[.int .i64 n, .int .i64 at0] w (Fine w) := by
  by_cases h : n < 1 ∨ 50 < n
  · exact cuts_bad n at0 w h
  · obtain ⟨a, rfl⟩ := Int.eq_ofNat_of_zero_le (show 0 ≤ n by omega)
    exact cuts_main a at0 w (by omega) (by omega)
end Go.Proofs.Ytkodpoijdaoihaa
