/-
  The law RuleZero as a walk.
-/
import Derived.Test.YtcbgjdfcndgaaaaUCodesW
namespace Go.Proofs.Ytcbgjdfcndgaaaa
open Go.RowKit

def bodyL : List ByteArray := [⟨#[]⟩, ⟨#[]⟩, ⟨#[49, 50, 51, 52, 53]⟩, ⟨#[49, 50, 51, 52]⟩, ⟨#[]⟩, ⟨#[]⟩, ⟨#[49, 50, 51, 52, 53, 54, 55, 56]⟩, ⟨#[49, 50, 51, 52, 53, 54, 55, 56]⟩, ⟨#[49, 50, 51, 52]⟩, ⟨#[]⟩]
theorem bodyL_length : bodyL.length = 10 := rfl
def bodyV : Array Value := (bodyL.map Value.string).toArray
theorem body_cell (i : Nat) (s : ByteArray) (h : bodyL[i]? = some s) (t : TypeId) (w : World) : (w.alloc (.cells #[.string ⟨#[]⟩, .string ⟨#[]⟩, .string ⟨#[49, 50, 51, 52, 53]⟩, .string ⟨#[49, 50, 51, 52]⟩, .string ⟨#[]⟩, .string ⟨#[]⟩, .string ⟨#[49, 50, 51, 52, 53, 54, 55, 56]⟩, .string ⟨#[49, 50, 51, 52, 53, 54, 55, 56]⟩, .string ⟨#[49, 50, 51, 52]⟩, .string ⟨#[]⟩] t)).cell? ⟨w.heap.size, i, none⟩ = some (.string s) := by
  show (w.alloc (.cells bodyV t)).cell? ⟨w.heap.size, i, none⟩ = some (.string s)
  unfold World.cell?
  rw [heap_alloc_new]
  simp [bodyV, h]
/-- Whether a frame of this kind may be there. -/
def zgood (k : Nat) (z : Bool) : Bool := k != 5 && (k == 8 || streamed k == z)
theorem zero_check (k : Nat) (id : Int) (s : ByteArray) (hs : bodyL[k]? = some s) (h0 : 0 ≤ id) (h1 : id ≤ 2147483647) : checkA ⟨k, 0, id, s⟩ = if zgood k (decide (0 < id)) then (0, 0) else (1, 11) := by
  have hk : k < 10 := by have := (List.getElem?_eq_some_iff.1 hs).1; rwa [bodyL_length] at this
  have ack : ackB 0 = false := by decide +kernel
  have p0 : padB 0 = false := by decide +kernel
  have w0 : weighB 0 = false := by decide +kernel
  have hr : right ⟨k, 0, id, s⟩ := by
    unfold right
    refine ⟨by simp only; omega, by simp only; omega, ⟨h0, h1⟩, ?_⟩
    have : ∀ x ∈ bodyL, x.size ≤ 16777215 := by decide +kernel
    exact this s (List.mem_of_getElem? hs)
  rw [checkA, if_neg (fun g => g hr)]
  have hid : (id != 0) = decide (0 < id) := by rw [Bool.eq_iff_iff]; simp; omega
  have hid2 : (id == 0) = !decide (0 < id) := by rw [Bool.eq_iff_iff]; simp; omega
  have hse : ∀ kk : Int, stripE ⟨kk, 0, id, s⟩ = 0 := fun kk => by
    simp only [stripE, p0, w0, stripA, pads, aheadN]
    simp
  have hp : placed (k : Int) id = zgood k (decide (0 < id)) := by
    unfold placed zgood
    rw [hid, hid2]
    generalize decide (0 < id) = z
    have : ∀ k : Nat, k < 10 → ∀ z : Bool, (if streamed (k : Int) then z else if (k : Int) = 5 then false else if (k : Int) = 4 ∨ (k : Int) = 6 ∨ (k : Int) = 7 then !z else true) = (k != 5 && (k == 8 || streamed (k : Int) == z)) := by decide +kernel
    exact this k hk z
  have hz : sized (k : Int) false s.size = true := by
    have : ∀ k : Nat, k < 10 → sized (k : Int) false (bodyL.getD k ⟨#[]⟩).size = true := by decide +kernel
    have h2 := this k hk
    rw [List.getD_eq_getElem?_getD, hs] at h2
    exact h2
  simp only [hp, hse, ack, hz]
  cases zgood k (decide (0 < id)) <;> simp [codeOf]
attribute [local irreducible] checkA right stripA streamed bodyL

theorem zero_off0 (k id : Int) (W : World) (HA : Hid (∀ w, Calls Try.prog 9 #[] w fun e w' => e = .returned (.bool true) ∧ Keeps nobody w w')) (h : k < 0) : Calls Try.prog 4 #[.int .i64 k, .int .i64 id] W (Fine W) := by
  go_enter Try.func4, Try.ntmps4
  go_wp2_with fail
  refine Calls.mono (HA.out _) ?_
  rintro e w1 ⟨rfl, k1⟩
  go_wp2
  go_ret
  exact ⟨rfl, below_of_keeps k1⟩

theorem zero_off1 (k id : Int) (W : World) (HA : Hid (∀ w, Calls Try.prog 9 #[] w fun e w' => e = .returned (.bool true) ∧ Keeps nobody w w')) (h0 : 0 ≤ k) (h : 9 < k) : Calls Try.prog 4 #[.int .i64 k, .int .i64 id] W (Fine W) := by
  go_enter Try.func4, Try.ntmps4
  go_wp2_with fail
  refine Calls.mono (HA.out _) ?_
  rintro e w1 ⟨rfl, k1⟩
  go_wp2
  go_ret
  exact ⟨rfl, below_of_keeps k1⟩

theorem zero_off2 (k id : Int) (W : World) (HA : Hid (∀ w, Calls Try.prog 9 #[] w fun e w' => e = .returned (.bool true) ∧ Keeps nobody w w')) (h0 : 0 ≤ k) (h1 : k ≤ 9) (h : id < 0) : Calls Try.prog 4 #[.int .i64 k, .int .i64 id] W (Fine W) := by
  go_enter Try.func4, Try.ntmps4
  go_wp2_with fail
  refine Calls.mono (HA.out _) ?_
  rintro e w1 ⟨rfl, k1⟩
  go_wp2
  go_ret
  exact ⟨rfl, below_of_keeps k1⟩

theorem zero_off3 (k id : Int) (W : World) (HA : Hid (∀ w, Calls Try.prog 9 #[] w fun e w' => e = .returned (.bool true) ∧ Keeps nobody w w')) (h0 : 0 ≤ k) (h1 : k ≤ 9) (h2 : 0 ≤ id) (h : 2147483647 < id) : Calls Try.prog 4 #[.int .i64 k, .int .i64 id] W (Fine W) := by
  go_enter Try.func4, Try.ntmps4
  go_wp2_with fail
  refine Calls.mono (HA.out _) ?_
  rintro e w1 ⟨rfl, k1⟩
  go_wp2
  go_ret
  exact ⟨rfl, below_of_keeps k1⟩

set_option maxRecDepth 100000 in
set_option maxHeartbeats 1000000 in
theorem zero_five (k : Nat) (id : Int) (W : World) (HA : Hid (∀ w, Calls Try.prog 9 #[] w fun e w' => e = .returned (.bool true) ∧ Keeps nobody w w')) (hk : k < 10) (h2 : 0 ≤ id) (h3 : id ≤ 2147483647) (e5 : ((k : Int) != 5) = false) (s : ByteArray) (hs : bodyL[k]? = some s)
    (HC : Hid (∀ w, Calls Try.prog 10 #[.agg #[.int .i64 (k : Int), .int .i64 0, .int .i64 id, .string s]] w fun e w' => e = .returned (.tuple #[.int .i64 1, .int .i64 11]) ∧ Keeps nobody w w')) : Calls Try.prog 4 #[.int .i64 (k : Int), .int .i64 id] W (Fine W) := by
  have HZ := hid (body_cell k s hs 9)
  clear hs
  go_enter Try.func4, Try.ntmps4
  go_wp2_with fail
  refine Calls.mono (HA.out _) ?_
  rintro e w1 ⟨rfl, k1⟩
  have hc := HZ.out w1
  clear HA HZ
  go_wp2_with fail
  refine Calls.mono (HC.out _) ?_
  rintro e w2 ⟨rfl, k2⟩
  have kk := (k1.alloc _).then k2
  clear HC k1 k2 hc
  go_wp2
  go_ret
  exact ⟨rfl, below_of_keeps kk⟩

set_option maxRecDepth 100000 in
set_option maxHeartbeats 1000000 in
theorem zero_eight (k : Nat) (id : Int) (W : World) (HA : Hid (∀ w, Calls Try.prog 9 #[] w fun e w' => e = .returned (.bool true) ∧ Keeps nobody w w')) (hk : k < 10) (h2 : 0 ≤ id) (h3 : id ≤ 2147483647) (e5 : ((k : Int) != 5) = true) (e8 : ((k : Int) == 8) = true) (s : ByteArray) (hs : bodyL[k]? = some s)
    (HC : Hid (∀ w, Calls Try.prog 10 #[.agg #[.int .i64 (k : Int), .int .i64 0, .int .i64 id, .string s]] w fun e w' => e = .returned (.tuple #[.int .i64 0, .int .i64 0]) ∧ Keeps nobody w w')) : Calls Try.prog 4 #[.int .i64 (k : Int), .int .i64 id] W (Fine W) := by
  have HZ := hid (body_cell k s hs 9)
  clear hs
  go_enter Try.func4, Try.ntmps4
  go_wp2_with fail
  refine Calls.mono (HA.out _) ?_
  rintro e w1 ⟨rfl, k1⟩
  have hc := HZ.out w1
  clear HA HZ
  go_wp2_with fail
  refine Calls.mono (HC.out _) ?_
  rintro e w2 ⟨rfl, k2⟩
  have kk := (k1.alloc _).then k2
  clear HC k1 k2 hc
  go_wp2
  go_ret
  exact ⟨rfl, below_of_keeps kk⟩

set_option maxRecDepth 100000 in
set_option maxHeartbeats 1000000 in
theorem zero_tt (k : Nat) (id : Int) (W : World) (HA : Hid (∀ w, Calls Try.prog 9 #[] w fun e w' => e = .returned (.bool true) ∧ Keeps nobody w w')) (hk : k < 10) (h2 : 0 ≤ id) (h3 : id ≤ 2147483647) (e5 : ((k : Int) != 5) = true) (e8 : ((k : Int) == 8) = false) (hz : 0 < id) (s : ByteArray) (hs : bodyL[k]? = some s)
    (HC : Hid (∀ w, Calls Try.prog 10 #[.agg #[.int .i64 (k : Int), .int .i64 0, .int .i64 id, .string s]] w fun e w' => e = .returned (.tuple #[.int .i64 0, .int .i64 0]) ∧ Keeps nobody w w'))
    (HS : Hid (∀ w, Calls Try.prog 13 #[.int .i64 (k : Int)] w fun e w' => e = .returned (.bool true) ∧ w = w')) : Calls Try.prog 4 #[.int .i64 (k : Int), .int .i64 id] W (Fine W) := by
  have HZ := hid (body_cell k s hs 9)
  clear hs
  go_enter Try.func4, Try.ntmps4
  go_wp2_with fail
  refine Calls.mono (HA.out _) ?_
  rintro e w1 ⟨rfl, k1⟩
  have hc := HZ.out w1
  clear HA HZ
  go_wp2_with fail
  refine Calls.mono (HC.out _) ?_
  rintro e w2 ⟨rfl, k2⟩
  have kk := (k1.alloc _).then k2
  clear HC k1 k2 hc
  go_wp2_with fail
  refine Calls.mono (HS.out _) ?_
  rintro e w3 ⟨rfl, rfl⟩
  go_wp2
  go_ret
  exact ⟨rfl, below_of_keeps kk⟩

set_option maxRecDepth 100000 in
set_option maxHeartbeats 1000000 in
theorem zero_tf (k : Nat) (id : Int) (W : World) (HA : Hid (∀ w, Calls Try.prog 9 #[] w fun e w' => e = .returned (.bool true) ∧ Keeps nobody w w')) (hk : k < 10) (h2 : 0 ≤ id) (h3 : id ≤ 2147483647) (e5 : ((k : Int) != 5) = true) (e8 : ((k : Int) == 8) = false) (hz : ((0 : Int) < id) = False) (s : ByteArray) (hs : bodyL[k]? = some s)
    (HC : Hid (∀ w, Calls Try.prog 10 #[.agg #[.int .i64 (k : Int), .int .i64 0, .int .i64 id, .string s]] w fun e w' => e = .returned (.tuple #[.int .i64 1, .int .i64 11]) ∧ Keeps nobody w w'))
    (HS : Hid (∀ w, Calls Try.prog 13 #[.int .i64 (k : Int)] w fun e w' => e = .returned (.bool true) ∧ w = w')) : Calls Try.prog 4 #[.int .i64 (k : Int), .int .i64 id] W (Fine W) := by
  have HZ := hid (body_cell k s hs 9)
  clear hs
  go_enter Try.func4, Try.ntmps4
  go_wp2_with fail
  refine Calls.mono (HA.out _) ?_
  rintro e w1 ⟨rfl, k1⟩
  have hc := HZ.out w1
  clear HA HZ
  go_wp2_with fail
  refine Calls.mono (HC.out _) ?_
  rintro e w2 ⟨rfl, k2⟩
  have kk := (k1.alloc _).then k2
  clear HC k1 k2 hc
  go_wp2_with fail
  refine Calls.mono (HS.out _) ?_
  rintro e w3 ⟨rfl, rfl⟩
  go_wp2
  go_ret
  exact ⟨rfl, below_of_keeps kk⟩

set_option maxRecDepth 100000 in
set_option maxHeartbeats 1000000 in
theorem zero_ft (k : Nat) (id : Int) (W : World) (HA : Hid (∀ w, Calls Try.prog 9 #[] w fun e w' => e = .returned (.bool true) ∧ Keeps nobody w w')) (hk : k < 10) (h2 : 0 ≤ id) (h3 : id ≤ 2147483647) (e5 : ((k : Int) != 5) = true) (e8 : ((k : Int) == 8) = false) (hz : 0 < id) (s : ByteArray) (hs : bodyL[k]? = some s)
    (HC : Hid (∀ w, Calls Try.prog 10 #[.agg #[.int .i64 (k : Int), .int .i64 0, .int .i64 id, .string s]] w fun e w' => e = .returned (.tuple #[.int .i64 1, .int .i64 11]) ∧ Keeps nobody w w'))
    (HS : Hid (∀ w, Calls Try.prog 13 #[.int .i64 (k : Int)] w fun e w' => e = .returned (.bool false) ∧ w = w')) : Calls Try.prog 4 #[.int .i64 (k : Int), .int .i64 id] W (Fine W) := by
  have HZ := hid (body_cell k s hs 9)
  clear hs
  go_enter Try.func4, Try.ntmps4
  go_wp2_with fail
  refine Calls.mono (HA.out _) ?_
  rintro e w1 ⟨rfl, k1⟩
  have hc := HZ.out w1
  clear HA HZ
  go_wp2_with fail
  refine Calls.mono (HC.out _) ?_
  rintro e w2 ⟨rfl, k2⟩
  have kk := (k1.alloc _).then k2
  clear HC k1 k2 hc
  go_wp2_with fail
  refine Calls.mono (HS.out _) ?_
  rintro e w3 ⟨rfl, rfl⟩
  go_wp2
  go_ret
  exact ⟨rfl, below_of_keeps kk⟩

set_option maxRecDepth 100000 in
set_option maxHeartbeats 1000000 in
theorem zero_ff (k : Nat) (id : Int) (W : World) (HA : Hid (∀ w, Calls Try.prog 9 #[] w fun e w' => e = .returned (.bool true) ∧ Keeps nobody w w')) (hk : k < 10) (h2 : 0 ≤ id) (h3 : id ≤ 2147483647) (e5 : ((k : Int) != 5) = true) (e8 : ((k : Int) == 8) = false) (hz : ((0 : Int) < id) = False) (s : ByteArray) (hs : bodyL[k]? = some s)
    (HC : Hid (∀ w, Calls Try.prog 10 #[.agg #[.int .i64 (k : Int), .int .i64 0, .int .i64 id, .string s]] w fun e w' => e = .returned (.tuple #[.int .i64 0, .int .i64 0]) ∧ Keeps nobody w w'))
    (HS : Hid (∀ w, Calls Try.prog 13 #[.int .i64 (k : Int)] w fun e w' => e = .returned (.bool false) ∧ w = w')) : Calls Try.prog 4 #[.int .i64 (k : Int), .int .i64 id] W (Fine W) := by
  have HZ := hid (body_cell k s hs 9)
  clear hs
  go_enter Try.func4, Try.ntmps4
  go_wp2_with fail
  refine Calls.mono (HA.out _) ?_
  rintro e w1 ⟨rfl, k1⟩
  have hc := HZ.out w1
  clear HA HZ
  go_wp2_with fail
  refine Calls.mono (HC.out _) ?_
  rintro e w2 ⟨rfl, k2⟩
  have kk := (k1.alloc _).then k2
  clear HC k1 k2 hc
  go_wp2_with fail
  refine Calls.mono (HS.out _) ?_
  rintro e w3 ⟨rfl, rfl⟩
  go_wp2
  go_ret
  exact ⟨rfl, below_of_keeps kk⟩

theorem zero_true (k id : Int) (W : World) : Calls Try.prog 4 #[.int .i64 k, .int .i64 id] W (Fine W) := by
  have HA : Hid (∀ w, Calls Try.prog 9 #[] w fun e w' => e = .returned (.bool true) ∧ Keeps nobody w w') := fun w => alive_ok w
  by_cases h0 : 0 ≤ k
  · by_cases h1 : k ≤ 9
    · by_cases h2 : 0 ≤ id
      · by_cases h3 : id ≤ 2147483647
        · obtain ⟨i, rfl⟩ := Int.eq_ofNat_of_zero_le h0
          have hi : i < 10 := by omega
          obtain ⟨s, hs⟩ : ∃ s, bodyL[i]? = some s := ⟨_, List.getElem?_eq_getElem (by rw [bodyL_length]; exact hi)⟩
          have hsz : s.size ≤ 140737488355328 := by
            have : ∀ x ∈ bodyL, x.size ≤ 140737488355328 := by decide +kernel
            exact this s (List.mem_of_getElem? hs)
          have HC := fun w => check_ok ⟨i, 0, id, s⟩ w hsz
          rw [zero_check i id s hs h2 h3] at HC
          have HS := fun w => streamed_ok i w
          by_cases e5 : i = 5
          · have g : zgood i (decide (0 < id)) = false := by simp [zgood, e5]
            rw [g] at HC
            exact zero_five i id W HA hi h2 h3 (by simp; omega) s hs HC
          · by_cases e8 : i = 8
            · have g : zgood i (decide (0 < id)) = true := by simp [zgood, e8]
              rw [g] at HC
              exact zero_eight i id W HA hi h2 h3 (by simp; omega) (by simp; omega) s hs HC
            · have g : zgood i (decide (0 < id)) = (streamed i == decide (0 < id)) := by
                have b5 : (i != 5) = true := by simpa using e5
                have b8 : (i == 8) = false := by simpa using e8
                rw [zgood, b5, b8]
                rfl
              rw [g] at HC
              have f5 : ((i : Int) != 5) = true := by simp; omega
              have f8 : ((i : Int) == 8) = false := by simp; omega
              by_cases hz : 0 < id
              · cases hst : streamed (i : Int) with
                | true =>
                  rw [hst] at HS
                  rw [hst, decide_eq_true hz] at HC
                  exact zero_tt i id W HA hi h2 h3 f5 f8 hz s hs HC HS
                | false =>
                  rw [hst] at HS
                  rw [hst, decide_eq_true hz] at HC
                  exact zero_ft i id W HA hi h2 h3 f5 f8 hz s hs HC HS
              · cases hst : streamed (i : Int) with
                | true =>
                  rw [hst] at HS
                  rw [hst, decide_eq_false hz] at HC
                  exact zero_tf i id W HA hi h2 h3 f5 f8 (by simp; omega) s hs HC HS
                | false =>
                  rw [hst] at HS
                  rw [hst, decide_eq_false hz] at HC
                  exact zero_ff i id W HA hi h2 h3 f5 f8 (by simp; omega) s hs HC HS
        · exact zero_off3 k id W HA h0 h1 h2 (by omega)
      · exact zero_off2 k id W HA h0 h1 (by omega)
    · exact zero_off1 k id W HA h0 (by omega)
  · exact zero_off0 k id W HA (by omega)
end Go.Proofs.Ytcbgjdfcndgaaaa
