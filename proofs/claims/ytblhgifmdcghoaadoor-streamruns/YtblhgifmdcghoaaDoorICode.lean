/-
  Package stream: carries, moves, known, behind, Sent, Got, Writes, Reads.
-/
import Derived.Test.YtblhgifmdcghoaaDoorISpec
namespace Go.Proofs.YtblhgifmdcghoaaDoor
open Go.RowKit

theorem st_carries (k : Int) (w : World) : Calls Tryd.prog 20 #[.int .i64 k] w fun e w' => e = .returned (.bool (carryB k)) ∧ w = w' := by
  by_cases h : k = 0 ∨ k = 1
  · rcases h with rfl | rfl
    all_goals
      go_enter Tryd.func20, Tryd.ntmps20
      go_wp2
      go_ret
      exact ⟨rfl, rfl⟩
  · have h0 : (k == 0) = false := by simp; omega
    have h1 : (k == 1) = false := by simp; omega
    have e : carryB k = false := by simp [carryB, h0, h1]
    rw [e]
    clear e h
    go_enter Tryd.func20, Tryd.ntmps20
    go_wp2
    go_ret
    exact ⟨rfl, rfl⟩

theorem st_moves (k : Int) (w : World) : Calls Tryd.prog 18 #[.int .i64 k] w fun e w' => e = .returned (.bool (moveB k)) ∧ w = w' := by
  by_cases h : k = 0 ∨ k = 1 ∨ k = 3 ∨ k = 8 ∨ k = 2
  · have HC : Hid (∀ w, Calls Tryd.prog 20 #[.int .i64 k] w fun e w' => e = .returned (.bool (carryB k)) ∧ w = w') := st_carries k
    have e : moveB k = true := by rcases h with rfl | rfl | rfl | rfl | rfl <;> rfl
    rw [e]
    clear e
    rcases h with rfl | rfl | rfl | rfl | rfl
    all_goals
      simp only [carryB] at HC
      go_enter Tryd.func18, Tryd.ntmps18
      go_wp2_with fail
      refine Calls.mono (HC.out _) ?_
      rintro e w1 ⟨rfl, rfl⟩
      go_wp2
      go_ret
      exact ⟨rfl, rfl⟩
  · have h0 : (k == 0) = false := by simp; omega
    have h1 : (k == 1) = false := by simp; omega
    have h2 : (k == 2) = false := by simp; omega
    have h3 : (k == 3) = false := by simp; omega
    have h8 : (k == 8) = false := by simp; omega
    have e : moveB k = false := by simp [moveB, carryB, h0, h1, h2, h3, h8]
    have ec : carryB k = false := by simp [carryB, h0, h1]
    have HC : Hid (∀ w, Calls Tryd.prog 20 #[.int .i64 k] w fun e w' => e = .returned (.bool false) ∧ w = w') := ec ▸ st_carries k
    rw [e]
    clear e ec h
    go_enter Tryd.func18, Tryd.ntmps18
    go_wp2_with fail
    refine Calls.mono (HC.out _) ?_
    rintro e w1 ⟨rfl, rfl⟩
    go_wp2
    go_ret
    exact ⟨rfl, rfl⟩

theorem st_known (s : Int) (w : World) : Calls Tryd.prog 17 #[.int .i64 s] w fun e w' => e = .returned (.bool (stateB s)) ∧ w = w' := by
  by_cases h : 0 ≤ s
  · by_cases h4 : s ≤ 4
    · rw [state_of h h4]
      go_enter Tryd.func17, Tryd.ntmps17
      go_wp2
      go_ret
      exact ⟨congrArg (fun b => Ending.returned (Value.bool b)) (show _ = true from by first | rfl | (simp; omega)), rfl⟩
    · have e : stateB s = false := by simp [stateB, h4]
      rw [e]
      clear e
      go_enter Tryd.func17, Tryd.ntmps17
      go_wp2
      go_ret
      exact ⟨congrArg (fun b => Ending.returned (Value.bool b)) (show _ = false from by first | rfl | (simp; omega)), rfl⟩
  · have e : stateB s = false := by simp [stateB, h]
    rw [e]
    clear e
    go_enter Tryd.func17, Tryd.ntmps17
    go_wp2
    go_ret
    exact ⟨rfl, rfl⟩

theorem st_behind (s k : Int) (en : Bool) (side : Int) (w : World) : Calls Tryd.prog 19 #[.int .i64 s, .int .i64 k, .bool en, .int .i64 side] w fun e w' => e = .returned (.int .i64 (behindA s k en side)) ∧ w = w' := by
  have HC : Hid (∀ w, Calls Tryd.prog 20 #[.int .i64 k] w fun e w' => e = .returned (.bool (carryB k)) ∧ w = w') := st_carries k
  by_cases h3 : k = 3
  · have e : behindA s k en side = 4 := by simp [behindA, h3]
    rw [e]
    clear e HC
    subst h3
    go_enter Tryd.func19, Tryd.ntmps19
    go_wp2
    go_ret
    exact ⟨rfl, rfl⟩
  · have g3 : (k == 3) = false := by simpa using h3
    cases hc : carryB k with
    | false =>
      have e : behindA s k en side = s := by simp [behindA, h3, hc]
      rw [hc] at HC
      rw [e]
      clear e h3 hc
      go_enter Tryd.func19, Tryd.ntmps19
      go_wp2_with fail
      refine Calls.mono (HC.out _) ?_
      rintro e w1 ⟨rfl, rfl⟩
      go_wp2
      go_ret
      exact ⟨rfl, rfl⟩
    | true =>
      cases en with
      | false =>
        have e : behindA s k false side = s := by simp [behindA, h3]
        rw [hc] at HC
        rw [e]
        clear e h3 hc
        go_enter Tryd.func19, Tryd.ntmps19
        go_wp2_with fail
        refine Calls.mono (HC.out _) ?_
        rintro e w1 ⟨rfl, rfl⟩
        go_wp2
        go_ret
        exact ⟨rfl, rfl⟩
      | true =>
        rw [hc] at HC
        by_cases h1 : s = 1
        · have e : behindA s k true side = side := by simp [behindA, h3, hc, h1]
          rw [e]
          clear e h3 hc
          subst h1
          go_enter Tryd.func19, Tryd.ntmps19
          go_wp2_with fail
          refine Calls.mono (HC.out _) ?_
          rintro e w1 ⟨rfl, rfl⟩
          go_wp2
          go_ret
          exact ⟨rfl, rfl⟩
        · have g1 : (s == 1) = false := by simpa using h1
          have e : behindA s k true side = 4 := by simp [behindA, h3, hc, h1]
          rw [e]
          clear e h3 hc h1
          go_enter Tryd.func19, Tryd.ntmps19
          go_wp2_with fail
          refine Calls.mono (HC.out _) ?_
          rintro e w1 ⟨rfl, rfl⟩
          go_wp2
          go_ret
          exact ⟨rfl, rfl⟩

theorem st_writes (s : Int) (w : World) : Calls Tryd.prog 15 #[.int .i64 s] w fun e w' => e = .returned (.bool (writesB s)) ∧ w = w' := by
  by_cases h : s = 1 ∨ s = 3
  · rcases h with rfl | rfl
    all_goals
      go_enter Tryd.func15, Tryd.ntmps15
      go_wp2
      go_ret
      exact ⟨rfl, rfl⟩
  · have h0 : (s == 1) = false := by simp; omega
    have h1 : (s == 3) = false := by simp; omega
    have e : writesB s = false := by simp [writesB, h0, h1]
    rw [e]
    clear e h
    go_enter Tryd.func15, Tryd.ntmps15
    go_wp2
    go_ret
    exact ⟨rfl, rfl⟩
theorem st_reads (s : Int) (w : World) : Calls Tryd.prog 16 #[.int .i64 s] w fun e w' => e = .returned (.bool (readsB s)) ∧ w = w' := by
  by_cases h : s = 1 ∨ s = 2
  · rcases h with rfl | rfl
    all_goals
      go_enter Tryd.func16, Tryd.ntmps16
      go_wp2
      go_ret
      exact ⟨rfl, rfl⟩
  · have h0 : (s == 1) = false := by simp; omega
    have h1 : (s == 2) = false := by simp; omega
    have e : readsB s = false := by simp [readsB, h0, h1]
    rw [e]
    clear e h
    go_enter Tryd.func16, Tryd.ntmps16
    go_wp2
    go_ret
    exact ⟨rfl, rfl⟩
end Go.Proofs.YtblhgifmdcghoaaDoor
