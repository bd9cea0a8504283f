/-
  Package rule: Known, Streamed, Error, placed, sized, Check.
-/
import Derived.Test.YtdpbnlamdgdljaaUSpec
namespace Go.Proofs.Ytdpbnlamdgdljaa
open Go.RowKit
attribute [local irreducible] numL byteAt endOf idOf nums str unpadA behind stripA

theorem streamed_ok (k : Int) (w : World) : Calls Try.prog 66 #[.int .i64 k] w fun e w' => e = .returned (.bool (streamed k)) ∧ w = w' := by
  by_cases h : k = 0 ∨ k = 1 ∨ k = 2 ∨ k = 3 ∨ k = 9
  · have e : streamed k = true := by rcases h with rfl | rfl | rfl | rfl | rfl <;> rfl
    rw [e]
    clear e
    rcases h with rfl | rfl | rfl | rfl | rfl
    all_goals
      go_enter Try.func66, Try.ntmps66
      go_wp2
      go_ret
      exact ⟨rfl, rfl⟩
  · have h0 : (k == 0) = false := by simp; omega
    have h1 : (k == 1) = false := by simp; omega
    have h2 : (k == 2) = false := by simp; omega
    have h3 : (k == 3) = false := by simp; omega
    have h9 : (k == 9) = false := by simp; omega
    have e : streamed k = false := by simp [streamed, h0, h1, h2, h3, h9]
    rw [e]
    clear e h
    go_enter Try.func66, Try.ntmps66
    go_wp2
    go_ret
    exact ⟨rfl, rfl⟩

theorem placed_ok (k id : Int) (w : World) : Calls Try.prog 61 #[.int .i64 k, .int .i64 id] w fun e w' => e = .returned (.bool (placed k id)) ∧ w = w' := by
  have HS : Hid (∀ w, Calls Try.prog 66 #[.int .i64 k] w fun e w' => e = .returned (.bool (streamed k)) ∧ w = w') := fun w => streamed_ok k w
  cases hs : streamed k with
  | true =>
    have e : placed k id = (id != 0) := by simp [placed, hs]
    rw [e]
    rw [hs] at HS
    clear e hs
    go_enter Try.func61, Try.ntmps61
    go_wp2_with fail
    refine Calls.mono (HS.out _) ?_
    rintro e w1 ⟨rfl, rfl⟩
    go_wp2
    go_ret
    exact ⟨rfl, rfl⟩
  | false =>
    rw [hs] at HS
    by_cases h5 : k = 5
    · subst h5
      have e : placed 5 id = false := by simp [placed, hs]
      rw [e]
      clear e hs
      go_enter Try.func61, Try.ntmps61
      go_wp2_with fail
      refine Calls.mono (HS.out _) ?_
      rintro e w1 ⟨rfl, rfl⟩
      go_wp2
      go_ret
      exact ⟨rfl, rfl⟩
    · by_cases h : k = 4 ∨ k = 6 ∨ k = 7
      · have e : placed k id = (id == 0) := by simp [placed, hs, h5, h]
        rw [e]
        clear e hs h5
        rcases h with rfl | rfl | rfl
        all_goals
          go_enter Try.func61, Try.ntmps61
          go_wp2_with fail
          refine Calls.mono (HS.out _) ?_
          rintro e w1 ⟨rfl, rfl⟩
          go_wp2
          go_ret
          exact ⟨rfl, rfl⟩
      · have e : placed k id = true := by simp [placed, hs, h5, h]
        rw [e]
        have g4 : (k == 4) = false := by simp; omega
        have g5 : (k == 5) = false := by simp; omega
        have g6 : (k == 6) = false := by simp; omega
        have g7 : (k == 7) = false := by simp; omega
        clear e hs h5 h
        go_enter Try.func61, Try.ntmps61
        go_wp2_with fail
        refine Calls.mono (HS.out _) ?_
        rintro e w1 ⟨rfl, rfl⟩
        go_wp2
        go_ret
        exact ⟨rfl, rfl⟩

set_option maxRecDepth 100000 in
theorem sized_4a (fl id : Int) (b : ByteArray) (w : World) (ha : (bits .and .i64 fl 1 != 0) = true) : Calls Try.prog 62 #[frval ⟨4, fl, id, b⟩] w fun e w' => e = .returned (.bool (decide (b.size = 0))) ∧ Keeps nobody w w' := by
  generalize hP : bits .and .i64 fl 1 = P at *
  go_enter Try.func62, Try.ntmps62
  go_wp2
  go_ret
  exact ⟨congrArg (fun b => Ending.returned (Value.bool b)) (by simp [Bool.beq_eq_decide_eq]), keeps_alloc _ _⟩
set_option maxRecDepth 100000 in
theorem sized_4 (fl id : Int) (b : ByteArray) (w : World) (ha : (bits .and .i64 fl 1 != 0) = false) : Calls Try.prog 62 #[frval ⟨4, fl, id, b⟩] w fun e w' => e = .returned (.bool (decide (b.size % 6 = 0))) ∧ Keeps nobody w w' := by
  generalize hP : bits .and .i64 fl 1 = P at *
  go_enter Try.func62, Try.ntmps62
  go_wp2
  go_ret
  exact ⟨congrArg (fun b => Ending.returned (Value.bool b)) (by simp [Bool.beq_eq_decide_eq]; omega), keeps_alloc _ _⟩
set_option maxRecDepth 100000 in
theorem sized_7 (fl id : Int) (b : ByteArray) (w : World) : Calls Try.prog 62 #[frval ⟨7, fl, id, b⟩] w fun e w' => e = .returned (.bool (decide (8 ≤ b.size))) ∧ Keeps nobody w w' := by
  go_enter Try.func62, Try.ntmps62
  go_wp2
  go_ret
  exact ⟨congrArg (fun b => Ending.returned (Value.bool b)) (by simp; omega), keeps_alloc _ _⟩
set_option maxRecDepth 100000 in
theorem sized_2 (fl id : Int) (b : ByteArray) (w : World) : Calls Try.prog 62 #[frval ⟨2, fl, id, b⟩] w fun e w' => e = .returned (.bool (decide (b.size = 5))) ∧ Keeps nobody w w' := by
  go_enter Try.func62, Try.ntmps62
  go_wp2
  go_ret
  exact ⟨congrArg (fun b => Ending.returned (Value.bool b)) (by simp [Bool.beq_eq_decide_eq]; omega), keeps_alloc _ _⟩
set_option maxRecDepth 100000 in
theorem sized_6 (fl id : Int) (b : ByteArray) (w : World) : Calls Try.prog 62 #[frval ⟨6, fl, id, b⟩] w fun e w' => e = .returned (.bool (decide (b.size = 8))) ∧ Keeps nobody w w' := by
  go_enter Try.func62, Try.ntmps62
  go_wp2
  go_ret
  exact ⟨congrArg (fun b => Ending.returned (Value.bool b)) (by simp [Bool.beq_eq_decide_eq]; omega), keeps_alloc _ _⟩
set_option maxRecDepth 100000 in
theorem sized_3 (fl id : Int) (b : ByteArray) (w : World) : Calls Try.prog 62 #[frval ⟨3, fl, id, b⟩] w fun e w' => e = .returned (.bool (decide (b.size = 4))) ∧ Keeps nobody w w' := by
  go_enter Try.func62, Try.ntmps62
  go_wp2
  go_ret
  exact ⟨congrArg (fun b => Ending.returned (Value.bool b)) (by simp [Bool.beq_eq_decide_eq]; omega), keeps_alloc _ _⟩
set_option maxRecDepth 100000 in
theorem sized_8 (fl id : Int) (b : ByteArray) (w : World) : Calls Try.prog 62 #[frval ⟨8, fl, id, b⟩] w fun e w' => e = .returned (.bool (decide (b.size = 4))) ∧ Keeps nobody w w' := by
  go_enter Try.func62, Try.ntmps62
  go_wp2
  go_ret
  exact ⟨congrArg (fun b => Ending.returned (Value.bool b)) (by simp [Bool.beq_eq_decide_eq]; omega), keeps_alloc _ _⟩
set_option maxRecDepth 100000 in
theorem sized_other (k fl id : Int) (b : ByteArray) (w : World) (h4 : (k == 4) = false) (h7 : (k == 7) = false) (h2 : (k == 2) = false) (h6 : (k == 6) = false) (h3 : (k == 3) = false) (h8 : (k == 8) = false) :
    Calls Try.prog 62 #[frval ⟨k, fl, id, b⟩] w fun e w' => e = .returned (.bool true) ∧ Keeps nobody w w' := by
  go_enter Try.func62, Try.ntmps62
  go_wp2
  go_ret
  exact ⟨rfl, keeps_alloc _ _⟩
theorem sized_ok (f : Frm) (w : World) : Calls Try.prog 62 #[frval f] w fun e w' => e = .returned (.bool (sized f.kind (ackB f.flags) f.body.size)) ∧ Keeps nobody w w' := by
  obtain ⟨k, fl, id, b⟩ := f
  simp only [sized]
  by_cases h4 : k = 4
  · subst h4
    cases ha : ackB fl with
    | true => simpa using sized_4a fl id b w ha
    | false => simpa using sized_4 fl id b w ha
  · by_cases h7 : k = 7
    · subst h7; simpa using sized_7 fl id b w
    · by_cases h2 : k = 2
      · subst h2; simpa using sized_2 fl id b w
      · by_cases h6 : k = 6
        · subst h6; simpa using sized_6 fl id b w
        · by_cases h3 : k = 3
          · subst h3; simpa using sized_3 fl id b w
          · by_cases h8 : k = 8
            · subst h8; simpa using sized_8 fl id b w
            · have := sized_other k fl id b w (by simpa using h4) (by simpa using h7) (by simpa using h2) (by simpa using h6) (by simpa using h3) (by simpa using h8)
              simpa [h4, h7, h2, h6, h3, h8] using this
end Go.Proofs.Ytdpbnlamdgdljaa
