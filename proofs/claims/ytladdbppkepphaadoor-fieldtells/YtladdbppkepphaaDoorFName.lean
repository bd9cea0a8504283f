/-
  Package field: Name, Value, forbidden.
-/
import Derived.Test.YtladdbppkepphaaDoorFCode
namespace Go.Proofs.YtladdbppkepphaaDoor
open Go.RowKit

theorem allN_ok (s : ByteArray) (w : World) (hs : s.size ≤ 1000000000) : Calls Tryd.prog 28 #[.string s, .int .i64 2] w fun e w' => e = .returned (.bool (allB okN s)) ∧ w = w' := by
  have := all_ok s 2 w (by simp) hs
  rwa [okP_2] at this
theorem allV_ok (s : ByteArray) (w : World) (hs : s.size ≤ 1000000000) : Calls Tryd.prog 28 #[.string s, .int .i64 4] w fun e w' => e = .returned (.bool (allB okV s)) ∧ w = w' := by
  have := all_ok s 4 w (by simp) hs
  rwa [okP_4] at this
theorem allD_ok (s : ByteArray) (w : World) (hs : s.size ≤ 1000000000) : Calls Tryd.prog 28 #[.string s, .int .i64 1] w fun e w' => e = .returned (.bool (allB okD s)) ∧ w = w' := by
  have := all_ok s 1 w (by simp) hs
  rwa [okP_1] at this

set_option maxRecDepth 100000 in
theorem name_ok (s : ByteArray) (w : World) (hs : s.size ≤ 140737488355328) : Calls Tryd.prog 16 #[.string s] w fun e w' => e = .returned (.bool (nameB s)) ∧ w = w' := by
  unfold nameB
  by_cases h0 : 0 < s.size
  · have hE := isEmpty_of_size s h0
    by_cases h1 : s.size ≤ 40
    · have e : decide (1 ≤ s.size ∧ s.size ≤ 40) = true := by simp; omega
      rw [e, Bool.true_and]
      clear e
      have HC : Hid (∀ w, Calls Tryd.prog 28 #[.string s, .int .i64 2] w fun e w' => e = .returned (.bool (allB okN s)) ∧ w = w') := fun w => allN_ok s w (by omega)
      generalize allB okN s = A at *
      go_enter Tryd.func16, Tryd.ntmps16
      go_wp2_with (go_at_call 28; refine Calls.mono (HC.out _) ?_; rintro e w1 ⟨rfl, rfl⟩)
      go_ret
      exact ⟨rfl, rfl⟩
    · have e : decide (1 ≤ s.size ∧ s.size ≤ 40) = false := by simp; omega
      rw [e, Bool.false_and]
      clear e
      go_enter Tryd.func16, Tryd.ntmps16
      go_wp2
      go_ret
      exact ⟨rfl, rfl⟩
  · obtain rfl := eq_empty_of_size s h0
    clear h0 hs
    have e : decide (1 ≤ (⟨#[]⟩ : ByteArray).size ∧ (⟨#[]⟩ : ByteArray).size ≤ 40) = false := rfl
    rw [e, Bool.false_and]
    clear e
    go_enter Tryd.func16, Tryd.ntmps16
    go_wp2
    go_ret
    exact ⟨rfl, rfl⟩

set_option maxRecDepth 100000 in
theorem value_ok (s : ByteArray) (w : World) (hs : s.size ≤ 140737488355328) : Calls Tryd.prog 18 #[.string s] w fun e w' => e = .returned (.bool (valueB s)) ∧ w = w' := by
  unfold valueB
  by_cases h1 : s.size ≤ 200
  · rw [decide_eq_true h1, Bool.true_and]
    have HC : Hid (∀ w, Calls Tryd.prog 28 #[.string s, .int .i64 4] w fun e w' => e = .returned (.bool (allB okV s)) ∧ w = w') := fun w => allV_ok s w (by omega)
    have HP : Hid (∀ w, Calls Tryd.prog 30 #[.string s, .string ⟨#[32]⟩] w fun e w' => e = .returned (.bool (Lib.hasPrefix s.data.toList [32])) ∧ w = w') := fun w => hasPrefix_ok s ⟨#[32]⟩ w
    have HS : Hid (∀ w, Calls Tryd.prog 31 #[.string s, .string ⟨#[32]⟩] w fun e w' => e = .returned (.bool (Lib.hasSuffix s.data.toList [32])) ∧ w = w') := fun w => hasSuffix_ok s ⟨#[32]⟩ w (by omega)
    generalize allB okV s = A at *
    generalize Lib.hasPrefix s.data.toList [32] = B at *
    generalize Lib.hasSuffix s.data.toList [32] = C at *
    cases A <;> cases B
    all_goals
      go_enter Tryd.func18, Tryd.ntmps18
      go_wp2_with (first | (go_at_call 28; refine Calls.mono (HC.out _) ?_; rintro e w1 ⟨rfl, rfl⟩) | (go_at_call 30; refine Calls.mono (HP.out _) ?_; rintro e w1 ⟨rfl, rfl⟩) | (go_at_call 31; refine Calls.mono (HS.out _) ?_; rintro e w1 ⟨rfl, rfl⟩))
      go_ret
      exact ⟨by cases C <;> rfl, rfl⟩
  · rw [decide_eq_false h1, Bool.false_and, Bool.false_and, Bool.false_and]
    go_enter Tryd.func18, Tryd.ntmps18
    go_wp2
    go_ret
    exact ⟨rfl, rfl⟩

theorem beq_lit_of_ne {n : ByteArray} {L : List UInt8} (h : n ≠ ⟨⟨L⟩⟩) : (n.toList == L) = false := by
  have := beq_list_of_ne h
  rwa [ByteArray.toList_eq ⟨⟨L⟩⟩] at this
set_option maxRecDepth 100000 in
theorem forbidden_ok (f : Fld) (w : World) : Calls Tryd.prog 48 #[fval f] w fun e w' => e = .returned (.bool (forbB f)) ∧ Keeps nobody w w' := by
  obtain ⟨n, v⟩ := f
  unfold forbB
  by_cases h1 : n = sConn
  · subst h1
    rw [decide_eq_true (.inl rfl)]
    go_enter Tryd.func48, Tryd.ntmps48
    go_wp2
    go_ret
    exact ⟨rfl, keeps_alloc _ _⟩
  · have z1 := beq_lit_of_ne h1
    by_cases h2 : n = sTransfer
    · subst h2
      rw [decide_eq_true (.inr (.inl rfl))]
      go_enter Tryd.func48, Tryd.ntmps48
      go_wp2
      go_ret
      exact ⟨rfl, keeps_alloc _ _⟩
    · have z2 := beq_lit_of_ne h2
      by_cases h3 : n = sUpgrade
      · subst h3
        rw [decide_eq_true (.inr (.inr (.inl rfl)))]
        go_enter Tryd.func48, Tryd.ntmps48
        go_wp2
        go_ret
        exact ⟨rfl, keeps_alloc _ _⟩
      · have z3 := beq_lit_of_ne h3
        by_cases h4 : n = sKeep
        · subst h4
          rw [decide_eq_true (.inr (.inr (.inr (.inl rfl))))]
          go_enter Tryd.func48, Tryd.ntmps48
          go_wp2
          go_ret
          exact ⟨rfl, keeps_alloc _ _⟩
        · have z4 := beq_lit_of_ne h4
          by_cases h5 : n = sTe
          · by_cases h6 : v = sTrailers
            · rw [decide_eq_false (by rintro (h | h | h | h | ⟨_, h⟩) <;> first | exact h1 h | exact h2 h | exact h3 h | exact h4 h | exact h h6)]
              subst h5 h6
              clear h1 h2 h3 h4 z1 z2 z3 z4
              go_enter Tryd.func48, Tryd.ntmps48
              go_wp2
              go_ret
              exact ⟨rfl, keeps_alloc _ _⟩
            · have z6 := beq_lit_of_ne h6
              rw [decide_eq_true (.inr (.inr (.inr (.inr ⟨h5, h6⟩))))]
              subst h5
              clear h1 h2 h3 h4 z1 z2 z3 z4
              go_enter Tryd.func48, Tryd.ntmps48
              go_wp2
              go_ret
              exact ⟨rfl, keeps_alloc _ _⟩
          · have z5 := beq_lit_of_ne h5
            rw [decide_eq_false (by rintro (h | h | h | h | ⟨h, _⟩) <;> first | exact h1 h | exact h2 h | exact h3 h | exact h4 h | exact h5 h)]
            go_enter Tryd.func48, Tryd.ntmps48
            go_wp2
            go_ret
            exact ⟨rfl, keeps_alloc _ _⟩

/-- Get, over a list that lies wherever. -/
theorem getL_at (name : ByteArray) (l : List Fld) (j : Nat) (hj : j < l.length) : getL name (l.drop j) = if (l[j]'hj).1 = name then some (l[j]'hj).2 else getL name (l.drop (j + 1)) := by
  rw [List.drop_eq_getElem_cons hj]
  unfold getL
  rw [List.find?_cons]
  by_cases h : (l[j]'hj).1 = name
  · rw [if_pos h, decide_eq_true h]
    rfl
  · rw [if_neg h, decide_eq_false h]
attribute [local irreducible] getL
set_option maxRecDepth 100000 in
theorem get_ok {w : World} {a : Option Addr} {l : List Fld} {S : Nat → Prop} (name : ByteArray) (c : Nat) (h : Lies w a l S) (hl : l.length ≤ 1000000) : Calls Tryd.prog 12 #[.string name, .slice a l.length c] w fun e w' => e = .returned (getV (getL name l)) ∧ Keeps nobody w w' := by
  have HG : Hid (getL name (l.drop 0) = getL name l) := rfl
  generalize getL name l = g at *
  go_enter Tryd.func12, Tryd.ntmps12
  go_wp2
  go_loopg [10] l.length (fun k i wr => ∃ j : Nat, i = .int .i64 j ∧ k + j = l.length ∧ Keeps nobody w wr ∧ getL name (l.drop j) = g)
  case atStart => exact ⟨0, rfl, rfl, Keeps.refl _ _, HG.out⟩
  case round =>
    obtain ⟨j, rfl, hk, hK, hg⟩ := hrel
    by_cases hj : j < l.length
    · obtain ⟨b, off, rfl, hb, _, c0, c1⟩ := (h.quiet hK).at j hj
      rw [getL_at name l j hj] at hg
      generalize l[j]'hj = f at *
      obtain ⟨x, y⟩ := f
      simp only at c0 c1 hg
      by_cases hx : x = name
      · rw [if_pos hx] at hg
        subst hx hg
        clear HG
        have z1 : (x.toList == x.toList) = true := beq_list_of_eq rfl
        go_wp2
        exact bodyPost_ret (v := getV (some y)) (by simp [results, Tryd.results12, go_sem, getV]) rfl ⟨rfl, hK.then (keeps_alloc _ _)⟩
      · rw [if_neg hx] at hg
        have z1 := beq_list_of_ne hx
        have H1 := hid hg
        have H2 := hid hk
        clear hg hk HG hx
        go_wp2
        have hk := H2.out
        go_roundg (gk - 1)
        case measure => omega
        case rel => exact ⟨j + 1, by simp, by omega, hK.then (keeps_alloc _ _), H1.out⟩
    · rw [List.drop_eq_nil_of_le (by omega)] at hg
      obtain rfl : g = none := by rw [← hg]; unfold getL; rfl
      clear HG hg
      go_wp2
      exact bodyPost_ret (v := getV none) (by simp [results, Tryd.results12, go_sem, getV]) rfl ⟨rfl, hK⟩
end Go.Proofs.YtladdbppkepphaaDoor
