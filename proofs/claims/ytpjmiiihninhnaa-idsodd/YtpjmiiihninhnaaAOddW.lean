/-
  The law IdsOdd, walked.
-/
import Derived.Test.YtpjmiiihninhnaaALive
namespace Go.Proofs.Ytpjmiiihninhnaa
open Go.RowKit

theorem kind_new (first id : Int) : kindI (newI first) id = if rightB id = true then 2 else 0 := by
  unfold kindI newI
  split
  · rw [if_neg (by simp only; omega)]
  · rfl
theorem next_new (first : Int) (h : first ≤ 2147483647) : nextI (newI first) = (⟨first, first⟩, first, true) := by
  unfold nextI newI
  rw [if_pos (by simp only; omega)]
  simp
theorem kind_first (first : Int) (h : rightB first = true) : kindI ⟨first, first⟩ first = 1 := by simp [kindI, h]
set_option maxRecDepth 100000 in
theorem odd_no (first id : Int) (w : World) (h : rightB first = false) : Calls Try.prog 5 #[.int .i64 first, .int .i64 id] w (Fine w) := by
  have HA : Hid (∀ W, Calls Try.prog 6 #[] W fun e w' => e = .returned (.bool true) ∧ Keeps nobody W w') := alive_ok
  have HN : Hid (∀ W, Calls Try.prog 7 #[.int .i64 first] W fun e w' => e = .returned (.pointer none) ∧ W = w') := fun W => new_no first W h
  have hno := (right_off first).1 h
  clear h
  by_cases h1 : 1 ≤ first
  · by_cases h2 : first ≤ 2147483647
    · have hr := rem_two (show 0 ≤ first by omega)
      rw [show first % 2 = 0 by omega] at hr
      clear hno
      go_enter Try.func5, Try.ntmps5
      go_wp2_with fail
      refine Calls.mono (HA.out _) ?_
      rintro e w1 ⟨rfl, k1⟩
      go_wp2_with fail
      refine Calls.mono (HN.out _) ?_
      rintro e w2 ⟨rfl, rfl⟩
      go_wp2
      go_ret
      exact ⟨rfl, below_of_keeps k1⟩
    · clear hno
      go_enter Try.func5, Try.ntmps5
      go_wp2_with fail
      refine Calls.mono (HA.out _) ?_
      rintro e w1 ⟨rfl, k1⟩
      go_wp2_with fail
      refine Calls.mono (HN.out _) ?_
      rintro e w2 ⟨rfl, rfl⟩
      go_wp2
      go_ret
      exact ⟨rfl, below_of_keeps k1⟩
  · clear hno
    go_enter Try.func5, Try.ntmps5
    go_wp2_with fail
    refine Calls.mono (HA.out _) ?_
    rintro e w1 ⟨rfl, k1⟩
    go_wp2_with fail
    refine Calls.mono (HN.out _) ?_
    rintro e w2 ⟨rfl, rfl⟩
    go_wp2
    go_ret
    exact ⟨rfl, below_of_keeps k1⟩
set_option maxRecDepth 100000 in
theorem odd_main (first id : Int) (w : World) (h : rightB first = true) : Calls Try.prog 5 #[.int .i64 first, .int .i64 id] w (Fine w) := by
  have HA : Hid (∀ W, Calls Try.prog 6 #[] W fun e w' => e = .returned (.bool true) ∧ Keeps nobody W w') := alive_ok
  have HN : Hid (∀ W, Hold w W [] → Calls Try.prog 7 #[.int .i64 first] W fun e w' => ∃ g, e = .returned (.pointer (some ⟨g, 0, none⟩)) ∧ Hid (Hold w w' [idT g (newI first)])) := fun W H => t_new H first h
  obtain ⟨h1, h2, h3⟩ := (right_iff first).1 h
  have hr := rem_two (show 0 ≤ first by omega)
  rw [h3] at hr
  have HX : Hid (∀ W g, Hold w W [idT g (newI first)] → Calls Try.prog 8 #[.pointer (some ⟨g, 0, none⟩)] W fun e w' => e = .returned (.tuple #[.int .i64 first, .bool true]) ∧ Hid (Hold w w' [idT g ⟨first, first⟩])) := fun W g H => t_next H (new_fit h) (next_new first h2)
  have HF : Hid (∀ W g, Hold w W [idT g ⟨first, first⟩] → Calls Try.prog 10 #[.pointer (some ⟨g, 0, none⟩), .int .i64 first] W fun e w' => e = .returned (.int .i64 1) ∧ W = w') := fun W g H => t_kind H h1 first (kind_first first h)
  have key : ∀ b, rightB id = b → Hid (∀ W g, Hold w W [idT g (newI first)] → Calls Try.prog 10 #[.pointer (some ⟨g, 0, none⟩), .int .i64 id] W fun e w' => e = .returned (.int .i64 (if b = true then 2 else 0)) ∧ W = w') := fun b hb W g H => t_kind H h1 id (by rw [kind_new, hb])
  clear h h3
  by_cases i1 : 1 ≤ id
  · by_cases i2 : id ≤ 2147483647
    · have ir := rem_two (show 0 ≤ id by omega)
      by_cases i3 : id % 2 = 1
      · have HK := key true ((right_iff id).2 ⟨i1, i2, i3⟩)
        rw [if_pos rfl] at HK
        rw [i3] at ir
        clear key i3
        go_enter Try.func5, Try.ntmps5
        go_wp2_with fail
        refine Calls.mono (HA.out _) ?_
        rintro e w1 ⟨rfl, k1⟩
        have H1 := hid ((hold_start w).quiet k1)
        go_wp2_with fail
        refine Calls.mono (HN.out _ H1.out) ?_
        rintro e w2 ⟨g, rfl, H2⟩
        go_wp2_with fail
        refine Calls.mono (HK.out _ _ H2.out) ?_
        rintro e w3 ⟨rfl, rfl⟩
        go_wp2_with fail
        refine Calls.mono (HX.out _ _ H2.out) ?_
        rintro e w4 ⟨rfl, H4⟩
        go_wp2_with fail
        refine Calls.mono (HF.out _ _ H4.out) ?_
        rintro e w5 ⟨rfl, rfl⟩
        go_wp2
        go_ret
        exact ⟨rfl, H4.out.below⟩
      · have HK := key false ((right_off id).2 fun h => i3 h.2.2)
        rw [if_neg (by decide)] at HK
        rw [show id % 2 = 0 by omega] at ir
        clear key i3
        go_enter Try.func5, Try.ntmps5
        go_wp2_with fail
        refine Calls.mono (HA.out _) ?_
        rintro e w1 ⟨rfl, k1⟩
        have H1 := hid ((hold_start w).quiet k1)
        go_wp2_with fail
        refine Calls.mono (HN.out _ H1.out) ?_
        rintro e w2 ⟨g, rfl, H2⟩
        go_wp2_with fail
        refine Calls.mono (HK.out _ _ H2.out) ?_
        rintro e w3 ⟨rfl, rfl⟩
        go_wp2_with fail
        refine Calls.mono (HX.out _ _ H2.out) ?_
        rintro e w4 ⟨rfl, H4⟩
        go_wp2_with fail
        refine Calls.mono (HF.out _ _ H4.out) ?_
        rintro e w5 ⟨rfl, rfl⟩
        go_wp2
        go_ret
        exact ⟨rfl, H4.out.below⟩
    · have HK := key false ((right_off id).2 fun h => i2 h.2.1)
      rw [if_neg (by decide)] at HK
      clear key
      go_enter Try.func5, Try.ntmps5
      go_wp2_with fail
      refine Calls.mono (HA.out _) ?_
      rintro e w1 ⟨rfl, k1⟩
      have H1 := hid ((hold_start w).quiet k1)
      go_wp2_with fail
      refine Calls.mono (HN.out _ H1.out) ?_
      rintro e w2 ⟨g, rfl, H2⟩
      go_wp2_with fail
      refine Calls.mono (HK.out _ _ H2.out) ?_
      rintro e w3 ⟨rfl, rfl⟩
      go_wp2_with fail
      refine Calls.mono (HX.out _ _ H2.out) ?_
      rintro e w4 ⟨rfl, H4⟩
      go_wp2_with fail
      refine Calls.mono (HF.out _ _ H4.out) ?_
      rintro e w5 ⟨rfl, rfl⟩
      go_wp2
      go_ret
      exact ⟨rfl, H4.out.below⟩
  · have HK := key false ((right_off id).2 fun h => i1 h.1)
    rw [if_neg (by decide)] at HK
    clear key
    go_enter Try.func5, Try.ntmps5
    go_wp2_with fail
    refine Calls.mono (HA.out _) ?_
    rintro e w1 ⟨rfl, k1⟩
    have H1 := hid ((hold_start w).quiet k1)
    go_wp2_with fail
    refine Calls.mono (HN.out _ H1.out) ?_
    rintro e w2 ⟨g, rfl, H2⟩
    go_wp2_with fail
    refine Calls.mono (HK.out _ _ H2.out) ?_
    rintro e w3 ⟨rfl, rfl⟩
    go_wp2_with fail
    refine Calls.mono (HX.out _ _ H2.out) ?_
    rintro e w4 ⟨rfl, H4⟩
    go_wp2_with fail
    refine Calls.mono (HF.out _ _ H4.out) ?_
    rintro e w5 ⟨rfl, rfl⟩
    go_wp2
    go_ret
    exact ⟨rfl, H4.out.below⟩
theorem odd_walk (first id : Int) (w : World) : Calls Try.prog 5 #[.int .i64 first, .int .i64 id] w (Fine w) := by
  cases h : rightB first with
  | false => exact odd_no first id w h
  | true => exact odd_main first id w h
end Go.Proofs.Ytpjmiiihninhnaa
