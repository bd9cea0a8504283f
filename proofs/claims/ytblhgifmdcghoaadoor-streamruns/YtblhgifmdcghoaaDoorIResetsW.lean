/-
  The laws StreamResets, StreamReads, StreamErrors as walks.
-/
import Derived.Test.YtblhgifmdcghoaaDoorIName
import Derived.Test.YtblhgifmdcghoaaDoorGStr
namespace Go.Proofs.YtblhgifmdcghoaaDoor
open Go.RowKit

abbrev Alv (W : World) : Prop := Hid (Calls Tryd.prog 9 #[] W fun e w' => e = .returned (.bool true) ∧ W = w')
abbrev SeC (s k : Int) (en : Bool) (a e : Int) : Prop := Hid (∀ w, StC w 10 s k en (a, e))
abbrev GoC (s k : Int) (en : Bool) (a e : Int) : Prop := Hid (∀ w, StC w 12 s k en (a, e))

theorem sresets_n (s : Int) (en : Bool) (W : World) (HA : Alv W) (HS : SeC s 3 en s 1) (HG : GoC s 3 en s 1) (h : s < 0) : Calls Tryd.prog 7 #[.int .i64 s, .bool en] W (Fine W) := by
  go_enter Tryd.func7, Tryd.ntmps7
  go_wp2_with fail
  refine Calls.mono (HA.out) ?_
  rintro e w1 ⟨rfl, rfl⟩
  go_wp2_with fail
  refine Calls.mono (HS.out _) ?_
  rintro e w1 ⟨rfl, rfl⟩
  go_wp2_with fail
  refine Calls.mono (HG.out _) ?_
  rintro e w1 ⟨rfl, rfl⟩
  go_wp2
  go_ret
  exact ⟨by first | rfl | (simp; omega), Below.refl _ _⟩
theorem sresets_g (s : Int) (en : Bool) (W : World) (HA : Alv W) (HS : SeC s 3 en s 1) (HG : GoC s 3 en s 1) (h0 : 0 ≤ s) (h : 4 < s) : Calls Tryd.prog 7 #[.int .i64 s, .bool en] W (Fine W) := by
  go_enter Tryd.func7, Tryd.ntmps7
  go_wp2_with fail
  refine Calls.mono (HA.out) ?_
  rintro e w1 ⟨rfl, rfl⟩
  go_wp2_with fail
  refine Calls.mono (HS.out _) ?_
  rintro e w1 ⟨rfl, rfl⟩
  go_wp2_with fail
  refine Calls.mono (HG.out _) ?_
  rintro e w1 ⟨rfl, rfl⟩
  go_wp2
  go_ret
  exact ⟨by first | rfl | (simp; omega), Below.refl _ _⟩
theorem sresets_0 (en : Bool) (W : World) (HA : Alv W) (HS : SeC 0 3 en 0 8) (HG : GoC 0 3 en 0 11) : Calls Tryd.prog 7 #[.int .i64 0, .bool en] W (Fine W) := by
  go_enter Tryd.func7, Tryd.ntmps7
  go_wp2_with fail
  refine Calls.mono (HA.out) ?_
  rintro e w1 ⟨rfl, rfl⟩
  go_wp2_with fail
  refine Calls.mono (HS.out _) ?_
  rintro e w1 ⟨rfl, rfl⟩
  go_wp2_with fail
  refine Calls.mono (HG.out _) ?_
  rintro e w1 ⟨rfl, rfl⟩
  go_wp2
  go_ret
  exact ⟨by first | rfl | (simp; omega), Below.refl _ _⟩
theorem sresets_1 (en : Bool) (W : World) (HA : Alv W) (HS : SeC 1 3 en 4 0) (HG : GoC 1 3 en 4 0) : Calls Tryd.prog 7 #[.int .i64 1, .bool en] W (Fine W) := by
  go_enter Tryd.func7, Tryd.ntmps7
  go_wp2_with fail
  refine Calls.mono (HA.out) ?_
  rintro e w1 ⟨rfl, rfl⟩
  go_wp2_with fail
  refine Calls.mono (HS.out _) ?_
  rintro e w1 ⟨rfl, rfl⟩
  go_wp2_with fail
  refine Calls.mono (HG.out _) ?_
  rintro e w1 ⟨rfl, rfl⟩
  go_wp2
  go_ret
  exact ⟨by first | rfl | (simp; omega), Below.refl _ _⟩
theorem sresets_2 (en : Bool) (W : World) (HA : Alv W) (HS : SeC 2 3 en 4 0) (HG : GoC 2 3 en 4 0) : Calls Tryd.prog 7 #[.int .i64 2, .bool en] W (Fine W) := by
  go_enter Tryd.func7, Tryd.ntmps7
  go_wp2_with fail
  refine Calls.mono (HA.out) ?_
  rintro e w1 ⟨rfl, rfl⟩
  go_wp2_with fail
  refine Calls.mono (HS.out _) ?_
  rintro e w1 ⟨rfl, rfl⟩
  go_wp2_with fail
  refine Calls.mono (HG.out _) ?_
  rintro e w1 ⟨rfl, rfl⟩
  go_wp2
  go_ret
  exact ⟨by first | rfl | (simp; omega), Below.refl _ _⟩
theorem sresets_3 (en : Bool) (W : World) (HA : Alv W) (HS : SeC 3 3 en 4 0) (HG : GoC 3 3 en 4 0) : Calls Tryd.prog 7 #[.int .i64 3, .bool en] W (Fine W) := by
  go_enter Tryd.func7, Tryd.ntmps7
  go_wp2_with fail
  refine Calls.mono (HA.out) ?_
  rintro e w1 ⟨rfl, rfl⟩
  go_wp2_with fail
  refine Calls.mono (HS.out _) ?_
  rintro e w1 ⟨rfl, rfl⟩
  go_wp2_with fail
  refine Calls.mono (HG.out _) ?_
  rintro e w1 ⟨rfl, rfl⟩
  go_wp2
  go_ret
  exact ⟨by first | rfl | (simp; omega), Below.refl _ _⟩
theorem sresets_4 (en : Bool) (W : World) (HA : Alv W) (HS : SeC 4 3 en 4 12) (HG : GoC 4 3 en 4 0) : Calls Tryd.prog 7 #[.int .i64 4, .bool en] W (Fine W) := by
  go_enter Tryd.func7, Tryd.ntmps7
  go_wp2_with fail
  refine Calls.mono (HA.out) ?_
  rintro e w1 ⟨rfl, rfl⟩
  go_wp2_with fail
  refine Calls.mono (HS.out _) ?_
  rintro e w1 ⟨rfl, rfl⟩
  go_wp2_with fail
  refine Calls.mono (HG.out _) ?_
  rintro e w1 ⟨rfl, rfl⟩
  go_wp2
  go_ret
  exact ⟨by first | rfl | (simp; omega), Below.refl _ _⟩
theorem sresets_true (s : Int) (en : Bool) (W : World) (hE : Env W) : Calls Tryd.prog 7 #[.int .i64 s, .bool en] W (Fine W) := by
  have HA : Alv W := alive_ok W hE
  have HS : Hid (∀ w, StC w 10 s 3 en (sentA s 3 en)) := fun w => sent_ok s 3 en w
  have HG : Hid (∀ w, StC w 12 s 3 en (gotA s 3 en)) := fun w => got_ok s 3 en w
  cases hs : stateB s with
  | false =>
    have e : sentA s 3 en = (s, 1) := by simp [sentA, hs]
    have e2 : gotA s 3 en = (s, 1) := by simp [gotA, hs]
    rw [e] at HS
    rw [e2] at HG
    simp [stateB] at hs
    by_cases h : s < 0
    · exact sresets_n s en W HA HS HG h
    · exact sresets_g s en W HA HS HG (by omega) (by omega)
  | true =>
    rcases states_five hs with rfl | rfl | rfl | rfl | rfl
    · exact sresets_0 en W HA HS HG
    · exact sresets_1 en W HA HS HG
    · exact sresets_2 en W HA HS HG
    · exact sresets_3 en W HA HS HG
    · exact sresets_4 en W HA HS HG
end Go.Proofs.YtblhgifmdcghoaaDoor
