/-
  The law StreamReads as a walk.
-/
import Derived.Test.YtblhgifmdcghoaaDoorIResetsW
namespace Go.Proofs.YtblhgifmdcghoaaDoor
open Go.RowKit

abbrev WrC (s : Int) (b : Bool) : Prop := Hid (∀ w, Calls Tryd.prog 15 #[.int .i64 s] w fun e w' => e = .returned (.bool b) ∧ w = w')
abbrev ReC (s : Int) (b : Bool) : Prop := Hid (∀ w, Calls Tryd.prog 16 #[.int .i64 s] w fun e w' => e = .returned (.bool b) ∧ w = w')
abbrev NmC (W : World) (s : Int) (n : ByteArray) : Prop := Hid (Calls Tryd.prog 14 #[.int .i64 s] W fun e w' => e = .returned (.string n) ∧ W = w')

theorem sreads_n (s a b : Int) (en : Bool) (W : World) (HA : Alv W) (HS : SeC s 0 en a 1) (HG : GoC s 0 en b 1) (HW : WrC s false) (HR : ReC s false) (HN : NmC W s ⟨#[]⟩) (h : s < 0) : Calls Tryd.prog 8 #[.int .i64 s, .bool en] W (Fine W) := by
  go_enter Tryd.func8, Tryd.ntmps8
  go_wp2_with fail
  refine Calls.mono (HA.out) ?_
  rintro e w1 ⟨rfl, rfl⟩
  go_wp2_with fail
  refine Calls.mono (HS.out _) ?_
  rintro e w1 ⟨rfl, rfl⟩
  go_wp2_with fail
  refine Calls.mono (HG.out _) ?_
  rintro e w1 ⟨rfl, rfl⟩
  go_wp2_with fail
  refine Calls.mono (HW.out _) ?_
  rintro e w1 ⟨rfl, rfl⟩
  go_wp2_with fail
  refine Calls.mono (HR.out _) ?_
  rintro e w1 ⟨rfl, rfl⟩
  go_wp2_with fail
  refine Calls.mono (HN.out) ?_
  rintro e w1 ⟨rfl, rfl⟩
  go_wp2
  go_ret
  exact ⟨by first | rfl | (simp; omega), Below.refl _ _⟩
theorem sreads_g (s a b : Int) (en : Bool) (W : World) (HA : Alv W) (HS : SeC s 0 en a 1) (HG : GoC s 0 en b 1) (HW : WrC s false) (HR : ReC s false) (HN : NmC W s ⟨#[]⟩) (h0 : 0 ≤ s) (h : 4 < s) : Calls Tryd.prog 8 #[.int .i64 s, .bool en] W (Fine W) := by
  go_enter Tryd.func8, Tryd.ntmps8
  go_wp2_with fail
  refine Calls.mono (HA.out) ?_
  rintro e w1 ⟨rfl, rfl⟩
  go_wp2_with fail
  refine Calls.mono (HS.out _) ?_
  rintro e w1 ⟨rfl, rfl⟩
  go_wp2_with fail
  refine Calls.mono (HG.out _) ?_
  rintro e w1 ⟨rfl, rfl⟩
  go_wp2_with fail
  refine Calls.mono (HW.out _) ?_
  rintro e w1 ⟨rfl, rfl⟩
  go_wp2_with fail
  refine Calls.mono (HR.out _) ?_
  rintro e w1 ⟨rfl, rfl⟩
  go_wp2_with fail
  refine Calls.mono (HN.out) ?_
  rintro e w1 ⟨rfl, rfl⟩
  go_wp2
  go_ret
  exact ⟨by first | rfl | (simp; omega), Below.refl _ _⟩
theorem sreads_0 (a b : Int) (en : Bool) (W : World) (HA : Alv W) (HS : SeC 0 0 en a 8) (HG : GoC 0 0 en b 11) (HW : WrC 0 false) (HR : ReC 0 false) (HN : NmC W 0 ⟨#[105, 100, 108, 101]⟩) : Calls Tryd.prog 8 #[.int .i64 0, .bool en] W (Fine W) := by
  go_enter Tryd.func8, Tryd.ntmps8
  go_wp2_with fail
  refine Calls.mono (HA.out) ?_
  rintro e w1 ⟨rfl, rfl⟩
  go_wp2_with fail
  refine Calls.mono (HS.out _) ?_
  rintro e w1 ⟨rfl, rfl⟩
  go_wp2_with fail
  refine Calls.mono (HG.out _) ?_
  rintro e w1 ⟨rfl, rfl⟩
  go_wp2_with fail
  refine Calls.mono (HW.out _) ?_
  rintro e w1 ⟨rfl, rfl⟩
  go_wp2_with fail
  refine Calls.mono (HR.out _) ?_
  rintro e w1 ⟨rfl, rfl⟩
  go_wp2_with fail
  refine Calls.mono (HN.out) ?_
  rintro e w1 ⟨rfl, rfl⟩
  go_wp2
  go_ret
  exact ⟨by first | rfl | (simp; omega), Below.refl _ _⟩
theorem sreads_1 (a b : Int) (en : Bool) (W : World) (HA : Alv W) (HS : SeC 1 0 en a 0) (HG : GoC 1 0 en b 0) (HW : WrC 1 true) (HR : ReC 1 true) (HN : NmC W 1 ⟨#[111, 112, 101, 110]⟩) : Calls Tryd.prog 8 #[.int .i64 1, .bool en] W (Fine W) := by
  go_enter Tryd.func8, Tryd.ntmps8
  go_wp2_with fail
  refine Calls.mono (HA.out) ?_
  rintro e w1 ⟨rfl, rfl⟩
  go_wp2_with fail
  refine Calls.mono (HS.out _) ?_
  rintro e w1 ⟨rfl, rfl⟩
  go_wp2_with fail
  refine Calls.mono (HG.out _) ?_
  rintro e w1 ⟨rfl, rfl⟩
  go_wp2_with fail
  refine Calls.mono (HW.out _) ?_
  rintro e w1 ⟨rfl, rfl⟩
  go_wp2_with fail
  refine Calls.mono (HR.out _) ?_
  rintro e w1 ⟨rfl, rfl⟩
  go_wp2_with fail
  refine Calls.mono (HN.out) ?_
  rintro e w1 ⟨rfl, rfl⟩
  go_wp2
  go_ret
  exact ⟨by first | rfl | (simp; omega), Below.refl _ _⟩
theorem sreads_2 (a b : Int) (en : Bool) (W : World) (HA : Alv W) (HS : SeC 2 0 en a 8) (HG : GoC 2 0 en b 0) (HW : WrC 2 false) (HR : ReC 2 true) (HN : NmC W 2 ⟨#[108, 111, 99, 97, 108]⟩) : Calls Tryd.prog 8 #[.int .i64 2, .bool en] W (Fine W) := by
  go_enter Tryd.func8, Tryd.ntmps8
  go_wp2_with fail
  refine Calls.mono (HA.out) ?_
  rintro e w1 ⟨rfl, rfl⟩
  go_wp2_with fail
  refine Calls.mono (HS.out _) ?_
  rintro e w1 ⟨rfl, rfl⟩
  go_wp2_with fail
  refine Calls.mono (HG.out _) ?_
  rintro e w1 ⟨rfl, rfl⟩
  go_wp2_with fail
  refine Calls.mono (HW.out _) ?_
  rintro e w1 ⟨rfl, rfl⟩
  go_wp2_with fail
  refine Calls.mono (HR.out _) ?_
  rintro e w1 ⟨rfl, rfl⟩
  go_wp2_with fail
  refine Calls.mono (HN.out) ?_
  rintro e w1 ⟨rfl, rfl⟩
  go_wp2
  go_ret
  exact ⟨by first | rfl | (simp; omega), Below.refl _ _⟩
theorem sreads_3 (a b : Int) (en : Bool) (W : World) (HA : Alv W) (HS : SeC 3 0 en a 0) (HG : GoC 3 0 en b 12) (HW : WrC 3 true) (HR : ReC 3 false) (HN : NmC W 3 ⟨#[114, 101, 109, 111, 116, 101]⟩) : Calls Tryd.prog 8 #[.int .i64 3, .bool en] W (Fine W) := by
  go_enter Tryd.func8, Tryd.ntmps8
  go_wp2_with fail
  refine Calls.mono (HA.out) ?_
  rintro e w1 ⟨rfl, rfl⟩
  go_wp2_with fail
  refine Calls.mono (HS.out _) ?_
  rintro e w1 ⟨rfl, rfl⟩
  go_wp2_with fail
  refine Calls.mono (HG.out _) ?_
  rintro e w1 ⟨rfl, rfl⟩
  go_wp2_with fail
  refine Calls.mono (HW.out _) ?_
  rintro e w1 ⟨rfl, rfl⟩
  go_wp2_with fail
  refine Calls.mono (HR.out _) ?_
  rintro e w1 ⟨rfl, rfl⟩
  go_wp2_with fail
  refine Calls.mono (HN.out) ?_
  rintro e w1 ⟨rfl, rfl⟩
  go_wp2
  go_ret
  exact ⟨by first | rfl | (simp; omega), Below.refl _ _⟩
theorem sreads_4 (a b : Int) (en : Bool) (W : World) (HA : Alv W) (HS : SeC 4 0 en a 12) (HG : GoC 4 0 en b 12) (HW : WrC 4 false) (HR : ReC 4 false) (HN : NmC W 4 ⟨#[99, 108, 111, 115, 101, 100]⟩) : Calls Tryd.prog 8 #[.int .i64 4, .bool en] W (Fine W) := by
  go_enter Tryd.func8, Tryd.ntmps8
  go_wp2_with fail
  refine Calls.mono (HA.out) ?_
  rintro e w1 ⟨rfl, rfl⟩
  go_wp2_with fail
  refine Calls.mono (HS.out _) ?_
  rintro e w1 ⟨rfl, rfl⟩
  go_wp2_with fail
  refine Calls.mono (HG.out _) ?_
  rintro e w1 ⟨rfl, rfl⟩
  go_wp2_with fail
  refine Calls.mono (HW.out _) ?_
  rintro e w1 ⟨rfl, rfl⟩
  go_wp2_with fail
  refine Calls.mono (HR.out _) ?_
  rintro e w1 ⟨rfl, rfl⟩
  go_wp2_with fail
  refine Calls.mono (HN.out) ?_
  rintro e w1 ⟨rfl, rfl⟩
  go_wp2
  go_ret
  exact ⟨by first | rfl | (simp; omega), Below.refl _ _⟩
theorem sreads_true (s : Int) (en : Bool) (W : World) (hE : Env W) : Calls Tryd.prog 8 #[.int .i64 s, .bool en] W (Fine W) := by
  have HA : Alv W := alive_ok W hE
  have HS : Hid (∀ w, StC w 10 s 0 en (sentA s 0 en)) := fun w => sent_ok s 0 en w
  have HG : Hid (∀ w, StC w 12 s 0 en (gotA s 0 en)) := fun w => got_ok s 0 en w
  have HW : WrC s (writesB s) := st_writes s
  have HR : ReC s (readsB s) := st_reads s
  have HN : NmC W s (stateA s) := st_name s W hE
  cases hs : stateB s with
  | false =>
    have e : sentA s 0 en = (s, 1) := by simp [sentA, hs]
    have e2 : gotA s 0 en = (s, 1) := by simp [gotA, hs]
    rw [e] at HS
    rw [e2] at HG
    simp [stateB] at hs
    have e3 : writesB s = false := by simp [writesB]; omega
    have e4 : readsB s = false := by simp [readsB]; omega
    have e5 : stateA s = ⟨#[]⟩ := by rw [stateA, if_neg (by omega)]
    rw [e3] at HW
    rw [e4] at HR
    rw [e5] at HN
    by_cases h : s < 0
    · exact sreads_n s s s en W HA HS HG HW HR HN h
    · exact sreads_g s s s en W HA HS HG HW HR HN (by omega) (by omega)
  | true =>
    rcases states_five hs with rfl | rfl | rfl | rfl | rfl
    · cases en with
      | false => exact sreads_0 0 0 false W HA HS HG HW HR HN
      | true => exact sreads_0 0 0 true W HA HS HG HW HR HN
    · cases en with
      | false => exact sreads_1 1 1 false W HA HS HG HW HR HN
      | true => exact sreads_1 2 3 true W HA HS HG HW HR HN
    · cases en with
      | false => exact sreads_2 2 2 false W HA HS HG HW HR HN
      | true => exact sreads_2 2 4 true W HA HS HG HW HR HN
    · cases en with
      | false => exact sreads_3 3 3 false W HA HS HG HW HR HN
      | true => exact sreads_3 4 3 true W HA HS HG HW HR HN
    · cases en with
      | false => exact sreads_4 4 4 false W HA HS HG HW HR HN
      | true => exact sreads_4 4 4 true W HA HS HG HW HR HN
end Go.Proofs.YtblhgifmdcghoaaDoor
