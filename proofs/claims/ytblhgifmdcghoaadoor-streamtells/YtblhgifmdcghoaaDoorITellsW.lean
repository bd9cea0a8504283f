/-
  The law StreamTells as a walk.
-/
import Derived.Test.YtblhgifmdcghoaaDoorIReadsW
import Derived.Test.YtblhgifmdcghoaaDoorIRef
namespace Go.Proofs.YtblhgifmdcghoaaDoor
open Go.RowKit

abbrev RsC (s k : Int) (en : Bool) (a e : Int) : Prop := Hid (∀ w, StC w 11 s k en (a, e))
abbrev RgC (s k : Int) (en : Bool) (a e : Int) : Prop := Hid (∀ w, StC w 13 s k en (a, e))
abbrev NqC (W : World) (s : Int) (n : ByteArray) : Prop := Hid (∀ w, Keeps nobody W w → Calls Tryd.prog 14 #[.int .i64 s] w fun e w' => e = .returned (.string n) ∧ w = w')

theorem stells_n (s k a e c f : Int) (en : Bool) (W : World) (HA : Alv W) (HS : SeC s k en a e) (HQ : RsC s k en a e) (HG : GoC s k en c f) (HP : RgC s k en c f) (HW : WrC s false) (HR : ReC s false) (HN : NqC W s ⟨#[]⟩) (h : s < 0) : Calls Tryd.prog 3 #[.int .i64 s, .int .i64 k, .bool en] W (Fine W) := by
  have g1 : (s == 1) = false := by simp; omega
  have g2 : (s == 2) = false := by simp; omega
  have g3 : (s == 3) = false := by simp; omega
  go_enter Tryd.func3, Tryd.ntmps3
  go_wp2_with fail
  refine Calls.mono (HA.out) ?_
  rintro e w1 ⟨rfl, rfl⟩
  go_wp2_with fail
  refine Calls.mono (HS.out _) ?_
  rintro e w1 ⟨rfl, rfl⟩
  go_wp2_with fail
  refine Calls.mono (HQ.out _) ?_
  rintro e w1 ⟨rfl, rfl⟩
  go_wp2_with fail
  refine Calls.mono (HG.out _) ?_
  rintro e w1 ⟨rfl, rfl⟩
  go_wp2_with fail
  refine Calls.mono (HP.out _) ?_
  rintro e w1 ⟨rfl, rfl⟩
  go_wp2_with fail
  refine Calls.mono (HN.out _ (Keeps.refl _ _)) ?_
  rintro e w1 ⟨rfl, rfl⟩
  go_wp2_with fail
  refine Calls.mono (HW.out _) ?_
  rintro e w1 ⟨rfl, rfl⟩
  go_wp2_with fail
  refine Calls.mono (HR.out _) ?_
  rintro e w1 ⟨rfl, rfl⟩
  go_wp2
  go_ret
  exact ⟨by first | rfl | (simp; omega), below_of_keeps (Keeps.refl _ _)⟩
theorem stells_g (s k a e c f : Int) (en : Bool) (W : World) (HA : Alv W) (HS : SeC s k en a e) (HQ : RsC s k en a e) (HG : GoC s k en c f) (HP : RgC s k en c f) (HW : WrC s false) (HR : ReC s false) (HN : NqC W s ⟨#[]⟩) (h0 : 0 ≤ s) (h : 4 < s) : Calls Tryd.prog 3 #[.int .i64 s, .int .i64 k, .bool en] W (Fine W) := by
  have g1 : (s == 1) = false := by simp; omega
  have g2 : (s == 2) = false := by simp; omega
  have g3 : (s == 3) = false := by simp; omega
  go_enter Tryd.func3, Tryd.ntmps3
  go_wp2_with fail
  refine Calls.mono (HA.out) ?_
  rintro e w1 ⟨rfl, rfl⟩
  go_wp2_with fail
  refine Calls.mono (HS.out _) ?_
  rintro e w1 ⟨rfl, rfl⟩
  go_wp2_with fail
  refine Calls.mono (HQ.out _) ?_
  rintro e w1 ⟨rfl, rfl⟩
  go_wp2_with fail
  refine Calls.mono (HG.out _) ?_
  rintro e w1 ⟨rfl, rfl⟩
  go_wp2_with fail
  refine Calls.mono (HP.out _) ?_
  rintro e w1 ⟨rfl, rfl⟩
  go_wp2_with fail
  refine Calls.mono (HN.out _ (Keeps.refl _ _)) ?_
  rintro e w1 ⟨rfl, rfl⟩
  go_wp2_with fail
  refine Calls.mono (HW.out _) ?_
  rintro e w1 ⟨rfl, rfl⟩
  go_wp2_with fail
  refine Calls.mono (HR.out _) ?_
  rintro e w1 ⟨rfl, rfl⟩
  go_wp2
  go_ret
  exact ⟨by first | rfl | (simp; omega), below_of_keeps (Keeps.refl _ _)⟩
theorem stells_0 (k a e c f : Int) (en : Bool) (W : World) (HA : Alv W) (HS : SeC 0 k en a e) (HQ : RsC 0 k en a e) (HG : GoC 0 k en c f) (HP : RgC 0 k en c f) (HW : WrC 0 false) (HR : ReC 0 false) (HN : NqC W 0 ⟨#[105, 100, 108, 101]⟩) : Calls Tryd.prog 3 #[.int .i64 0, .int .i64 k, .bool en] W (Fine W) := by
  go_enter Tryd.func3, Tryd.ntmps3
  go_wp2_with fail
  refine Calls.mono (HA.out) ?_
  rintro e w1 ⟨rfl, rfl⟩
  go_wp2_with fail
  refine Calls.mono (HS.out _) ?_
  rintro e w1 ⟨rfl, rfl⟩
  go_wp2_with fail
  refine Calls.mono (HQ.out _) ?_
  rintro e w1 ⟨rfl, rfl⟩
  go_wp2_with fail
  refine Calls.mono (HG.out _) ?_
  rintro e w1 ⟨rfl, rfl⟩
  go_wp2_with fail
  refine Calls.mono (HP.out _) ?_
  rintro e w1 ⟨rfl, rfl⟩
  go_wp2_with fail
  refine Calls.mono (HN.out _ (keeps_alloc _ _)) ?_
  rintro e w1 ⟨rfl, rfl⟩
  go_wp2_with fail
  refine Calls.mono (HW.out _) ?_
  rintro e w1 ⟨rfl, rfl⟩
  go_wp2_with fail
  refine Calls.mono (HR.out _) ?_
  rintro e w1 ⟨rfl, rfl⟩
  go_wp2
  go_ret
  exact ⟨by first | rfl | (simp; omega), below_of_keeps (keeps_alloc _ _)⟩
theorem stells_1 (k a e c f : Int) (en : Bool) (W : World) (HA : Alv W) (HS : SeC 1 k en a e) (HQ : RsC 1 k en a e) (HG : GoC 1 k en c f) (HP : RgC 1 k en c f) (HW : WrC 1 true) (HR : ReC 1 true) (HN : NqC W 1 ⟨#[111, 112, 101, 110]⟩) : Calls Tryd.prog 3 #[.int .i64 1, .int .i64 k, .bool en] W (Fine W) := by
  go_enter Tryd.func3, Tryd.ntmps3
  go_wp2_with fail
  refine Calls.mono (HA.out) ?_
  rintro e w1 ⟨rfl, rfl⟩
  go_wp2_with fail
  refine Calls.mono (HS.out _) ?_
  rintro e w1 ⟨rfl, rfl⟩
  go_wp2_with fail
  refine Calls.mono (HQ.out _) ?_
  rintro e w1 ⟨rfl, rfl⟩
  go_wp2_with fail
  refine Calls.mono (HG.out _) ?_
  rintro e w1 ⟨rfl, rfl⟩
  go_wp2_with fail
  refine Calls.mono (HP.out _) ?_
  rintro e w1 ⟨rfl, rfl⟩
  go_wp2_with fail
  refine Calls.mono (HN.out _ (keeps_alloc _ _)) ?_
  rintro e w1 ⟨rfl, rfl⟩
  go_wp2_with fail
  refine Calls.mono (HW.out _) ?_
  rintro e w1 ⟨rfl, rfl⟩
  go_wp2_with fail
  refine Calls.mono (HR.out _) ?_
  rintro e w1 ⟨rfl, rfl⟩
  go_wp2
  go_ret
  exact ⟨by first | rfl | (simp; omega), below_of_keeps (keeps_alloc _ _)⟩
theorem stells_2 (k a e c f : Int) (en : Bool) (W : World) (HA : Alv W) (HS : SeC 2 k en a e) (HQ : RsC 2 k en a e) (HG : GoC 2 k en c f) (HP : RgC 2 k en c f) (HW : WrC 2 false) (HR : ReC 2 true) (HN : NqC W 2 ⟨#[108, 111, 99, 97, 108]⟩) : Calls Tryd.prog 3 #[.int .i64 2, .int .i64 k, .bool en] W (Fine W) := by
  go_enter Tryd.func3, Tryd.ntmps3
  go_wp2_with fail
  refine Calls.mono (HA.out) ?_
  rintro e w1 ⟨rfl, rfl⟩
  go_wp2_with fail
  refine Calls.mono (HS.out _) ?_
  rintro e w1 ⟨rfl, rfl⟩
  go_wp2_with fail
  refine Calls.mono (HQ.out _) ?_
  rintro e w1 ⟨rfl, rfl⟩
  go_wp2_with fail
  refine Calls.mono (HG.out _) ?_
  rintro e w1 ⟨rfl, rfl⟩
  go_wp2_with fail
  refine Calls.mono (HP.out _) ?_
  rintro e w1 ⟨rfl, rfl⟩
  go_wp2_with fail
  refine Calls.mono (HN.out _ (keeps_alloc _ _)) ?_
  rintro e w1 ⟨rfl, rfl⟩
  go_wp2_with fail
  refine Calls.mono (HW.out _) ?_
  rintro e w1 ⟨rfl, rfl⟩
  go_wp2_with fail
  refine Calls.mono (HR.out _) ?_
  rintro e w1 ⟨rfl, rfl⟩
  go_wp2
  go_ret
  exact ⟨by first | rfl | (simp; omega), below_of_keeps (keeps_alloc _ _)⟩
theorem stells_3 (k a e c f : Int) (en : Bool) (W : World) (HA : Alv W) (HS : SeC 3 k en a e) (HQ : RsC 3 k en a e) (HG : GoC 3 k en c f) (HP : RgC 3 k en c f) (HW : WrC 3 true) (HR : ReC 3 false) (HN : NqC W 3 ⟨#[114, 101, 109, 111, 116, 101]⟩) : Calls Tryd.prog 3 #[.int .i64 3, .int .i64 k, .bool en] W (Fine W) := by
  go_enter Tryd.func3, Tryd.ntmps3
  go_wp2_with fail
  refine Calls.mono (HA.out) ?_
  rintro e w1 ⟨rfl, rfl⟩
  go_wp2_with fail
  refine Calls.mono (HS.out _) ?_
  rintro e w1 ⟨rfl, rfl⟩
  go_wp2_with fail
  refine Calls.mono (HQ.out _) ?_
  rintro e w1 ⟨rfl, rfl⟩
  go_wp2_with fail
  refine Calls.mono (HG.out _) ?_
  rintro e w1 ⟨rfl, rfl⟩
  go_wp2_with fail
  refine Calls.mono (HP.out _) ?_
  rintro e w1 ⟨rfl, rfl⟩
  go_wp2_with fail
  refine Calls.mono (HN.out _ (keeps_alloc _ _)) ?_
  rintro e w1 ⟨rfl, rfl⟩
  go_wp2_with fail
  refine Calls.mono (HW.out _) ?_
  rintro e w1 ⟨rfl, rfl⟩
  go_wp2_with fail
  refine Calls.mono (HR.out _) ?_
  rintro e w1 ⟨rfl, rfl⟩
  go_wp2
  go_ret
  exact ⟨by first | rfl | (simp; omega), below_of_keeps (keeps_alloc _ _)⟩
theorem stells_4 (k a e c f : Int) (en : Bool) (W : World) (HA : Alv W) (HS : SeC 4 k en a e) (HQ : RsC 4 k en a e) (HG : GoC 4 k en c f) (HP : RgC 4 k en c f) (HW : WrC 4 false) (HR : ReC 4 false) (HN : NqC W 4 ⟨#[99, 108, 111, 115, 101, 100]⟩) : Calls Tryd.prog 3 #[.int .i64 4, .int .i64 k, .bool en] W (Fine W) := by
  go_enter Tryd.func3, Tryd.ntmps3
  go_wp2_with fail
  refine Calls.mono (HA.out) ?_
  rintro e w1 ⟨rfl, rfl⟩
  go_wp2_with fail
  refine Calls.mono (HS.out _) ?_
  rintro e w1 ⟨rfl, rfl⟩
  go_wp2_with fail
  refine Calls.mono (HQ.out _) ?_
  rintro e w1 ⟨rfl, rfl⟩
  go_wp2_with fail
  refine Calls.mono (HG.out _) ?_
  rintro e w1 ⟨rfl, rfl⟩
  go_wp2_with fail
  refine Calls.mono (HP.out _) ?_
  rintro e w1 ⟨rfl, rfl⟩
  go_wp2_with fail
  refine Calls.mono (HN.out _ (keeps_alloc _ _)) ?_
  rintro e w1 ⟨rfl, rfl⟩
  go_wp2_with fail
  refine Calls.mono (HW.out _) ?_
  rintro e w1 ⟨rfl, rfl⟩
  go_wp2_with fail
  refine Calls.mono (HR.out _) ?_
  rintro e w1 ⟨rfl, rfl⟩
  go_wp2
  go_ret
  exact ⟨by first | rfl | (simp; omega), below_of_keeps (keeps_alloc _ _)⟩
theorem stells_true (s k : Int) (en : Bool) (W : World) (hE : Env W) : Calls Tryd.prog 3 #[.int .i64 s, .int .i64 k, .bool en] W (Fine W) := by
  have HA : Alv W := alive_ok W hE
  have HS : SeC s k en (sentA s k en).1 (sentA s k en).2 := fun w => sent_ok s k en w
  have HQ : RsC s k en (sentA s k en).1 (sentA s k en).2 := fun w => rsent_ok s k en w
  have HG : GoC s k en (gotA s k en).1 (gotA s k en).2 := fun w => got_ok s k en w
  have HP : RgC s k en (gotA s k en).1 (gotA s k en).2 := fun w => rgot_ok s k en w
  have HW : WrC s (writesB s) := st_writes s
  have HR : ReC s (readsB s) := st_reads s
  have HN : NqC W s (stateA s) := fun w hw => st_name s w (hE.quiet hw)
  cases hs : stateB s with
  | false =>
    simp [stateB] at hs
    have e3 : writesB s = false := by simp [writesB]; omega
    have e4 : readsB s = false := by simp [readsB]; omega
    have e5 : stateA s = ⟨#[]⟩ := by rw [stateA, if_neg (by omega)]
    rw [e3] at HW
    rw [e4] at HR
    rw [e5] at HN
    by_cases h : s < 0
    · exact stells_n s k _ _ _ _ en W HA HS HQ HG HP HW HR HN h
    · exact stells_g s k _ _ _ _ en W HA HS HQ HG HP HW HR HN (by omega) (by omega)
  | true =>
    rcases states_five hs with rfl | rfl | rfl | rfl | rfl
    · exact stells_0 k _ _ _ _ en W HA HS HQ HG HP HW HR HN
    · exact stells_1 k _ _ _ _ en W HA HS HQ HG HP HW HR HN
    · exact stells_2 k _ _ _ _ en W HA HS HQ HG HP HW HR HN
    · exact stells_3 k _ _ _ _ en W HA HS HQ HG HP HW HR HN
    · exact stells_4 k _ _ _ _ en W HA HS HQ HG HP HW HR HN
end Go.Proofs.YtblhgifmdcghoaaDoor
