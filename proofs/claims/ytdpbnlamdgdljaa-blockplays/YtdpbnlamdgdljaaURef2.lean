/-
  The reference's Check as a whole.
-/
import Derived.Test.YtdpbnlamdgdljaaURef
namespace Go.Proofs.Ytdpbnlamdgdljaa
open Go.RowKit

theorem check_right (f : Frm) (h : right f) : checkA f = if placed f.kind f.id = false then (1, 11) else if sized f.kind (ackB f.flags) f.body.size = false then (6, 5) else (codeOf (stripE f), stripE f) := by
  rw [checkA, if_neg (fun g => g h)]
attribute [local irreducible] right stripA

theorem rcheck_ok (f : Frm) (w : World) (hs : f.body.size ≤ 140737488355328) : Calls Try.prog 19 #[frval f] w fun e w' => e = .returned (checkV (checkA f)) ∧ Keeps nobody w w' := by
  have HR : Hid (∀ w, Calls Try.prog 46 #[frval f] w fun e w' => e = .returned (.bool (decide (right f))) ∧ Keeps nobody w w') := fun w => fright_ok f w
  by_cases hr : right f
  · rw [decide_eq_true hr] at HR
    rw [check_right f hr]
    have HS : Hid (∀ w, Calls Try.prog 47 #[frval f] w fun e w' => e = .returned (stripV (stripA f.kind (padB f.flags) (weighB f.flags) f.body)) ∧ Keeps nobody w w') := fun w => rstrip_ok f w hs
    have h3 := stripE_cases f
    have h0 : f.kind ≠ 0 → f.kind ≠ 1 → stripE f = 0 := fun a b => strip_other_err _ _ _ _ a b
    unfold stripE at *
    obtain ⟨k, fl, id, b⟩ := f
    simp only at h3 h0 HS HR hs ⊢
    generalize stripA k (padB fl) (weighB fl) b = S at *
    obtain ⟨S, m, e⟩ := S
    simp only at h3 h0 HS ⊢
    clear hr
    by_cases k5 : k = 5
    · subst k5
      rw [if_pos (by simp [placed, streamed])]
      exact rcheck_5 fl id b w HR
    by_cases k0 : k = 0
    · subst k0
      by_cases hi : id = 0
      · rw [if_pos (by simp [placed, streamed, hi])]
        exact rcheck_0z fl id b w (by simpa using hi) HR
      · rw [if_neg (by simp [placed, streamed, hi]), if_neg (by simp [sized])]
        rcases h3 with rfl | rfl | rfl
        · exact rcheck_0_0 fl id b w (by simpa using hi) HR S m HS
        · exact rcheck_0_5 fl id b w (by simpa using hi) HR S m HS
        · exact rcheck_0_11 fl id b w (by simpa using hi) HR S m HS
    by_cases k1 : k = 1
    · subst k1
      by_cases hi : id = 0
      · rw [if_pos (by simp [placed, streamed, hi])]
        exact rcheck_1z fl id b w (by simpa using hi) HR
      · rw [if_neg (by simp [placed, streamed, hi]), if_neg (by simp [sized])]
        rcases h3 with rfl | rfl | rfl
        · exact rcheck_1_0 fl id b w (by simpa using hi) HR S m HS
        · exact rcheck_1_5 fl id b w (by simpa using hi) HR S m HS
        · exact rcheck_1_11 fl id b w (by simpa using hi) HR S m HS
    obtain rfl := h0 k0 k1
    clear h0 h3
    by_cases k9 : k = 9
    · subst k9
      by_cases hi : id = 0
      · rw [if_pos (by simp [placed, streamed, hi])]
        exact rcheck_9z fl id b w (by simpa using hi) HR
      · rw [if_neg (by simp [placed, streamed, hi]), if_neg (by simp [sized])]
        exact rcheck_9 fl id b w (by simpa using hi) HR S m HS
    by_cases k2 : k = 2
    · subst k2
      by_cases hi : id = 0
      · rw [if_pos (by simp [placed, streamed, hi])]
        exact rcheck_2z fl id b w (by simpa using hi) HR
      · rw [if_neg (by simp [placed, streamed, hi])]
        by_cases hn : b.size = 5
        · rw [if_neg (by simp [sized, hn])]
          exact rcheck_2t fl id b w (by simpa using hi) (by simp; omega) HR S m HS
        · rw [if_pos (by simp [sized, hn])]
          exact rcheck_2f fl id b w (by simpa using hi) (by simp; omega) HR
    by_cases k3 : k = 3
    · subst k3
      by_cases hi : id = 0
      · rw [if_pos (by simp [placed, streamed, hi])]
        exact rcheck_3z fl id b w (by simpa using hi) HR
      · rw [if_neg (by simp [placed, streamed, hi])]
        by_cases hn : b.size = 4
        · rw [if_neg (by simp [sized, hn])]
          exact rcheck_3t fl id b w (by simpa using hi) (by simp; omega) HR S m HS
        · rw [if_pos (by simp [sized, hn])]
          exact rcheck_3f fl id b w (by simpa using hi) (by simp; omega) HR
    by_cases k6 : k = 6
    · subst k6
      by_cases hi : id = 0
      · rw [if_neg (by simp [placed, streamed, hi])]
        by_cases hn : b.size = 8
        · rw [if_neg (by simp [sized, hn])]
          exact rcheck_6t fl id b w (by simpa using hi) (by simp; omega) HR S m HS
        · rw [if_pos (by simp [sized, hn])]
          exact rcheck_6f fl id b w (by simpa using hi) (by simp; omega) HR
      · rw [if_pos (by simp [placed, streamed, hi])]
        exact rcheck_6z fl id b w (by simpa using hi) HR
    by_cases k7 : k = 7
    · subst k7
      by_cases hi : id = 0
      · rw [if_neg (by simp [placed, streamed, hi])]
        by_cases hn : 8 ≤ b.size
        · rw [if_neg (by simp [sized, hn])]
          exact rcheck_7t fl id b w (by simpa using hi) (by simp; omega) HR S m HS
        · rw [if_pos (by simp [sized]; omega)]
          exact rcheck_7f fl id b w (by simpa using hi) (by simp; omega) HR
      · rw [if_pos (by simp [placed, streamed, hi])]
        exact rcheck_7z fl id b w (by simpa using hi) HR
    by_cases k8 : k = 8
    · subst k8
      rw [if_neg (by simp [placed, streamed])]
      by_cases hn : b.size = 4
      · rw [if_neg (by simp [sized, hn])]
        exact rcheck_8t fl id b w (by simp; omega) HR S m HS
      · rw [if_pos (by simp [sized, hn])]
        exact rcheck_8f fl id b w (by simp; omega) HR
    by_cases k4 : k = 4
    · subst k4
      by_cases hi : id = 0
      · rw [if_neg (by simp [placed, streamed, hi])]
        by_cases hm : b.size % 6 = 0
        · cases ha : ackB fl with
          | false =>
            rw [if_neg (by simp [sized, hm])]
            exact rcheck_4b fl id b w (by simpa using hi) (b.size % 6) (by omega) (by simp; omega) ha HR S m HS
          | true =>
            by_cases hn : b.size = 0
            · rw [if_neg (by simp [sized, hn])]
              exact rcheck_4d fl id b w (by simpa using hi) (b.size % 6) (by omega) (by simp; omega) ha (by omega) HR S m HS
            · rw [if_pos (by simp [sized, hn])]
              exact rcheck_4c fl id b w (by simpa using hi) (b.size % 6) (by omega) (by simp; omega) ha (by omega) HR
        · have hn : b.size ≠ 0 := by omega
          rw [if_pos (by cases ackB fl <;> simp [sized, hm, hn])]
          exact rcheck_4a fl id b w (by simpa using hi) (b.size % 6) (by omega) (by simp; omega) HR
      · rw [if_pos (by simp [placed, streamed, hi])]
        by_cases hm : b.size % 6 = 0
        · cases ha : ackB fl with
          | false => exact rcheck_4zb fl id b w (by simpa using hi) (b.size % 6) (by omega) (by simp; omega) ha HR
          | true => exact rcheck_4zc fl id b w (by simpa using hi) (b.size % 6) (by omega) (by simp; omega) ha HR
        · exact rcheck_4za fl id b w (by simpa using hi) (b.size % 6) (by omega) (by simp; omega) HR
    rw [if_neg (by simp [placed, streamed, k0, k1, k2, k3, k9, k5, k4, k6, k7]), if_neg (by simp [sized, k4, k7, k2, k6, k3, k8])]
    exact rcheck_other k fl id b w (by simpa using k0) (by simpa using k1) (by simpa using k2) (by simpa using k3) (by simpa using k4) (by simpa using k5) (by simpa using k6) (by simpa using k7) (by simpa using k8) (by simpa using k9) HR S m HS
  · rw [decide_eq_false hr] at HR
    have e : checkA f = (1, 1) := by rw [checkA, if_pos hr]
    rw [e]
    obtain ⟨k, fl, id, b⟩ := f
    exact rcheck_wrong k fl id b w HR
end Go.Proofs.Ytdpbnlamdgdljaa
