/-
  Package prefs: with.
-/
import Derived.Test.YtkjdklcmaomjnaaZCode
namespace Go.Proofs.Ytkjdklcmaomjnaa
open Go.RowKit

set_option maxRecDepth 100000 in
theorem with_ok (s : Ps) (i v : Int) (w : World) : Calls Try.prog 52 #[psval s, pval (i, v)] w fun e w' => e = .returned (psval (withP s (i, v))) ∧ Keeps nobody w w' := by
  obtain ⟨s0, s1, s2, s3, s4⟩ := s
  by_cases g1 : i = 1
  · subst g1
    have e : withP ⟨s0, s1, s2, s3, s4⟩ (1, v) = ⟨v, s1, s2, s3, s4⟩ := by simp [withP]
    rw [e]
    clear e
    go_enter Try.func52, Try.ntmps52
    go_wp2
    exact bodyPost_ret (v := psval ⟨v, s1, s2, s3, s4⟩) (by simp [results, Try.results52, go_sem]) rfl ⟨rfl, (((Keeps.refl _ _).alloc _).alloc _).alloc _⟩
  by_cases g3 : i = 3
  · subst g3
    by_cases hm : v ≤ 6
    · have e : withP ⟨s0, s1, s2, s3, s4⟩ (3, v) = ⟨s0, v, s2, s3, s4⟩ := by simp [withP]; omega
      rw [e]
      clear e
      go_enter Try.func52, Try.ntmps52
      go_wp2
      exact bodyPost_ret (v := psval ⟨s0, v, s2, s3, s4⟩) (by simp [results, Try.results52, go_sem]) rfl ⟨rfl, (((Keeps.refl _ _).alloc _).alloc _).alloc _⟩
    · have e : withP ⟨s0, s1, s2, s3, s4⟩ (3, v) = ⟨s0, 6, s2, s3, s4⟩ := by simp [withP]; omega
      rw [e]
      clear e
      go_enter Try.func52, Try.ntmps52
      go_wp2
      exact bodyPost_ret (v := psval ⟨s0, 6, s2, s3, s4⟩) (by simp [results, Try.results52, go_sem]) rfl ⟨rfl, (((Keeps.refl _ _).alloc _).alloc _).alloc _⟩
  by_cases g4 : i = 4
  · subst g4
    have e : withP ⟨s0, s1, s2, s3, s4⟩ (4, v) = ⟨s0, s1, v, s3, s4⟩ := by simp [withP]
    rw [e]
    clear e
    go_enter Try.func52, Try.ntmps52
    go_wp2
    exact bodyPost_ret (v := psval ⟨s0, s1, v, s3, s4⟩) (by simp [results, Try.results52, go_sem]) rfl ⟨rfl, (((Keeps.refl _ _).alloc _).alloc _).alloc _⟩
  by_cases g5 : i = 5
  · subst g5
    by_cases hm : v ≤ 512
    · have e : withP ⟨s0, s1, s2, s3, s4⟩ (5, v) = ⟨s0, s1, s2, v, s4⟩ := by simp [withP]; omega
      rw [e]
      clear e
      go_enter Try.func52, Try.ntmps52
      go_wp2
      exact bodyPost_ret (v := psval ⟨s0, s1, s2, v, s4⟩) (by simp [results, Try.results52, go_sem]) rfl ⟨rfl, (((Keeps.refl _ _).alloc _).alloc _).alloc _⟩
    · have e : withP ⟨s0, s1, s2, s3, s4⟩ (5, v) = ⟨s0, s1, s2, 512, s4⟩ := by simp [withP]; omega
      rw [e]
      clear e
      go_enter Try.func52, Try.ntmps52
      go_wp2
      exact bodyPost_ret (v := psval ⟨s0, s1, s2, 512, s4⟩) (by simp [results, Try.results52, go_sem]) rfl ⟨rfl, (((Keeps.refl _ _).alloc _).alloc _).alloc _⟩
  by_cases g6 : i = 6
  · subst g6
    have e : withP ⟨s0, s1, s2, s3, s4⟩ (6, v) = ⟨s0, s1, s2, s3, v⟩ := by simp [withP]
    rw [e]
    clear e
    go_enter Try.func52, Try.ntmps52
    go_wp2
    exact bodyPost_ret (v := psval ⟨s0, s1, s2, s3, v⟩) (by simp [results, Try.results52, go_sem]) rfl ⟨rfl, (((Keeps.refl _ _).alloc _).alloc _).alloc _⟩
  have e : withP ⟨s0, s1, s2, s3, s4⟩ (i, v) = ⟨s0, s1, s2, s3, s4⟩ := by simp [withP, g1, g3, g4, g5, g6]
  rw [e]
  clear e
  go_enter Try.func52, Try.ntmps52
  go_wp2
  exact bodyPost_ret (v := psval ⟨s0, s1, s2, s3, s4⟩) (by simp [results, Try.results52, go_sem]) rfl ⟨rfl, (((Keeps.refl _ _).alloc _).alloc _).alloc _⟩
end Go.Proofs.Ytkjdklcmaomjnaa
