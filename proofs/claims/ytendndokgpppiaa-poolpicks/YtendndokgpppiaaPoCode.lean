/-
  Package pool: made, lines, Dial, Dialing, All, Pick, At, live, Wants: over a Hold.
-/
import Derived.Test.YtendndokgpppiaaPoMem
namespace Go.Proofs.Ytendndokgpppiaa
open Go.RowKit
attribute [local irreducible] cnT cnW

section
variable {W w : World} {p : Po} {ts : List Thing}
theorem pmade_ok (H : Hold W w (poTs p ts)) (F : PFit p) : Calls Try.prog 21 #[.pointer (some ⟨p.g, 0, none⟩)] w fun e w' => e = .returned (.bool true) ∧ w = w' := by
  obtain ⟨_, _, _, _, c4, _⟩ := H.po
  have hm : ((p.most : Int) != 0) = true := by have := F.most1; simp; omega
  clear H
  go_enter Try.func21, Try.ntmps21
  go_wp2
  go_ret
  exact ⟨rfl, rfl⟩
theorem plines_ok (H : Hold W w (poTs p ts)) : Calls Try.prog 22 #[.pointer (some ⟨p.g, 0, none⟩)] w fun e w' => e = .returned (.slice p.x p.n p.c) ∧ w = w' := by
  obtain ⟨_, _, _, _, _, _, _, c7, _⟩ := H.po
  clear H
  go_enter Try.func22, Try.ntmps22
  go_wp2
  go_ret
  exact ⟨rfl, rfl⟩
theorem poset (H : Hold W w (poTs p ts)) (b : Bool) : Hold W (w.setCell ⟨p.g, 6, none⟩ (.bool b)) (poTs { p with dialing := b } ts) := by
  have h := Hold.recset (a := []) (g := p.g) (cs := poC p) H 6 (.bool b)
  have e : (poC p).setIfInBounds 6 (.bool b) = poC { p with dialing := b } := by simp [poC]
  rw [e] at h
  exact h
theorem dial_ok (H : Hold W w (poTs p ts)) (F : PFit p) : Calls Try.prog 8 #[.pointer (some ⟨p.g, 0, none⟩)] w fun e w' => e = .returned (.bool (!p.dialing)) ∧ Hid (Hold W w' (poTs { p with dialing := true } ts)) := by
  have HM := hid (pmade_ok H F)
  obtain ⟨_, _, _, _, _, _, c6, _, cf, _⟩ := H.po
  have hf := cf 6
  cases hd : p.dialing with
  | true =>
    have HH : Hid (Hold W w (poTs { p with dialing := true } ts)) := by
      rw [← hd]
      exact H
    rw [hd] at c6
    clear H hd
    go_enter Try.func8, Try.ntmps8
    go_wp2_with fail
    refine Calls.mono HM.out ?_
    rintro e w1 ⟨rfl, rfl⟩
    go_wp2
    go_ret
    exact ⟨rfl, HH⟩
  | false =>
    have HH := hid (poset H true)
    rw [hd] at c6
    clear H hd
    go_enter Try.func8, Try.ntmps8
    go_wp2_with fail
    refine Calls.mono HM.out ?_
    rintro e w1 ⟨rfl, rfl⟩
    go_wp2
    go_ret
    exact ⟨rfl, HH⟩
theorem dialing_ok (H : Hold W w (poTs p ts)) (F : PFit p) : Calls Try.prog 16 #[.pointer (some ⟨p.g, 0, none⟩)] w fun e w' => e = .returned (.int .i64 (if p.dialing = true then 1 else 0)) ∧ w = w' := by
  have HM := hid (pmade_ok H F)
  obtain ⟨_, _, _, _, _, _, c6, _, _, _⟩ := H.po
  clear H
  cases hd : p.dialing with
  | true =>
    rw [hd] at c6
    rw [if_pos rfl]
    clear hd
    go_enter Try.func16, Try.ntmps16
    go_wp2_with fail
    refine Calls.mono HM.out ?_
    rintro e w1 ⟨rfl, rfl⟩
    go_wp2
    go_ret
    exact ⟨rfl, rfl⟩
  | false =>
    rw [hd] at c6
    rw [if_neg (by decide)]
    clear hd
    go_enter Try.func16, Try.ntmps16
    go_wp2_with fail
    refine Calls.mono HM.out ?_
    rintro e w1 ⟨rfl, rfl⟩
    go_wp2
    go_ret
    exact ⟨rfl, rfl⟩
end
end Go.Proofs.Ytendndokgpppiaa
