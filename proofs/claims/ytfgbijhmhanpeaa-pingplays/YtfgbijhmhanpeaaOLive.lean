/-
  A Health among other things of the statement's own; the statements' first call of all.
-/
import Derived.Test.YtfgbijhmhanpeaaOCode
import Derived.Test.YtfgbijhmhanpeaaGDoor
namespace Go.Proofs.Ytfgbijhmhanpeaa
open Go.RowKit
attribute [local irreducible] nums str bodyB

theorem hold_start (w : World) : Hold w w [] := hold_nil (Below.refl _ w)
section
variable {W w : World} {g : Nat} {h : He} {ts : List Thing}
theorem Hold.he (H : Hold W w (heT g h :: ts)) : Hl w g h := H.inv (heT g h) (by simp)
theorem t_new (H : Hold W w ts) (a b : Nat) (h1 : 1 ≤ a) (h2 : 1 ≤ b) : Calls Try.prog 9 #[.int .i64 (a : Int), .int .i64 (b : Int)] w fun e w' => ∃ g, e = .returned (.pointer (some ⟨g, 0, none⟩)) ∧ Hid (Hold W w' (heT g (newH a b) :: ts)) := by
  refine (new_ok a b w h1 h2).mono ?_
  rintro e w' ⟨he, hk, hs⟩
  refine ⟨_, he, H.add hk recT_ok hs fun k e => ?_⟩
  have e' : k = w.heap.size := e
  omega
theorem t_tick (H : Hold W w (heT g h :: ts)) (F : Fit h) {r : He} {s : ByteArray} {o : Bool} (hr : tickH h = (r, s, o)) : Calls Try.prog 10 #[.pointer (some ⟨g, 0, none⟩)] w fun e w' => e = .returned (.tuple #[.string s, .bool o]) ∧ Hid (Hold W w' (heT g r :: ts)) := by
  refine (tick_ok H.he F).mono ?_
  rintro e w' ⟨he, hd⟩
  rw [hr] at he hd
  exact ⟨he, H.act (a := []) hd⟩
theorem t_got (H : Hold W w (heT g h :: ts)) (F : Fit h) (b : ByteArray) {r : He} {o : Bool} (hr : gotH h b = (r, o)) : Calls Try.prog 11 #[.pointer (some ⟨g, 0, none⟩), .string b] w fun e w' => e = .returned (.bool o) ∧ Hid (Hold W w' (heT g r :: ts)) := by
  refine (got_ok H.he F b).mono ?_
  rintro e w' ⟨he, hd⟩
  rw [hr] at he hd
  exact ⟨he, H.act (a := []) hd⟩
theorem t_waits (H : Hold W w (heT g h :: ts)) (h1 : 1 ≤ h.every) : Calls Try.prog 12 #[.pointer (some ⟨g, 0, none⟩)] w fun e w' => e = .returned (.bool h.waits) ∧ w' = w := (waits_ok H.he h1).mono fun _ _ h => ⟨h.1, h.2.symm⟩
theorem t_sent (H : Hold W w (heT g h :: ts)) (h1 : 1 ≤ h.every) : Calls Try.prog 13 #[.pointer (some ⟨g, 0, none⟩)] w fun e w' => e = .returned (.int .i64 (h.sent : Int)) ∧ w' = w := (sent_ok H.he h1).mono fun _ _ h => ⟨h.1, h.2.symm⟩
end

/-- The first call's Health behind a tick, and behind its answer. -/
theorem tick_first : tickH (newH 1 2) = (⟨1, 2, 2, 1, true⟩, ⟨#[0, 0, 0, 0, 0, 0, 0, 1]⟩, false) := by
  have : tickH (newH 1 2) = (⟨1, 2, 2, 1, true⟩, bodyB 1, false) := by simp [tickH, newH]
  rw [this, bodyB_one]
theorem got_first : gotH ⟨1, 2, 2, 1, true⟩ ⟨#[0, 0, 0, 0, 0, 0, 0, 1]⟩ = (⟨1, 2, 1, 1, false⟩, true) := by simp [gotH, bodyB_one]

set_option maxRecDepth 100000 in
theorem alive_ok (w : World) : Calls Try.prog 8 #[] w fun e w' => e = .returned (.bool true) ∧ Keeps nobody w w' := by
  have HN : Hid (Calls Try.prog 9 #[.int .i64 1, .int .i64 2] w fun e w' => ∃ g, e = .returned (.pointer (some ⟨g, 0, none⟩)) ∧ Hid (Hold w w' [heT g (newH 1 2)])) := t_new (hold_start w) 1 2 (by decide) (by decide)
  have HT : Hid (∀ W g, Hold w W [heT g (newH 1 2)] → Calls Try.prog 10 #[.pointer (some ⟨g, 0, none⟩)] W fun e w' => e = .returned (.tuple #[.string ⟨#[0, 0, 0, 0, 0, 0, 0, 1]⟩, .bool false]) ∧ Hid (Hold w w' [heT g ⟨1, 2, 2, 1, true⟩])) := fun W g H => t_tick H ⟨by decide, by decide, by decide, by decide, by decide⟩ tick_first
  have HW : Hid (∀ W g, Hold w W [heT g ⟨1, 2, 2, 1, true⟩] → Calls Try.prog 12 #[.pointer (some ⟨g, 0, none⟩)] W fun e w' => e = .returned (.bool true) ∧ w' = W) := fun W g H => t_waits H (by decide)
  have HG : Hid (∀ W g, Hold w W [heT g ⟨1, 2, 2, 1, true⟩] → Calls Try.prog 11 #[.pointer (some ⟨g, 0, none⟩), .string ⟨#[0, 0, 0, 0, 0, 0, 0, 1]⟩] W fun e w' => e = .returned (.bool true) ∧ Hid (Hold w w' [heT g ⟨1, 2, 1, 1, false⟩])) := fun W g H => t_got H ⟨by decide, by decide, by decide, by decide, by decide⟩ _ got_first
  have HV : Hid (∀ W g, Hold w W [heT g ⟨1, 2, 1, 1, false⟩] → Calls Try.prog 12 #[.pointer (some ⟨g, 0, none⟩)] W fun e w' => e = .returned (.bool false) ∧ w' = W) := fun W g H => t_waits H (by decide)
  have HS : Hid (∀ W g, Hold w W [heT g ⟨1, 2, 1, 1, false⟩] → Calls Try.prog 13 #[.pointer (some ⟨g, 0, none⟩)] W fun e w' => e = .returned (.int .i64 1) ∧ w' = W) := fun W g H => t_sent H (by decide)
  go_enter Try.func8, Try.ntmps8
  go_wp2_with fail
  refine Calls.mono HN.out ?_
  rintro e w1 ⟨g, rfl, H1⟩
  clear HN
  go_wp2_with fail
  refine Calls.mono (HT.out _ _ H1.out) ?_
  rintro e w2 ⟨rfl, H2⟩
  clear HT H1
  go_wp2_with fail
  refine Calls.mono (HW.out _ _ H2.out) ?_
  rintro e w3 ⟨rfl, rfl⟩
  go_wp2_with fail
  refine Calls.mono (HG.out _ _ H2.out) ?_
  rintro e w4 ⟨rfl, H4⟩
  clear HW HG H2
  go_wp2_with fail
  refine Calls.mono (HV.out _ _ H4.out) ?_
  rintro e w5 ⟨rfl, rfl⟩
  go_wp2_with fail
  refine Calls.mono (HS.out _ _ H4.out) ?_
  rintro e w5 ⟨rfl, rfl⟩
  go_wp2
  go_ret
  exact ⟨rfl, keeps_of_below H4.out.below⟩
end Go.Proofs.Ytfgbijhmhanpeaa
