/-
  An Ids among other things of the statement's own; the statements' first call of all.
-/
import Derived.Test.YtpjmiiihninhnaaAMem
import Derived.Test.YtpjmiiihninhnaaGDoor
namespace Go.Proofs.Ytpjmiiihninhnaa
open Go.RowKit

theorem hold_start (w : World) : Hold w w [] := hold_nil (Below.refl _ w)
section
variable {W w : World} {g : Nat} {x : Idd} {ts : List Thing}
theorem Hold.ids (H : Hold W w (idT g x :: ts)) : Il w g x := H.inv (idT g x) (by simp)
theorem t_new (H : Hold W w ts) (a : Int) (h : rightB a = true) : Calls Try.prog 7 #[.int .i64 a] w fun e w' => ∃ g, e = .returned (.pointer (some ⟨g, 0, none⟩)) ∧ Hid (Hold W w' (idT g (newI a) :: ts)) := by
  refine (new_ok a w h).mono ?_
  rintro e w' ⟨he, hk, hs⟩
  refine ⟨_, he, H.add hk recT_ok hs fun k e => ?_⟩
  have e' : k = w.heap.size := e
  omega
theorem t_next (H : Hold W w (idT g x :: ts)) (F : Fit x) {r : Idd} {n : Int} {o : Bool} (hr : nextI x = (r, n, o)) : Calls Try.prog 8 #[.pointer (some ⟨g, 0, none⟩)] w fun e w' => e = .returned (.tuple #[.int .i64 n, .bool o]) ∧ Hid (Hold W w' (idT g r :: ts)) := by
  refine (next_ok H.ids F).mono ?_
  rintro e w' ⟨he, hd⟩
  rw [hr] at he hd
  exact ⟨he, H.act (a := []) hd⟩
theorem t_left (H : Hold W w (idT g x :: ts)) (h1 : 1 ≤ x.first) {o : Bool} (ho : leftI x = o) : Calls Try.prog 9 #[.pointer (some ⟨g, 0, none⟩)] w fun e w' => e = .returned (.bool o) ∧ w = w' := by
  rw [← ho]; exact left_ok H.ids h1
theorem t_kind (H : Hold W w (idT g x :: ts)) (h1 : 1 ≤ x.first) (id : Int) {k : Int} (hk : kindI x id = k) : Calls Try.prog 10 #[.pointer (some ⟨g, 0, none⟩), .int .i64 id] w fun e w' => e = .returned (.int .i64 k) ∧ w = w' := by
  rw [← hk]; exact kind_ok H.ids h1 id
end

set_option maxRecDepth 100000 in
theorem alive_ok (w : World) : Calls Try.prog 6 #[] w fun e w' => e = .returned (.bool true) ∧ Keeps nobody w w' := by
  have HN : Hid (Calls Try.prog 7 #[.int .i64 1] w fun e w' => ∃ g, e = .returned (.pointer (some ⟨g, 0, none⟩)) ∧ Hid (Hold w w' [idT g (newI 1)])) := t_new (hold_start w) 1 (by decide)
  have HA : Hid (∀ W g, Hold w W [idT g (newI 1)] → Calls Try.prog 8 #[.pointer (some ⟨g, 0, none⟩)] W fun e w' => e = .returned (.tuple #[.int .i64 1, .bool true]) ∧ Hid (Hold w w' [idT g ⟨1, 1⟩])) := fun W g H => t_next H ⟨by decide, by decide, by decide, by decide, by decide⟩ rfl
  have HB : Hid (∀ W g, Hold w W [idT g ⟨1, 1⟩] → Calls Try.prog 8 #[.pointer (some ⟨g, 0, none⟩)] W fun e w' => e = .returned (.tuple #[.int .i64 3, .bool true]) ∧ Hid (Hold w w' [idT g ⟨1, 3⟩])) := fun W g H => t_next H ⟨by decide, by decide, by decide, by decide, by decide⟩ rfl
  have K3 : Hid (∀ W g, Hold w W [idT g ⟨1, 3⟩] → Calls Try.prog 10 #[.pointer (some ⟨g, 0, none⟩), .int .i64 3] W fun e w' => e = .returned (.int .i64 1) ∧ W = w') := fun W g H => t_kind H (by decide) 3 (by decide)
  have K5 : Hid (∀ W g, Hold w W [idT g ⟨1, 3⟩] → Calls Try.prog 10 #[.pointer (some ⟨g, 0, none⟩), .int .i64 5] W fun e w' => e = .returned (.int .i64 2) ∧ W = w') := fun W g H => t_kind H (by decide) 5 (by decide)
  have K2 : Hid (∀ W g, Hold w W [idT g ⟨1, 3⟩] → Calls Try.prog 10 #[.pointer (some ⟨g, 0, none⟩), .int .i64 2] W fun e w' => e = .returned (.int .i64 0) ∧ W = w') := fun W g H => t_kind H (by decide) 2 (by decide)
  have HL : Hid (∀ W g, Hold w W [idT g ⟨1, 3⟩] → Calls Try.prog 9 #[.pointer (some ⟨g, 0, none⟩)] W fun e w' => e = .returned (.bool true) ∧ W = w') := fun W g H => t_left H (by decide) (by decide)
  go_enter Try.func6, Try.ntmps6
  go_wp2_with fail
  refine Calls.mono HN.out ?_
  rintro e w1 ⟨g, rfl, H1⟩
  clear HN
  go_wp2_with fail
  refine Calls.mono (HA.out _ _ H1.out) ?_
  rintro e w2 ⟨rfl, H2⟩
  clear HA H1
  go_wp2_with fail
  refine Calls.mono (HB.out _ _ H2.out) ?_
  rintro e w3 ⟨rfl, H3⟩
  clear HB H2
  go_wp2_with fail
  refine Calls.mono (K3.out _ _ H3.out) ?_
  rintro e w4 ⟨rfl, rfl⟩
  go_wp2_with fail
  refine Calls.mono (K5.out _ _ H3.out) ?_
  rintro e w4 ⟨rfl, rfl⟩
  go_wp2_with fail
  refine Calls.mono (K2.out _ _ H3.out) ?_
  rintro e w4 ⟨rfl, rfl⟩
  go_wp2_with fail
  refine Calls.mono (HL.out _ _ H3.out) ?_
  rintro e w4 ⟨rfl, rfl⟩
  go_wp2
  go_ret
  exact ⟨rfl, keeps_of_below H3.out.below⟩
end Go.Proofs.Ytpjmiiihninhnaa
