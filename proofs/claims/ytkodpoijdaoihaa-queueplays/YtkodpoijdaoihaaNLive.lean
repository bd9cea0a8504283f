/-
  A queue among other things of the statement's own; the statements' first call of all.
-/
import Derived.Test.YtkodpoijdaoihaaNDo
import Derived.Test.YtkodpoijdaoihaaGDoor
namespace Go.Proofs.Ytkodpoijdaoihaa
open Go.RowKit

theorem hold_start (w : World) : Hold w w [] := hold_nil (Below.refl _ w)
/-- A queue lies there, and these other things. -/
def HQ (W w : World) (g : Nat) (most : Int) (l : List Int) (ts : List Thing) : Prop := ∃ v, Hold W w (quT g v most l :: ts)
section
variable {W w : World} {g : Nat} {most : Int} {l : List Int} {ts : List Thing}
theorem HQ.below (h : HQ W w g most l ts) : Below W.heap.size W w := by obtain ⟨v, h⟩ := h; exact h.below
theorem HQ.quiet {w' : World} (h : HQ W w g most l ts) (hk : Keeps nobody w w') : HQ W w' g most l ts := by obtain ⟨v, h⟩ := h; exact ⟨v, h.quiet hk⟩
theorem qu_of {v : Value} (H : Hold W w (quT g v most l :: ts)) : Qu w g v most l := H.inv (quT g v most l) (by simp)
theorem t_new (H : Hold W w ts) (m : Int) (h : 1 ≤ m) : Calls Try.prog 8 #[.int .i64 m] w fun e w' => ∃ g, e = .returned (.pointer (some ⟨g, 0, none⟩)) ∧ Hid (HQ W w' g m [] ts) := by
  refine (new_ok m w h).mono ?_
  rintro e w' ⟨he, hk, hs⟩
  refine ⟨_, he, _, H.add hk quT_ok hs fun k e => ?_⟩
  rcases e with rfl | e
  · exact Nat.le_refl _
  · simp [Value.ownBlock] at e
theorem t_put (H : HQ W w g most l ts) (hl : l.length ≤ 1000000) (id : Int) {c : Int} {r : List Int} (hc : mayQ most l id = c) (hr : putQ most l id = r) : Calls Try.prog 10 #[.pointer (some ⟨g, 0, none⟩), .int .i64 id] w fun e w' => e = .returned (.int .i64 c) ∧ Hid (HQ W w' g most r ts) := by
  obtain ⟨v, H⟩ := H
  subst hc hr
  refine (put_ok (qu_of H) hl id).mono ?_
  rintro e w' ⟨he, v', hd⟩
  exact ⟨he, v', H.act (a := []) hd⟩
theorem t_back (H : HQ W w g most l ts) (hl : l.length ≤ 1000000) (id : Int) {c : Int} {r : List Int} (hc : mayQ most l id = c) (hr : backQ most l id = r) : Calls Try.prog 11 #[.pointer (some ⟨g, 0, none⟩), .int .i64 id] w fun e w' => e = .returned (.int .i64 c) ∧ Hid (HQ W w' g most r ts) := by
  obtain ⟨v, H⟩ := H
  subst hc hr
  refine (back_ok (qu_of H) hl id).mono ?_
  rintro e w' ⟨he, v', hd⟩
  exact ⟨he, v', H.act (a := []) hd⟩
theorem t_place (H : HQ W w g most l ts) (id : Int) {n : Int} (hn : placeQ l id = n) : Calls Try.prog 13 #[.pointer (some ⟨g, 0, none⟩), .int .i64 id] w fun e w' => e = .returned (.int .i64 n) ∧ w = w' := by
  obtain ⟨v, H⟩ := H
  subst hn
  exact place_ok (qu_of H) id
theorem t_cut (H : HQ W w g most l ts) (hl : l.length ≤ 1000000) (id : Int) {o : Bool} {r : List Int} (ho : decide (id ∈ l) = o) (hr : cutQ l id = r) : Calls Try.prog 12 #[.pointer (some ⟨g, 0, none⟩), .int .i64 id] w fun e w' => e = .returned (.bool o) ∧ Hid (HQ W w' g most r ts) := by
  obtain ⟨v, H⟩ := H
  subst hr
  by_cases h : id ∈ l
  · obtain rfl : o = true := by rw [← ho]; simpa using h
    refine (cut_yes (qu_of H) id h hl).mono ?_
    rintro e w' ⟨he, v', hd⟩
    exact ⟨he, v', H.act (a := []) hd⟩
  · obtain rfl : o = false := by rw [← ho]; simpa using h
    refine (cut_no (qu_of H) id h).mono ?_
    rintro e w' ⟨he, rfl⟩
    refine ⟨he, v, ?_⟩
    rw [cutQ, List.erase_of_not_mem h]
    exact H
theorem t_first0 (H : HQ W w g most [] ts) : Calls Try.prog 9 #[.pointer (some ⟨g, 0, none⟩)] w fun e w' => e = .returned (.tuple #[.int .i64 0, .bool false]) ∧ w = w' := by
  obtain ⟨v, H⟩ := H
  exact first_no (qu_of H)
theorem t_first {x : Int} (H : HQ W w g most (x :: l) ts) (hl : l.length ≤ 1000000) : Calls Try.prog 9 #[.pointer (some ⟨g, 0, none⟩)] w fun e w' => e = .returned (.tuple #[.int .i64 x, .bool true]) ∧ Hid (HQ W w' g most l ts) := by
  obtain ⟨v, H⟩ := H
  refine (first_yes (qu_of H) hl).mono ?_
  rintro e w' ⟨he, v', hd⟩
  exact ⟨he, v', H.act (a := []) hd⟩
/-- A list that a call has made. -/
def rowT (v : Value) (l : List Int) : Thing := ⟨fun k => v.ownBlock = some k, fun w => w.ownsRow 0 3 1 v l.length (icells l)⟩
theorem rowT_ok (v : Value) (l : List Int) : (rowT v l).Ok := ⟨fun h hk hS => hk.row h hS, fun h k e => (World.ownsRow.lt h k e).2⟩
theorem row_zero {w : World} {B : Nat} {v : Value} {n : Nat} {xs : List Value} (h : w.ownsRow B 3 1 v n xs) : w.ownsRow 0 3 1 v n xs := by
  refine ⟨h.1, ?_⟩
  rcases h.2 with e | ⟨rb, cc, cur, e1, e2, e3, e4⟩
  · exact .inl e
  · exact .inr ⟨rb, cc, cur, e1, Nat.zero_le _, e3, e4⟩
theorem t_all (H : HQ W w g most l ts) (hl : l.length ≤ 1000000) : Calls Try.prog 14 #[.pointer (some ⟨g, 0, none⟩)] w fun e w' => ∃ x c, e = .returned (.slice x l.length c) ∧ Hid (HQ W w' g most l (rowT (.slice x l.length c) l :: ts)) := by
  obtain ⟨v, H⟩ := H
  refine (all_ok (qu_of H) hl).mono ?_
  rintro e w' ⟨x, c, he, hr⟩
  refine ⟨x, c, he, v, Hold.swap (H.add hr.out.2 (rowT_ok _ _) (row_zero hr.out.1) fun k e => (World.ownsRow.lt hr.out.1 k e).1)⟩
theorem t_len (H : HQ W w g most l ts) (hl : l.length ≤ 1000000) {n : Nat} (hn : l.length = n) : Calls Try.prog 14 #[.pointer (some ⟨g, 0, none⟩)] w fun e w' => ∃ x c, e = .returned (.slice x n c) ∧ Hid (HQ W w' g most l ts) := by
  obtain ⟨v, H⟩ := H
  subst hn
  refine (all_ok (qu_of H) hl).mono ?_
  rintro e w' ⟨x, c, he, hr⟩
  exact ⟨x, c, he, v, H.quiet hr.out.2⟩
end

set_option maxRecDepth 100000 in
theorem alive_ok (w : World) : Calls Try.prog 7 #[] w fun e w' => e = .returned (.bool true) ∧ Keeps nobody w w' := by
  have HN : Hid (Calls Try.prog 8 #[.int .i64 3] w fun e w' => ∃ g, e = .returned (.pointer (some ⟨g, 0, none⟩)) ∧ Hid (HQ w w' g 3 [] [])) := t_new (hold_start w) 3 (by decide)
  have HP : Hid (∀ W g l id c r, HQ w W g 3 l [] → l.length ≤ 1000000 → mayQ 3 l id = c → putQ 3 l id = r → Calls Try.prog 10 #[.pointer (some ⟨g, 0, none⟩), .int .i64 id] W fun e w' => e = .returned (.int .i64 c) ∧ Hid (HQ w w' g 3 r [])) := fun W g l id c r H hl h1 h2 => t_put H hl id h1 h2
  have HB : Hid (∀ W g l id c r, HQ w W g 3 l [] → l.length ≤ 1000000 → mayQ 3 l id = c → backQ 3 l id = r → Calls Try.prog 11 #[.pointer (some ⟨g, 0, none⟩), .int .i64 id] W fun e w' => e = .returned (.int .i64 c) ∧ Hid (HQ w w' g 3 r [])) := fun W g l id c r H hl h1 h2 => t_back H hl id h1 h2
  have HF : Hid (∀ W g, HQ w W g 3 [7, 3, 5] [] → Calls Try.prog 9 #[.pointer (some ⟨g, 0, none⟩)] W fun e w' => e = .returned (.tuple #[.int .i64 7, .bool true]) ∧ Hid (HQ w w' g 3 [3, 5] [])) := fun W g H => t_first H (by decide)
  have HL : Hid (∀ W g, HQ w W g 3 [3, 5] [] → Calls Try.prog 13 #[.pointer (some ⟨g, 0, none⟩), .int .i64 5] W fun e w' => e = .returned (.int .i64 1) ∧ W = w') := fun W g H => t_place H 5 (by decide)
  have HC : Hid (∀ W g l o r, HQ w W g 3 l [] → l.length ≤ 1000000 → decide ((3 : Int) ∈ l) = o → cutQ l 3 = r → Calls Try.prog 12 #[.pointer (some ⟨g, 0, none⟩), .int .i64 3] W fun e w' => e = .returned (.bool o) ∧ Hid (HQ w w' g 3 r [])) := fun W g l o r H hl h1 h2 => t_cut H hl 3 h1 h2
  go_enter Try.func7, Try.ntmps7
  go_wp2_with fail
  refine Calls.mono HN.out ?_
  rintro e w1 ⟨g, rfl, H1⟩
  clear HN
  go_wp2_with fail
  refine Calls.mono (HP.out _ _ _ 3 0 [3] H1.out (by decide) (by decide) (by decide)) ?_
  rintro e w2 ⟨rfl, H2⟩
  clear H1
  go_wp2_with fail
  refine Calls.mono (HP.out _ _ _ 5 0 [3, 5] H2.out (by decide) (by decide) (by decide)) ?_
  rintro e w3 ⟨rfl, H3⟩
  clear H2
  go_wp2_with fail
  refine Calls.mono (HB.out _ _ _ 7 0 [7, 3, 5] H3.out (by decide) (by decide) (by decide)) ?_
  rintro e w4 ⟨rfl, H4⟩
  clear H3
  go_wp2_with fail
  refine Calls.mono (HP.out _ _ _ 9 13 [7, 3, 5] H4.out (by decide) (by decide) (by decide)) ?_
  rintro e w5 ⟨rfl, H5⟩
  clear H4
  go_wp2_with fail
  refine Calls.mono (HP.out _ _ _ 3 1 [7, 3, 5] H5.out (by decide) (by decide) (by decide)) ?_
  rintro e w6 ⟨rfl, H6⟩
  clear H5
  go_wp2_with fail
  refine Calls.mono (HF.out _ _ H6.out) ?_
  rintro e w7 ⟨rfl, H7⟩
  clear H6
  go_wp2_with fail
  refine Calls.mono (HL.out _ _ H7.out) ?_
  rintro e w8 ⟨rfl, rfl⟩
  go_wp2_with fail
  refine Calls.mono (HC.out _ _ _ true [5] H7.out (by decide) (by decide) (by decide)) ?_
  rintro e w9 ⟨rfl, H9⟩
  clear H7
  go_wp2_with fail
  refine Calls.mono (HC.out _ _ _ false [5] H9.out (by decide) (by decide) (by decide)) ?_
  rintro e w10 ⟨rfl, H10⟩
  go_wp2
  go_ret
  exact ⟨rfl, keeps_of_below H10.out.below⟩
end Go.Proofs.Ytkodpoijdaoihaa
