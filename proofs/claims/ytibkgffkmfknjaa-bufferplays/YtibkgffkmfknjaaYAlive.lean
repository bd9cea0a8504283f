/-
  A Buffer among other things of the statement's own; the statements' first call of all.
-/
import Derived.Test.YtibkgffkmfknjaaYPut
import Derived.Test.YtibkgffkmfknjaaGDoor
namespace Go.Proofs.Ytibkgffkmfknjaa
open Go.RowKit

section
variable {W w : World} {g : Nat} {v : Value} {most : Nat} {o : Bool} {B : ByteArray} {ts : List Thing}
theorem Hold.bf (h : Hold W w (bfT g v most o B :: ts)) : Bf w g v most o B := h.inv (bfT g v most o B) (by simp)
theorem t_new (h : Hold W w ts) (m : Nat) (h1 : 1 ≤ m) (h2 : m ≤ 9223372036854775807) : Calls Try.prog 8 #[.int .i64 (m : Int)] w fun e w' => ∃ g v, e = .returned (.pointer (some ⟨g, 0, none⟩)) ∧ Hid (Hold W w' (bfT g v m false ⟨#[]⟩ :: ts)) := by
  refine (new_ok m w h1 h2).mono ?_
  rintro e w' ⟨he, hk, hs⟩
  refine ⟨_, _, he, h.add hk bfT_ok hs ?_⟩
  rintro k (rfl | e)
  · exact Nat.le_refl _
  · cases e
theorem t_put (h : Hold W w (bfT g v most o B :: ts)) (b : ByteArray) (hs : B.size + b.size ≤ 140737488355328) {r : Bool} {C : ByteArray} (hr : mayB most o B b = r) (hC : putB most o B b = C) : Calls Try.prog 9 #[.pointer (some ⟨g, 0, none⟩), .string b] w fun e w' => e = .returned (.bool r) ∧ ∃ v', Hid (Hold W w' (bfT g v' most o C :: ts)) := by
  subst hr hC
  refine (put_ok h.bf b hs).mono ?_
  rintro e w' ⟨he, v', hd⟩
  exact ⟨he, v', h.act (a := []) hd⟩
theorem t_get (h : Hold W w (bfT g v most o B :: ts)) (n : Int) {k : Nat} {F R : ByteArray} (hk : getK n B = k) (hF : B.extract 0 k = F) (hR : B.extract k B.size = R) : Calls Try.prog 11 #[.pointer (some ⟨g, 0, none⟩), .int .i64 n] w fun e w' => e = .returned (.string F) ∧ ∃ v', Hid (Hold W w' (bfT g v' most o R :: ts)) := by
  subst hk hF hR
  refine (get_ok h.bf n).mono ?_
  rintro e w' ⟨he, v', hd⟩
  exact ⟨he, v', h.act (a := []) hd⟩
theorem t_end (h : Hold W w (bfT g v most o B :: ts)) {r : Bool} (hr : (!o) = r) : Calls Try.prog 10 #[.pointer (some ⟨g, 0, none⟩)] w fun e w' => e = .returned (.bool r) ∧ Hid (Hold W w' (bfT g v most true B :: ts)) := by
  subst hr
  refine (end_ok h.bf).mono ?_
  rintro e w' ⟨he, hd⟩
  exact ⟨he, h.act (a := []) hd⟩
theorem t_drop (h : Hold W w (bfT g v most o B :: ts)) : Calls Try.prog 13 #[.pointer (some ⟨g, 0, none⟩)] w fun e w' => e = .returned (.int .i64 (B.size : Int)) ∧ ∃ v', Hid (Hold W w' (bfT g v' most true ⟨#[]⟩ :: ts)) := by
  refine (drop_ok h.bf).mono ?_
  rintro e w' ⟨he, hd⟩
  exact ⟨he, _, h.act (a := []) hd⟩
theorem t_len (h : Hold W w (bfT g v most o B :: ts)) : Calls Try.prog 12 #[.pointer (some ⟨g, 0, none⟩)] w fun e w' => e = .returned (.int .i64 (B.size : Int)) ∧ w' = w := (len_ok h.bf).mono fun _ _ h => ⟨h.1, h.2.symm⟩
theorem t_ended (h : Hold W w (bfT g v most o B :: ts)) : Calls Try.prog 14 #[.pointer (some ⟨g, 0, none⟩)] w fun e w' => e = .returned (.bool o) ∧ w' = w := (ended_ok h.bf).mono fun _ _ h => ⟨h.1, h.2.symm⟩
theorem t_done (h : Hold W w (bfT g v most o B :: ts)) {r : Bool} (hr : doneB o B = r) : Calls Try.prog 15 #[.pointer (some ⟨g, 0, none⟩)] w fun e w' => e = .returned (.bool r) ∧ w' = w := hr ▸ (done_ok h.bf).mono fun _ _ h => ⟨h.1, h.2.symm⟩
end

set_option maxRecDepth 100000 in
theorem alive_ok (w : World) : Calls Try.prog 7 #[] w fun e w' => e = .returned (.bool true) ∧ Keeps nobody w w' := by
  have HN : Hid (Calls Try.prog 8 #[.int .i64 5] w fun e w' => ∃ g v, e = .returned (.pointer (some ⟨g, 0, none⟩)) ∧ Hid (Hold w w' [bfT g v 5 false ⟨#[]⟩])) := t_new (hold_start w) 5 (by decide) (by decide)
  have HP : Hid (∀ W g v, Hold w W [bfT g v 5 false ⟨#[]⟩] → Calls Try.prog 9 #[.pointer (some ⟨g, 0, none⟩), .string ⟨#[97, 98, 99]⟩] W fun e w' => e = .returned (.bool true) ∧ ∃ v', Hid (Hold w w' [bfT g v' 5 false ⟨#[97, 98, 99]⟩])) := fun W g v h => t_put h _ (by decide +kernel) (by decide +kernel) (by decide +kernel)
  have HQ : Hid (∀ W g v, Hold w W [bfT g v 5 false ⟨#[97, 98, 99]⟩] → Calls Try.prog 9 #[.pointer (some ⟨g, 0, none⟩), .string ⟨#[120, 121, 122]⟩] W fun e w' => e = .returned (.bool false) ∧ ∃ v', Hid (Hold w w' [bfT g v' 5 false ⟨#[97, 98, 99]⟩])) := fun W g v h => t_put h _ (by decide +kernel) (by decide +kernel) (by decide +kernel)
  have HG : Hid (∀ W g v, Hold w W [bfT g v 5 false ⟨#[97, 98, 99]⟩] → Calls Try.prog 11 #[.pointer (some ⟨g, 0, none⟩), .int .i64 2] W fun e w' => e = .returned (.string ⟨#[97, 98]⟩) ∧ ∃ v', Hid (Hold w w' [bfT g v' 5 false ⟨#[99]⟩])) := fun W g v h => t_get h 2 (k := 2) (by decide +kernel) (by decide +kernel) (by decide +kernel)
  have HL : Hid (∀ W g v, Hold w W [bfT g v 5 false ⟨#[99]⟩] → Calls Try.prog 12 #[.pointer (some ⟨g, 0, none⟩)] W fun e w' => e = .returned (.int .i64 1) ∧ w' = W) := fun W g v h => t_len h
  have HE : Hid (∀ W g v, Hold w W [bfT g v 5 false ⟨#[99]⟩] → Calls Try.prog 10 #[.pointer (some ⟨g, 0, none⟩)] W fun e w' => e = .returned (.bool true) ∧ Hid (Hold w w' [bfT g v 5 true ⟨#[99]⟩])) := fun W g v h => t_end h rfl
  have HF : Hid (∀ W g v, Hold w W [bfT g v 5 true ⟨#[99]⟩] → Calls Try.prog 10 #[.pointer (some ⟨g, 0, none⟩)] W fun e w' => e = .returned (.bool false) ∧ Hid (Hold w w' [bfT g v 5 true ⟨#[99]⟩])) := fun W g v h => t_end h rfl
  have HR : Hid (∀ W g v, Hold w W [bfT g v 5 true ⟨#[99]⟩] → Calls Try.prog 9 #[.pointer (some ⟨g, 0, none⟩), .string ⟨#[120]⟩] W fun e w' => e = .returned (.bool false) ∧ ∃ v', Hid (Hold w w' [bfT g v' 5 true ⟨#[99]⟩])) := fun W g v h => t_put h _ (by decide +kernel) (by decide +kernel) (by decide +kernel)
  have HD : Hid (∀ W g v, Hold w W [bfT g v 5 true ⟨#[99]⟩] → Calls Try.prog 15 #[.pointer (some ⟨g, 0, none⟩)] W fun e w' => e = .returned (.bool false) ∧ w' = W) := fun W g v h => t_done h (by decide +kernel)
  go_enter Try.func7, Try.ntmps7
  go_wp2_with fail
  refine Calls.mono HN.out ?_
  rintro e w1 ⟨g, v, rfl, H1⟩
  clear HN
  go_wp2_with fail
  refine Calls.mono (HP.out _ _ _ H1.out) ?_
  rintro e w2 ⟨rfl, v2, H2⟩
  clear HP H1
  go_wp2_with fail
  refine Calls.mono (HQ.out _ _ _ H2.out) ?_
  rintro e w3 ⟨rfl, v3, H3⟩
  clear HQ H2
  go_wp2_with fail
  refine Calls.mono (HG.out _ _ _ H3.out) ?_
  rintro e w4 ⟨rfl, v4, H4⟩
  clear HG H3
  go_wp2_with fail
  refine Calls.mono (HL.out _ _ _ H4.out) ?_
  rintro e w5 ⟨rfl, rfl⟩
  clear HL
  go_wp2_with fail
  refine Calls.mono (HE.out _ _ _ H4.out) ?_
  rintro e w6 ⟨rfl, H6⟩
  clear HE H4
  go_wp2_with fail
  refine Calls.mono (HF.out _ _ _ H6.out) ?_
  rintro e w7 ⟨rfl, H7⟩
  clear HF H6
  go_wp2_with fail
  refine Calls.mono (HR.out _ _ _ H7.out) ?_
  rintro e w8 ⟨rfl, v8, H8⟩
  clear HR H7
  go_wp2_with fail
  refine Calls.mono (HD.out _ _ _ H8.out) ?_
  rintro e w9 ⟨rfl, rfl⟩
  clear HD
  go_wp2
  go_ret
  exact ⟨rfl, keeps_of_below H8.out.below⟩
end Go.Proofs.Ytibkgffkmfknjaa
