/-
  The reference's Ids: Next, Kind; both side by side.
-/
import Derived.Test.YtpjmiiihninhnaaALive
namespace Go.Proofs.Ytpjmiiihninhnaa
open Go.RowKit

/-- The reference's, as a thing: what is next. -/
abbrev rfT (g : Nat) (first a : Int) : Thing := recT g #[.int .i64 first, .int .i64 a] 31
theorem rf_cells {w : World} {g : Nat} {first a : Int} (H : w.heap[g]? = some (.cells #[.int .i64 first, .int .i64 a] 31 (0, 0))) : w.cell? ⟨g, 0, none⟩ = some (.int .i64 first) ∧ w.cell? ⟨g, 1, none⟩ = some (.int .i64 a) ∧ ∀ n, w.frozen? ⟨g, n, none⟩ = false := by
  refine ⟨?_, ?_, fun n => ?_⟩ <;> simp [World.cell?, World.frozen?, H]
theorem rnext_more {w : World} {g : Nat} {first a : Int} (H : w.heap[g]? = some (.cells #[.int .i64 first, .int .i64 a] 31 (0, 0))) (h1 : 1 ≤ a) (h2 : a ≤ 2147483647) : Calls Try.prog 11 #[.pointer (some ⟨g, 0, none⟩)] w fun e w' => e = .returned (.tuple #[.int .i64 a, .bool true]) ∧ Did (rfT g first a) (rfT g first (a + 2)) w w' := by
  obtain ⟨c0, c1, cf⟩ := rf_cells H
  have HS : Hid (Did (rfT g first a) (rfT g first (a + 2)) w (w.setCell ⟨g, 1, none⟩ (.int .i64 (a + 2)))) := rec_set (T := 31) H 1 (.int .i64 (a + 2))
  clear H
  go_enter Try.func11, Try.ntmps11
  go_wp2
  exact bodyPost_ret (v := .tuple #[.int .i64 a, .bool true]) (by simp [results, Try.results11, go_sem]) rfl ⟨rfl, HS.out⟩
theorem rnext_last {w : World} {g : Nat} {first a : Int} (H : w.heap[g]? = some (.cells #[.int .i64 first, .int .i64 a] 31 (0, 0))) (h2 : 2147483647 < a) : Calls Try.prog 11 #[.pointer (some ⟨g, 0, none⟩)] w fun e w' => e = .returned (.tuple #[.int .i64 0, .bool false]) ∧ Did (rfT g first a) (rfT g first a) w w' := by
  obtain ⟨c0, c1, cf⟩ := rf_cells H
  have HS : Hid (Did (rfT g first a) (rfT g first a) w w) := did_rec (T := 31) H
  clear H
  go_enter Try.func11, Try.ntmps11
  go_wp2
  exact bodyPost_ret (v := .tuple #[.int .i64 0, .bool false]) (by simp [results, Try.results11, go_sem]) rfl ⟨rfl, HS.out⟩
/-- The reference's Kind. -/
def rkind (first a id : Int) : Int := if rightB id = true then (if first ≤ id ∧ id < a then 1 else 2) else 0
theorem rkind_eq (x : Idd) (id : Int) (F : Fit x) : rkind x.first (x.last + 2) id = kindI x id := by
  unfold rkind kindI
  by_cases h : rightB id = true
  · rw [if_pos h, if_pos h]
    have ho := F.odd
    have hi := ((right_iff id).1 h).2.2
    by_cases h2 : x.first ≤ id ∧ id ≤ x.last
    · rw [if_pos h2, if_pos (by omega)]
    · rw [if_neg h2, if_neg (by omega)]
  · rw [if_neg h, if_neg h]
set_option maxRecDepth 100000 in
theorem rkind_ok {w : World} {g : Nat} {first a : Int} (H : w.heap[g]? = some (.cells #[.int .i64 first, .int .i64 a] 31 (0, 0))) (id : Int) : Calls Try.prog 12 #[.pointer (some ⟨g, 0, none⟩), .int .i64 id] w fun e w' => e = .returned (.int .i64 (rkind first a id)) ∧ w = w' := by
  obtain ⟨c0, c1, cf⟩ := rf_cells H
  clear H
  by_cases h1 : 1 ≤ id
  · by_cases h2 : id ≤ 2147483647
    · have hr := rem_two (show 0 ≤ id by omega)
      by_cases h3 : id % 2 = 1
      · have e : rightB id = true := (right_iff id).2 ⟨h1, h2, h3⟩
        rw [h3] at hr
        clear h3
        by_cases h4 : first ≤ id
        · by_cases h5 : id < a
          · have e2 : rkind first a id = 1 := by unfold rkind; rw [if_pos e, if_pos ⟨h4, h5⟩]
            rw [e2]
            clear e e2
            go_enter Try.func12, Try.ntmps12
            go_wp2
            go_ret
            exact ⟨rfl, rfl⟩
          · have e2 : rkind first a id = 2 := by unfold rkind; rw [if_pos e, if_neg fun h => h5 h.2]
            rw [e2]
            clear e e2
            go_enter Try.func12, Try.ntmps12
            go_wp2
            go_ret
            exact ⟨rfl, rfl⟩
        · have e2 : rkind first a id = 2 := by unfold rkind; rw [if_pos e, if_neg fun h => h4 h.1]
          rw [e2]
          clear e e2
          go_enter Try.func12, Try.ntmps12
          go_wp2
          go_ret
          exact ⟨rfl, rfl⟩
      · have e2 : rkind first a id = 0 := by unfold rkind; rw [if_neg fun h => h3 ((right_iff id).1 h).2.2]
        rw [e2]
        rw [show id % 2 = 0 by omega] at hr
        clear e2 h3
        go_enter Try.func12, Try.ntmps12
        go_wp2
        go_ret
        exact ⟨rfl, rfl⟩
    · have e2 : rkind first a id = 0 := by unfold rkind; rw [if_neg fun h => h2 ((right_iff id).1 h).2.1]
      rw [e2]
      clear e2
      go_enter Try.func12, Try.ntmps12
      go_wp2
      go_ret
      exact ⟨rfl, rfl⟩
  · have e2 : rkind first a id = 0 := by unfold rkind; rw [if_neg fun h => h1 ((right_iff id).1 h).1]
    rw [e2]
    clear e2
    go_enter Try.func12, Try.ntmps12
    go_wp2
    go_ret
    exact ⟨rfl, rfl⟩
/-- Both side by side: what the program's has given, the reference's has given. -/
abbrev both (g r : Nat) (x : Idd) : List Thing := [idT g x, rfT r x.first (x.last + 2)]
section
variable {W w : World} {g r : Nat} {x : Idd}
theorem both_next (H : Hold W w (both g r x)) (F : Fit x) {y : Idd} {n : Int} {o : Bool} (hr : nextI x = (y, n, o)) : Calls Try.prog 8 #[.pointer (some ⟨g, 0, none⟩)] w fun e w' => e = .returned (.tuple #[.int .i64 n, .bool o]) ∧ Hid (Hold W w' [idT g y, rfT r x.first (x.last + 2)]) := t_next H F hr
theorem both_rmore (H : Hold W w [idT g ⟨x.first, x.last + 2⟩, rfT r x.first (x.last + 2)]) (F : Fit x) (h : x.last ≤ 2147483645) : Calls Try.prog 11 #[.pointer (some ⟨r, 0, none⟩)] w fun e w' => e = .returned (.tuple #[.int .i64 (x.last + 2), .bool true]) ∧ Hid (Hold W w' (both g r ⟨x.first, x.last + 2⟩)) := by
  have hi : w.heap[r]? = some (.cells #[.int .i64 x.first, .int .i64 (x.last + 2)] 31 (0, 0)) := H.inv (rfT r x.first (x.last + 2)) (by simp)
  have := F.last1
  refine (rnext_more hi (by omega) (by omega)).mono ?_
  rintro e w' ⟨he, hd⟩
  exact ⟨he, Hold.act (a := [idT g ⟨x.first, x.last + 2⟩]) (b := []) H hd⟩
theorem both_rlast (H : Hold W w (both g r x)) (h : ¬ x.last ≤ 2147483645) : Calls Try.prog 11 #[.pointer (some ⟨r, 0, none⟩)] w fun e w' => e = .returned (.tuple #[.int .i64 0, .bool false]) ∧ Hid (Hold W w' (both g r x)) := by
  have hi : w.heap[r]? = some (.cells #[.int .i64 x.first, .int .i64 (x.last + 2)] 31 (0, 0)) := H.inv (rfT r x.first (x.last + 2)) (by simp)
  refine (rnext_last hi (by omega)).mono ?_
  rintro e w' ⟨he, hd⟩
  exact ⟨he, Hold.act (a := [idT g x]) (b := []) H hd⟩
/-- With a list beside them. -/
theorem both_kind {t : Thing} (H : Hold W w (t :: both g r x)) (F : Fit x) (id : Int) : Calls Try.prog 10 #[.pointer (some ⟨g, 0, none⟩), .int .i64 id] w fun e w' => e = .returned (.int .i64 (kindI x id)) ∧ w = w' := t_kind H.tail F.first1 id rfl
theorem both_rkind {t : Thing} (H : Hold W w (t :: both g r x)) (F : Fit x) (id : Int) : Calls Try.prog 12 #[.pointer (some ⟨r, 0, none⟩), .int .i64 id] w fun e w' => e = .returned (.int .i64 (kindI x id)) ∧ w = w' := by
  rw [← rkind_eq x id F]
  exact rkind_ok (H.inv (rfT r x.first (x.last + 2)) (by simp)) id
end
end Go.Proofs.Ytpjmiiihninhnaa
