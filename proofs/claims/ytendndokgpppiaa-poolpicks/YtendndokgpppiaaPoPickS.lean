/-
  What is picked and swept of a list, from its end on; the pool's calls beside a list.
-/
import Derived.Test.YtendndokgpppiaaPoTickS
import Derived.Test.YtendndokgpppiaaGBools
namespace Go.Proofs.Ytendndokgpppiaa
open Go.RowKit
attribute [local irreducible] cnT cnW

theorem pick_cons_dead {k : Nat} {s : Cn} {L : List (Nat × Cn)} (h : s.dead ≠ 0) : pickL ((k, s) :: L) = pickL L := by
  unfold pickL
  rw [List.find?_cons_of_neg (by simpa using h)]
theorem pick_cons_live {k : Nat} {s : Cn} {L : List (Nat × Cn)} (h : s.dead = 0) : pickL ((k, s) :: L) = ((k : Int), true) := by
  unfold pickL
  rw [List.find?_cons_of_pos (by simpa using h)]
theorem gone_cons_dead {k : Nat} {s : Cn} {L : List (Nat × Cn)} (h : s.dead ≠ 0) : goneL ((k, s) :: L) = (k : Int) :: goneL L := by
  unfold goneL numsOf
  rw [List.filter_cons_of_pos (by simpa using h)]
  rfl
theorem gone_cons_live {k : Nat} {s : Cn} {L : List (Nat × Cn)} (h : s.dead = 0) : goneL ((k, s) :: L) = goneL L := by
  unfold goneL numsOf
  rw [List.filter_cons_of_neg (by simpa using h)]
theorem stay_gone (L : List (Nat × Cn)) : (stayL L).length + (goneL L).length = L.length := by
  induction L with
  | nil => rfl
  | cons q L ih =>
    obtain ⟨k, s⟩ := q
    by_cases h : s.dead = 0
    · rw [gone_cons_live h]
      have e : stayL ((k, s) :: L) = (k, s) :: stayL L := by
        unfold stayL
        rw [List.filter_cons_of_pos (by simpa using h)]
      rw [e, List.length_cons, List.length_cons]
      omega
    · rw [gone_cons_dead h]
      have e : stayL ((k, s) :: L) = stayL L := by
        unfold stayL
        rw [List.filter_cons_of_neg (by simpa using h)]
      rw [e, List.length_cons, List.length_cons]
      omega
theorem pick_stay (L : List (Nat × Cn)) : pickL (stayL L) = pickL L := by
  induction L with
  | nil => rfl
  | cons q L ih =>
    obtain ⟨k, s⟩ := q
    by_cases h : s.dead = 0
    · have e : stayL ((k, s) :: L) = (k, s) :: stayL L := by
        unfold stayL
        rw [List.filter_cons_of_pos (by simpa using h)]
      rw [e, pick_cons_live h, pick_cons_live h]
    · have e : stayL ((k, s) :: L) = stayL L := by
        unfold stayL
        rw [List.filter_cons_of_neg (by simpa using h)]
      rw [e, pick_cons_dead h]
      exact ih
theorem upL_get (k i : Nat) (h : i < k) : (upL k)[i]? = some ((i : Int) + 1) := by simp [upL, h]
/-- The number at a place. -/
theorem num_at {L : List (Nat × Cn)} {k i m : Nat} {s : Cn} (hn : numsOf L = upL k) (hi : L[i]? = some (m, s)) : (m : Int) = (i : Int) + 1 := by
  have h1 : (numsOf L)[i]? = some (m : Int) := by simp [numsOf, hi]
  have hl : i < k := by
    have := (List.getElem?_eq_some_iff.1 h1).1
    rw [hn, upL_length] at this
    exact this
  rw [hn, upL_get k i hl] at h1
  simpa using h1.symm
theorem num_take {L : List (Nat × Cn)} {k i : Nat} (hn : numsOf L = upL k) : ∀ q ∈ L.take i, (q.1 : Int) ≠ (i : Int) + 1 := by
  intro q hq
  obtain ⟨j, hj, he⟩ := List.mem_iff_getElem.1 hq
  have hji : j < i := by
    rw [List.length_take] at hj
    omega
  have h2 : L[j]? = some q := by
    have h3 : (L.take i)[j]? = some q := by rw [List.getElem?_eq_getElem hj, he]
    rw [List.getElem?_take_of_lt hji] at h3
    exact h3
  have h4 := num_at (s := q.2) (m := q.1) hn h2
  omega
section
variable {W0 W : World} {g k : Nat} {x : Option Addr} {n c : Nat} {L : List (Nat × Cn)} {t : Thing}
theorem b5 : (1 ≤ 5 ∧ 5 ≤ 10) ∧ 1 ≤ 5 ∧ 5 ≤ 10 := by decide
theorem q_at (hk : L.length = k ∧ k ≤ 3) (hn : numsOf L = upL k) {r m : Nat} {s : Cn} (hr : L[r]? = some (m, s)) (H : Hold W0 W (t :: poTs (poN g 5 5 k false x n c L) [])) : Calls Try.prog 10 #[.pointer (some ⟨g, 0, none⟩), .int .i64 ((r : Int) + 1)] W fun e1 w' => e1 = .returned (.pointer (some ⟨s.g, 0, none⟩)) ∧ Hid (Hold W0 w' (t :: poTs (poN g 5 5 k false x n c L) [])) := by
  have hm := num_at hn hr
  refine (at_ok H.inn (fit_n b5 hk) _).mono fun _ _ h => ⟨?_, H.quiet h.2⟩
  have e1 : atV L ((r : Int) + 1) = .pointer (some ⟨s.g, 0, none⟩) := by
    rw [← hm]
    exact at_here hr (by rw [hm]; exact num_take hn)
  rw [h.1]
  simp only [e1]
theorem q_close {A B : List (Nat × Cn)} {m : Nat} {s : Cn} (hL : L = A ++ (m, s) :: B) (h0 : s.dead = 0) (h1 : s.B.size ≤ 100) (h2 : s.sent ≤ 100) (H : Hold W0 W (t :: poTs (poN g 5 5 k false x n c L) [])) :
    Calls Try.prog 11 #[.pointer (some ⟨s.g, 0, none⟩)] W fun e1 w' => e1 = .returned (.tuple #[]) ∧ ∃ s', Hid (s'.g = s.g ∧ s'.dead = 12 ∧ Hold W0 w' (t :: poTs (poN g 5 5 k false x n c (A ++ (m, s') :: B)) [])) := by
  have hm : (m, s) ∈ L := by rw [hL]; simp
  refine (close_ok ((H.tail).cn hm) h0 (by omega) (by omega)).mono ?_
  rintro e1 w' ⟨he, s', hd, ht⟩
  refine ⟨he, s', ht.g, ht.dead, ?_⟩
  exact Hold.cnact (us := [t]) (p := poN g 5 5 k false x n c L) (A := A) (B := B) H hL hd ht.g
theorem q_picked (hk : L.length = k ∧ k ≤ 3) (H : Hold W0 W (t :: poTs (poN g 5 5 k false x n c L) [])) : Calls Try.prog 12 #[.pointer (some ⟨g, 0, none⟩)] W fun e1 w' => e1 = .returned (.int .i64 (pickL L).1) ∧ Hid (Hold W0 w' (t :: poTs (poN g 5 5 k false x n c L) [])) :=
  (picked_ok H.inn (fit_n b5 hk)).mono fun _ _ h => ⟨h.1, H.quiet h.2⟩
theorem q_sweep (hk : L.length = k ∧ k ≤ 3) (H : Hold W0 W (t :: poTs (poN g 5 5 k false x n c L) [])) : Calls Try.prog 14 #[.pointer (some ⟨g, 0, none⟩)] W fun e1 w' => ∃ x1 c1, e1 = .returned (.slice x1 (goneL L).length c1) ∧ ∃ x2 n2 c2, Hid (Hold W0 w' (numT x1 (goneL L).length c1 (goneL L) :: t :: poTs (poN g 5 5 k false x2 n2 c2 (stayL L)) [])) := by
  refine (sweep_ok H.inn (fit_n b5 hk)).mono ?_
  rintro e1 w' ⟨x1, c1, he, x2, n2, c2, hh⟩
  refine ⟨x1, c1, he, x2, n2, c2, ?_⟩
  refine hh.out.perm (List.Perm.cons _ ?_)
  unfold poTs
  exact ((List.Perm.swap _ _ _).trans (List.Perm.cons _ ((List.Perm.swap _ _ _).trans (List.Perm.cons _ List.perm_middle.symm)))).symm
theorem fit_s (h : L.length ≤ 3) (hk : k ≤ 3) {x : Option Addr} {n c : Nat} : PFit (poN g 5 5 k false x n c L) := ⟨by simp, by simp, by simp, by simp, by simp, by simp, by simp only; omega, by simp only; omega⟩
theorem s_all (h : L.length ≤ 3) (hk : k ≤ 3) (H : Hold W0 W (t :: poTs (poN g 5 5 k false x n c L) [])) : Calls Try.prog 15 #[.pointer (some ⟨g, 0, none⟩)] W fun e1 w' => ∃ x1 c1, e1 = .returned (.slice x1 L.length c1) ∧ Hid (Hold W0 w' (t :: poTs (poN g 5 5 k false x n c L) [])) := by
  refine (all_ok H.inn (fit_s h hk)).mono ?_
  rintro e1 w' ⟨x1, c1, he, hh⟩
  exact ⟨x1, c1, he, hh.out.tail.outt⟩
theorem s_picked (h : L.length ≤ 3) (hk : k ≤ 3) (H : Hold W0 W (t :: poTs (poN g 5 5 k false x n c L) [])) : Calls Try.prog 12 #[.pointer (some ⟨g, 0, none⟩)] W fun e1 w' => e1 = .returned (.int .i64 (pickL L).1) ∧ Keeps nobody W0 w' :=
  (picked_ok H.inn (fit_s h hk)).mono fun _ _ h => ⟨h.1, keeps_of_below (H.quiet h.2).below⟩
/-- append([]int{z}, gone...): one ahead of the others. -/
theorem ahead_ok {ts : List Thing} {l : List Int} {x1 : Option Addr} {c1 : Nat} (z : Int) (H : Hold W0 W (numT x1 l.length c1 l :: ts)) (hl : l.length ≤ 1000) :
    ∃ x2 c2 w2, (Builtin.append_ #[30, 30] 30 #[.slice (some ⟨W.heap.size, 0, none⟩) 1 1, .slice x1 l.length c1]).run Try.prog (W.alloc (.cells #[.int .i64 z] 3)) = .ok (.slice x2 (l.length + 1) c2) w2 ∧ Hid (Hold W0 w2 (numT x2 (l.length + 1) c2 (z :: l) :: ts)) := by
  have h1 : Hold W0 (W.alloc (.cells #[.int .i64 z] 3)) (numT (some ⟨W.heap.size, 0, none⟩) 1 1 [z] :: numT x1 l.length c1 l :: ts) := by
    refine H.add (keeps_alloc _ _) Recs.rowT_ok ?_ fun k e => ?_
    · exact own_low (World.ownsRow_lit (base := W.heap.size) (e := 3) (size := 1) W #[.int .i64 z] 1 (Nat.le_refl _) (by unfold maxLen; decide) rfl)
    · have e' : (Value.slice (some ⟨W.heap.size, 0, none⟩) 1 1).ownBlock = some k := e
      simp only [Value.ownBlock, Option.some.injEq] at e'
      omega
  have hL := (numT_lies h1 (.tail _ (.head _))).1
  obtain ⟨x2, n2, c2, w2, r2, H2⟩ := Recs.app (ts := []) (us := numT x1 l.length c1 l :: ts) 30 30 3 _ 8 Try.underlying30 infoInt rfl h1 hL c1 (by simp; omega) (by decide)
  obtain ⟨e2, h3⟩ := H2.out
  have e3 : n2 = l.length + 1 := by rw [e2]; simp
  subst e3
  exact ⟨x2, c2, w2, r2, h3.sub (.cons_cons _ (.cons _ (List.Sublist.refl _)))⟩
end
end Go.Proofs.Ytendndokgpppiaa
