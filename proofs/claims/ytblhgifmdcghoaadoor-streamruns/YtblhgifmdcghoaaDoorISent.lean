/-
  Package stream: Sent, Got.
-/
import Derived.Test.YtblhgifmdcghoaaDoorICode
namespace Go.Proofs.YtblhgifmdcghoaaDoor
open Go.RowKit

abbrev StC (w : World) (f : FuncId) (s k : Int) (en : Bool) (p : Int × Int) : Prop := Calls Tryd.prog f #[.int .i64 s, .int .i64 k, .bool en] w fun e w' => e = .returned (movedV p) ∧ w = w'
abbrev KnC (s : Int) (b : Bool) : Prop := Hid (∀ w, Calls Tryd.prog 17 #[.int .i64 s] w fun e w' => e = .returned (.bool b) ∧ w = w')
abbrev MvC (k : Int) (b : Bool) : Prop := Hid (∀ w, Calls Tryd.prog 18 #[.int .i64 k] w fun e w' => e = .returned (.bool b) ∧ w = w')
abbrev CaC (k : Int) (b : Bool) : Prop := Hid (∀ w, Calls Tryd.prog 20 #[.int .i64 k] w fun e w' => e = .returned (.bool b) ∧ w = w')
abbrev BhC (s k : Int) (en : Bool) (side t : Int) : Prop := Hid (∀ w, Calls Tryd.prog 19 #[.int .i64 s, .int .i64 k, .bool en, .int .i64 side] w fun e w' => e = .returned (.int .i64 t) ∧ w = w')

theorem sent_0 (s k : Int) (en : Bool) (w : World) (HK : KnC s false) : StC w 10 s k en (s, 1) := by
  go_enter Tryd.func10, Tryd.ntmps10
  go_wp2_with fail
  refine Calls.mono (HK.out _) ?_
  rintro e w1 ⟨rfl, rfl⟩
  go_wp2
  exact bodyPost_ret (v := movedV (s, 1)) (by simp [results, Tryd.results10, go_sem, movedV]) rfl ⟨rfl, rfl⟩
theorem got_0 (s k : Int) (en : Bool) (w : World) (HK : KnC s false) : StC w 12 s k en (s, 1) := by
  go_enter Tryd.func12, Tryd.ntmps12
  go_wp2_with fail
  refine Calls.mono (HK.out _) ?_
  rintro e w1 ⟨rfl, rfl⟩
  go_wp2
  exact bodyPost_ret (v := movedV (s, 1)) (by simp [results, Tryd.results12, go_sem, movedV]) rfl ⟨rfl, rfl⟩
theorem sent_1 (s k : Int) (en : Bool) (w : World) (HK : KnC s true) (HM : MvC k false) : StC w 10 s k en (s, 1) := by
  go_enter Tryd.func10, Tryd.ntmps10
  go_wp2_with fail
  refine Calls.mono (HK.out _) ?_
  rintro e w1 ⟨rfl, rfl⟩
  go_wp2_with fail
  refine Calls.mono (HM.out _) ?_
  rintro e w1 ⟨rfl, rfl⟩
  go_wp2
  exact bodyPost_ret (v := movedV (s, 1)) (by simp [results, Tryd.results10, go_sem, movedV]) rfl ⟨rfl, rfl⟩
theorem got_1 (s k : Int) (en : Bool) (w : World) (HK : KnC s true) (HM : MvC k false) : StC w 12 s k en (s, 1) := by
  go_enter Tryd.func12, Tryd.ntmps12
  go_wp2_with fail
  refine Calls.mono (HK.out _) ?_
  rintro e w1 ⟨rfl, rfl⟩
  go_wp2_with fail
  refine Calls.mono (HM.out _) ?_
  rintro e w1 ⟨rfl, rfl⟩
  go_wp2
  exact bodyPost_ret (v := movedV (s, 1)) (by simp [results, Tryd.results12, go_sem, movedV]) rfl ⟨rfl, rfl⟩
theorem sent_p (s : Int) (en : Bool) (w : World) (HK : KnC s true) (HM : MvC 2 true) : StC w 10 s 2 en (s, 0) := by
  go_enter Tryd.func10, Tryd.ntmps10
  go_wp2_with fail
  refine Calls.mono (HK.out _) ?_
  rintro e w1 ⟨rfl, rfl⟩
  go_wp2_with fail
  refine Calls.mono (HM.out _) ?_
  rintro e w1 ⟨rfl, rfl⟩
  go_wp2
  exact bodyPost_ret (v := movedV (s, 0)) (by simp [results, Tryd.results10, go_sem, movedV]) rfl ⟨rfl, rfl⟩
theorem got_p (s : Int) (en : Bool) (w : World) (HK : KnC s true) (HM : MvC 2 true) : StC w 12 s 2 en (s, 0) := by
  go_enter Tryd.func12, Tryd.ntmps12
  go_wp2_with fail
  refine Calls.mono (HK.out _) ?_
  rintro e w1 ⟨rfl, rfl⟩
  go_wp2_with fail
  refine Calls.mono (HM.out _) ?_
  rintro e w1 ⟨rfl, rfl⟩
  go_wp2
  exact bodyPost_ret (v := movedV (s, 0)) (by simp [results, Tryd.results12, go_sem, movedV]) rfl ⟨rfl, rfl⟩
/-- Idle, and no Headers. -/
theorem sent_i (k : Int) (en : Bool) (w : World) (HK : KnC 0 true) (HM : MvC k true) (h2 : (k == 2) = false) (h1 : (k != 1) = true) : StC w 10 0 k en (0, 8) := by
  go_enter Tryd.func10, Tryd.ntmps10
  go_wp2_with fail
  refine Calls.mono (HK.out _) ?_
  rintro e w1 ⟨rfl, rfl⟩
  go_wp2_with fail
  refine Calls.mono (HM.out _) ?_
  rintro e w1 ⟨rfl, rfl⟩
  go_wp2
  exact bodyPost_ret (v := movedV (0, 8)) (by simp [results, Tryd.results10, go_sem, movedV]) rfl ⟨rfl, rfl⟩
theorem got_i (k : Int) (en : Bool) (w : World) (HK : KnC 0 true) (HM : MvC k true) (h2 : (k == 2) = false) : StC w 12 0 k en (0, 11) := by
  go_enter Tryd.func12, Tryd.ntmps12
  go_wp2_with fail
  refine Calls.mono (HK.out _) ?_
  rintro e w1 ⟨rfl, rfl⟩
  go_wp2_with fail
  refine Calls.mono (HM.out _) ?_
  rintro e w1 ⟨rfl, rfl⟩
  go_wp2
  exact bodyPost_ret (v := movedV (0, 11)) (by simp [results, Tryd.results12, go_sem, movedV]) rfl ⟨rfl, rfl⟩
theorem sent_h (en : Bool) (t : Int) (w : World) (HK : KnC 0 true) (HM : MvC 1 true) (HB : BhC 1 1 en 2 t) : StC w 10 0 1 en (t, 0) := by
  go_enter Tryd.func10, Tryd.ntmps10
  go_wp2_with fail
  refine Calls.mono (HK.out _) ?_
  rintro e w1 ⟨rfl, rfl⟩
  go_wp2_with fail
  refine Calls.mono (HM.out _) ?_
  rintro e w1 ⟨rfl, rfl⟩
  go_wp2_with fail
  refine Calls.mono (HB.out _) ?_
  rintro e w1 ⟨rfl, rfl⟩
  go_wp2
  exact bodyPost_ret (v := movedV (t, 0)) (by simp [results, Tryd.results10, go_sem, movedV]) rfl ⟨rfl, rfl⟩
/-- Open, and ended by the other side. -/
theorem sent_o (s : Int) (hs : s = 1 ∨ s = 3) (k : Int) (en : Bool) (t : Int) (w : World) (HK : KnC s true) (HM : MvC k true) (HB : BhC s k en 2 t) (h2 : (k == 2) = false) : StC w 10 s k en (t, 0) := by
  rcases hs with rfl | rfl
  all_goals
    go_enter Tryd.func10, Tryd.ntmps10
    go_wp2_with fail
    refine Calls.mono (HK.out _) ?_
    rintro e w1 ⟨rfl, rfl⟩
    go_wp2_with fail
    refine Calls.mono (HM.out _) ?_
    rintro e w1 ⟨rfl, rfl⟩
    go_wp2_with fail
    refine Calls.mono (HB.out _) ?_
    rintro e w1 ⟨rfl, rfl⟩
    go_wp2
    exact bodyPost_ret (v := movedV (t, 0)) (by simp [results, Tryd.results10, go_sem, movedV]) rfl ⟨rfl, rfl⟩
theorem got_o (s : Int) (hs : s = 1 ∨ s = 2) (k : Int) (en : Bool) (t : Int) (w : World) (HK : KnC s true) (HM : MvC k true) (HB : BhC s k en 3 t) (h2 : (k == 2) = false) : StC w 12 s k en (t, 0) := by
  rcases hs with rfl | rfl
  all_goals
    go_enter Tryd.func12, Tryd.ntmps12
    go_wp2_with fail
    refine Calls.mono (HK.out _) ?_
    rintro e w1 ⟨rfl, rfl⟩
    go_wp2_with fail
    refine Calls.mono (HM.out _) ?_
    rintro e w1 ⟨rfl, rfl⟩
    go_wp2_with fail
    refine Calls.mono (HB.out _) ?_
    rintro e w1 ⟨rfl, rfl⟩
    go_wp2
    exact bodyPost_ret (v := movedV (t, 0)) (by simp [results, Tryd.results12, go_sem, movedV]) rfl ⟨rfl, rfl⟩
theorem sent_l (k : Int) (en : Bool) (w : World) (HK : KnC 2 true) (HM : MvC k true) (HC : CaC k true) (h2 : (k == 2) = false) : StC w 10 2 k en (2, 8) := by
  go_enter Tryd.func10, Tryd.ntmps10
  go_wp2_with fail
  refine Calls.mono (HK.out _) ?_
  rintro e w1 ⟨rfl, rfl⟩
  go_wp2_with fail
  refine Calls.mono (HM.out _) ?_
  rintro e w1 ⟨rfl, rfl⟩
  go_wp2_with fail
  refine Calls.mono (HC.out _) ?_
  rintro e w1 ⟨rfl, rfl⟩
  go_wp2
  exact bodyPost_ret (v := movedV (2, 8)) (by simp [results, Tryd.results10, go_sem, movedV]) rfl ⟨rfl, rfl⟩
theorem sent_m (k : Int) (en : Bool) (t : Int) (w : World) (HK : KnC 2 true) (HM : MvC k true) (HC : CaC k false) (HB : BhC 2 k en 2 t) (h2 : (k == 2) = false) : StC w 10 2 k en (t, 0) := by
  go_enter Tryd.func10, Tryd.ntmps10
  go_wp2_with fail
  refine Calls.mono (HK.out _) ?_
  rintro e w1 ⟨rfl, rfl⟩
  go_wp2_with fail
  refine Calls.mono (HM.out _) ?_
  rintro e w1 ⟨rfl, rfl⟩
  go_wp2_with fail
  refine Calls.mono (HC.out _) ?_
  rintro e w1 ⟨rfl, rfl⟩
  go_wp2_with fail
  refine Calls.mono (HB.out _) ?_
  rintro e w1 ⟨rfl, rfl⟩
  go_wp2
  exact bodyPost_ret (v := movedV (t, 0)) (by simp [results, Tryd.results10, go_sem, movedV]) rfl ⟨rfl, rfl⟩
theorem sent_c (k : Int) (en : Bool) (w : World) (HK : KnC 4 true) (HM : MvC k true) (h2 : (k == 2) = false) : StC w 10 4 k en (4, 12) := by
  go_enter Tryd.func10, Tryd.ntmps10
  go_wp2_with fail
  refine Calls.mono (HK.out _) ?_
  rintro e w1 ⟨rfl, rfl⟩
  go_wp2_with fail
  refine Calls.mono (HM.out _) ?_
  rintro e w1 ⟨rfl, rfl⟩
  go_wp2
  exact bodyPost_ret (v := movedV (4, 12)) (by simp [results, Tryd.results10, go_sem, movedV]) rfl ⟨rfl, rfl⟩
theorem got_r (s : Int) (hs : s = 4 ∨ s = 3) (k : Int) (en : Bool) (w : World) (HK : KnC s true) (HM : MvC k true) (HC : CaC k true) (h2 : (k == 2) = false) : StC w 12 s k en (s, 12) := by
  rcases hs with rfl | rfl
  · go_enter Tryd.func12, Tryd.ntmps12
    go_wp2_with fail
    refine Calls.mono (HK.out _) ?_
    rintro e w1 ⟨rfl, rfl⟩
    go_wp2_with fail
    refine Calls.mono (HM.out _) ?_
    rintro e w1 ⟨rfl, rfl⟩
    go_wp2_with fail
    refine Calls.mono (HC.out _) ?_
    rintro e w1 ⟨rfl, rfl⟩
    go_wp2
    exact bodyPost_ret (v := movedV (4, 12)) (by simp [results, Tryd.results12, go_sem, movedV]) rfl ⟨rfl, rfl⟩
  · go_enter Tryd.func12, Tryd.ntmps12
    go_wp2_with fail
    refine Calls.mono (HK.out _) ?_
    rintro e w1 ⟨rfl, rfl⟩
    go_wp2_with fail
    refine Calls.mono (HM.out _) ?_
    rintro e w1 ⟨rfl, rfl⟩
    go_wp2_with fail
    refine Calls.mono (HC.out _) ?_
    rintro e w1 ⟨rfl, rfl⟩
    go_wp2
    exact bodyPost_ret (v := movedV (3, 12)) (by simp [results, Tryd.results12, go_sem, movedV]) rfl ⟨rfl, rfl⟩

theorem got_q (s : Int) (hs : s = 4 ∨ s = 3) (k : Int) (en : Bool) (t : Int) (w : World) (HK : KnC s true) (HM : MvC k true) (HC : CaC k false) (HB : BhC s k en 3 t) (h2 : (k == 2) = false) : StC w 12 s k en (t, 0) := by
  rcases hs with rfl | rfl
  all_goals
    go_enter Tryd.func12, Tryd.ntmps12
    go_wp2_with fail
    refine Calls.mono (HK.out _) ?_
    rintro e w1 ⟨rfl, rfl⟩
    go_wp2_with fail
    refine Calls.mono (HM.out _) ?_
    rintro e w1 ⟨rfl, rfl⟩
    go_wp2_with fail
    refine Calls.mono (HC.out _) ?_
    rintro e w1 ⟨rfl, rfl⟩
    go_wp2_with fail
    refine Calls.mono (HB.out _) ?_
    rintro e w1 ⟨rfl, rfl⟩
    go_wp2
    exact bodyPost_ret (v := movedV (t, 0)) (by simp [results, Tryd.results12, go_sem, movedV]) rfl ⟨rfl, rfl⟩

theorem sent_ok (s k : Int) (en : Bool) (w : World) : StC w 10 s k en (sentA s k en) := by
  have HK := st_known s
  have HM := st_moves k
  have HC := st_carries k
  have HB := fun s side w => st_behind s k en side w
  cases hs : stateB s with
  | false => rw [hs] at HK; simpa [sentA, hs] using sent_0 s k en w HK
  | true =>
    rw [hs] at HK
    cases hm : moveB k with
    | false => rw [hm] at HM; simpa [sentA, hm] using sent_1 s k en w HK HM
    | true =>
      rw [hm] at HM
      by_cases h2 : k = 2
      · subst h2; simpa [sentA, hs, hm] using sent_p s en w HK HM
      · have g2 : (k == 2) = false := by simpa using h2
        rcases states_five hs with rfl | rfl | rfl | rfl | rfl
        · by_cases h1 : k = 1
          · subst h1; simpa [sentA, hs, hm] using sent_h en _ w HK HM (HB 1 2)
          · simpa [sentA, hs, hm, h2, h1] using sent_i k en w HK HM g2 (by simpa using h1)
        · simpa [sentA, hs, hm, h2] using sent_o 1 (.inl rfl) k en _ w HK HM (HB 1 2) g2
        · cases hc : carryB k with
          | true => rw [hc] at HC; simpa [sentA, hs, hm, h2, hc] using sent_l k en w HK HM HC g2
          | false => rw [hc] at HC; simpa [sentA, hs, hm, h2, hc] using sent_m k en _ w HK HM HC (HB 2 2) g2
        · simpa [sentA, hs, hm, h2] using sent_o 3 (.inr rfl) k en _ w HK HM (HB 3 2) g2
        · simpa [sentA, hs, hm, h2] using sent_c k en w HK HM g2
theorem got_ok (s k : Int) (en : Bool) (w : World) : StC w 12 s k en (gotA s k en) := by
  have HK := st_known s
  have HM := st_moves k
  have HC := st_carries k
  have HB := fun s side w => st_behind s k en side w
  cases hs : stateB s with
  | false => rw [hs] at HK; simpa [gotA, hs] using got_0 s k en w HK
  | true =>
    rw [hs] at HK
    cases hm : moveB k with
    | false => rw [hm] at HM; simpa [gotA, hm] using got_1 s k en w HK HM
    | true =>
      rw [hm] at HM
      by_cases h2 : k = 2
      · subst h2; simpa [gotA, hs, hm] using got_p s en w HK HM
      · have g2 : (k == 2) = false := by simpa using h2
        rcases states_five hs with rfl | rfl | rfl | rfl | rfl
        · simpa [gotA, hs, hm, h2] using got_i k en w HK HM g2
        · simpa [gotA, hs, hm, h2] using got_o 1 (.inl rfl) k en _ w HK HM (HB 1 3) g2
        · simpa [gotA, hs, hm, h2] using got_o 2 (.inr rfl) k en _ w HK HM (HB 2 3) g2
        · cases hc : carryB k with
          | true => rw [hc] at HC; simpa [gotA, hs, hm, h2, hc] using got_r 3 (.inr rfl) k en w HK HM HC g2
          | false => rw [hc] at HC; simpa [gotA, hs, hm, h2, hc] using got_q 3 (.inr rfl) k en _ w HK HM HC (HB 3 3) g2
        · cases hc : carryB k with
          | true => rw [hc] at HC; simpa [gotA, hs, hm, h2, hc] using got_r 4 (.inl rfl) k en w HK HM HC g2
          | false => rw [hc] at HC; simpa [gotA, hs, hm, h2, hc] using got_q 4 (.inl rfl) k en _ w HK HM HC (HB 4 3) g2
end Go.Proofs.YtblhgifmdcghoaaDoor
