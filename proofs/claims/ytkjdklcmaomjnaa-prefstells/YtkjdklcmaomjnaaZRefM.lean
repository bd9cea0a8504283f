/-
  The reference's First, Mine; settings as the reference's.
-/
import Derived.Test.YtkjdklcmaomjnaaZRefP
import Derived.Test.YtkjdklcmaomjnaaZRefG
import Derived.Test.YtkjdklcmaomjnaaZRefY
import Derived.Test.YtkjdklcmaomjnaaZMine
namespace Go.Proofs.Ytkjdklcmaomjnaa
open Go.RowKit
attribute [local irreducible] numL nums str sixes putP getP applyG

theorem rfirst_ok (w : World) : Calls Try.prog 21 #[] w fun e w' => e = .returned (.agg #[.int .i64 128, .int .i64 6, .int .i64 100, .int .i64 64, .int .i64 600]) ∧ Keeps nobody w w' := by
  go_enter Try.func21, Try.ntmps21
  go_wp2
  exact bodyPost_ret (v := .agg #[.int .i64 128, .int .i64 6, .int .i64 100, .int .i64 64, .int .i64 600]) (by simp [results, Try.results21, go_sem]) rfl ⟨rfl, (Keeps.refl _ _).alloc _⟩
theorem ref_ok (a b c d f : Int) (w : World) : Calls Try.prog 19 #[.agg #[.int .i64 a, .int .i64 b, .int .i64 c, .int .i64 d, .int .i64 f]] w fun e w' => e = .returned (.agg #[.int .i64 a, .int .i64 b, .int .i64 c, .int .i64 d, .int .i64 f]) ∧ Keeps nobody w w' := by
  go_enter Try.func19, Try.ntmps19
  go_wp2
  exact bodyPost_ret (v := .agg #[.int .i64 a, .int .i64 b, .int .i64 c, .int .i64 d, .int .i64 f]) (by simp [results, Try.results19, go_sem]) rfl ⟨rfl, ((Keeps.refl _ _).alloc _).alloc _⟩
set_option maxRecDepth 100000 in
theorem rmine_ok (window : Int) (w : World) : Calls Try.prog 16 #[.int .i64 window] w fun e w' => e = .returned (.tuple #[.string (if 1 ≤ window ∧ window ≤ 65535 then putP (mineL window) else ⟨#[]⟩), .bool (decide (1 ≤ window ∧ window ≤ 65535))]) ∧ Keeps nobody w w' := by
  by_cases h : 1 ≤ window ∧ window ≤ 65535
  · rw [if_pos h, decide_eq_true h]
    have HP : Hid (∀ w : World, Calls Try.prog 12 #[.slice (some ⟨w.heap.size, 0, none⟩) 3 3] (w.alloc (.cells #[.int .i64 2, .int .i64 0, .int .i64 4, .int .i64 window, .int .i64 6, .int .i64 600] 48)) fun e w' => e = .returned (.tuple #[.string (putP (mineL window)), .bool true]) ∧ Keeps nobody (w.alloc (.cells #[.int .i64 2, .int .i64 0, .int .i64 4, .int .i64 window, .int .i64 6, .int .i64 600] 48)) w') := fun w => by
      have := rput_ok 3 (plies_new w (mineL window) 48 #[.int .i64 2, .int .i64 0, .int .i64 4, .int .i64 window, .int .i64 6, .int .i64 600] rfl) (by simp [mineL])
      rw [decide_eq_true (mine_in window h)] at this
      exact this
    generalize putP (mineL window) = P at *
    obtain ⟨h1, h2⟩ := h
    go_enter Try.func16, Try.ntmps16
    go_wp2_with fail
    refine Calls.mono (HP.out _) ?_
    rintro e w1 ⟨rfl, k1⟩
    go_wp2
    go_ret2
    exact ⟨rfl, (keeps_alloc _ _).then k1⟩
  · rw [if_neg h, decide_eq_false h]
    by_cases h1 : window < 1
    · clear h
      go_enter Try.func16, Try.ntmps16
      go_wp2
      go_ret2
      exact ⟨rfl, Keeps.refl _ _⟩
    · have h2 : 65535 < window := by omega
      clear h
      go_enter Try.func16, Try.ntmps16
      go_wp2
      go_ret2
      exact ⟨rfl, Keeps.refl _ _⟩
end Go.Proofs.Ytkjdklcmaomjnaa
