/-
  The law PrefsMine, walked.
-/
import Derived.Test.YtkjdklcmaomjnaaZPushW
namespace Go.Proofs.Ytkjdklcmaomjnaa
open Go.RowKit
attribute [local irreducible] numL nums str sixes putP getP applyG

theorem apply_mine {w : World} {B g c : Nat} {window : Int} (h : Own B w (some ⟨g, 0, none⟩) c (mineL window)) (h1 : window ≤ 65535) : Calls Try.prog 24 #[.agg #[.int .i64 128, .int .i64 6, .int .i64 100, .int .i64 64, .int .i64 600], .slice (some ⟨g, 0, none⟩) 3 c] w fun e w' => e = .returned (.tuple #[.agg #[.int .i64 128, .int .i64 6, .int .i64 window, .int .i64 64, .int .i64 600], .int .i64 0, .int .i64 0]) ∧ Keeps nobody w w' := by
  have e : applyG firstP firstP (mineL window) = (⟨128, 6, window, 64, 600⟩, 0, 0) := by
    have hw : window ≤ 2147483647 := by omega
    simp [mineL, applyG_cons, applyG_nil, refE, withP, firstP, hw]
  have := apply_ok c firstP (prow_lies (S := nobody) h fun _ _ => id) (by simp [mineL])
  rw [e] at this
  exact this
set_option maxRecDepth 100000 in
set_option maxHeartbeats 2000000 in
theorem mine_walk (window : Int) (w : World) : Calls Try.prog 8 #[.int .i64 window] w (Fine w) := by
  have HL := hid alive_ok
  have HF := hid first_lit
  have HM := hid (mine_ok window)
  by_cases h : 1 ≤ window ∧ window ≤ 65535
  · rw [if_pos h, decide_eq_true h] at HM
    have HG := hid (pget_mine window h)
    obtain ⟨h1, h2⟩ := h
    generalize putP (mineL window) = P at *
    go_enter Try.func8, Try.ntmps8
    go_wp2_with fail
    refine Calls.mono (HM.out _) ?_
    rintro e w1 ⟨rfl, k1⟩
    go_wp2_with fail
    refine Calls.mono (HL.out _) ?_
    rintro e w2 ⟨rfl, k2⟩
    go_wp2_with fail
    refine Calls.mono (HG.out _) ?_
    rintro e w3 ⟨g, c, rfl, o3, k3⟩
    go_wp2_with fail
    refine Calls.mono (HF.out _) ?_
    rintro e w4 ⟨rfl, k4⟩
    have o4 : Own w2.heap.size w4 (some ⟨g, 0, none⟩) c (mineL window) := k4.row o3 fun _ _ => id
    have HA := hid (apply_mine o4 h2)
    go_wp2_with fail
    refine Calls.mono HA.out ?_
    rintro e w5 ⟨rfl, k5⟩
    have o5 : Own w2.heap.size w5 (some ⟨g, 0, none⟩) c (mineL window) := k5.row o4 fun _ _ => id
    have hlt := (o5.lt g rfl).2
    obtain ⟨c0, c1⟩ := prow_cells (n := 3) (cap := c) o5 0 (by simp [mineL])
    obtain ⟨c2, c3⟩ := prow_cells (n := 3) (cap := c) o5 1 (by simp [mineL])
    obtain ⟨c4, c5⟩ := prow_cells (n := 3) (cap := c) o5 2 (by simp [mineL])
    simp only [mineL, List.getElem_cons_succ, List.getElem_cons_zero] at c0 c1 c2 c3 c4 c5
    simp only [Nat.zero_mul, Nat.one_mul, Nat.zero_add] at c0 c1 c2 c3 c4 c5
    simp only [Nat.reduceMul, Nat.reduceAdd] at c0 c1 c2 c3 c4 c5
    have HK := hid (((((k1.then k2).then k3).then k4).then k5).alloc (.cells #[.int .i64 128, .int .i64 6, .int .i64 window, .int .i64 64, .int .i64 600] 44))
    clear k1 k2 k3 k4 k5 o3 o4 o5 HA HG HM
    go_wp2
    go_ret
    exact ⟨rfl, below_of_keeps HK.out⟩
  · rw [if_neg h, decide_eq_false h] at HM
    by_cases h1 : 1 ≤ window
    · have h2 : ¬ window ≤ 65535 := fun e => h ⟨h1, e⟩
      clear h
      go_enter Try.func8, Try.ntmps8
      go_wp2_with fail
      refine Calls.mono (HM.out _) ?_
      rintro e w1 ⟨rfl, k1⟩
      go_wp2_with fail
      refine Calls.mono (HL.out _) ?_
      rintro e w2 ⟨rfl, k2⟩
      go_wp2
      go_ret
      exact ⟨rfl, below_of_keeps (k1.then k2)⟩
    · clear h
      go_enter Try.func8, Try.ntmps8
      go_wp2_with fail
      refine Calls.mono (HM.out _) ?_
      rintro e w1 ⟨rfl, k1⟩
      go_wp2_with fail
      refine Calls.mono (HL.out _) ?_
      rintro e w2 ⟨rfl, k2⟩
      go_wp2
      go_ret
      exact ⟨rfl, below_of_keeps (k1.then k2)⟩
end Go.Proofs.Ytkjdklcmaomjnaa
