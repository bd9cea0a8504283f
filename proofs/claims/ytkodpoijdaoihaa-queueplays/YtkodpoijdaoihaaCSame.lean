/-
  bywashbook.SameInts of two lists that are alike.
-/
import Derived.Test.YtkodpoijdaoihaaCName
namespace Go.Proofs.Ytkodpoijdaoihaa
open Go.RowKit

set_option maxRecDepth 100000 in
set_option maxHeartbeats 2000000 in
theorem same_ok {w : World} {b1 b2 : Nat} {v1 v2 : Value} {l : List Int} (h1 : w.ownsRow b1 3 1 v1 l.length (icells l)) (h2 : w.ownsRow b2 3 1 v2 l.length (icells l)) (hl : l.length ≤ 1000000) : Calls Try.prog 16 #[v1, v2] w fun e w' => e = .returned (.bool true) ∧ Keeps nobody w w' := by
  by_cases h0 : l.length = 0
  · obtain rfl : l = [] := List.eq_nil_of_length_eq_zero h0
    obtain ⟨a1, c1, rfl⟩ : ∃ a c, v1 = .slice a 0 c := by
      rcases h1.2 with ⟨rfl, _⟩ | ⟨rb, cap, cur, rfl, _⟩ <;> exact ⟨_, _, rfl⟩
    obtain ⟨a2, c2, rfl⟩ : ∃ a c, v2 = .slice a 0 c := by
      rcases h2.2 with ⟨rfl, _⟩ | ⟨rb, cap, cur, rfl, _⟩ <;> exact ⟨_, _, rfl⟩
    clear h1 h2
    go_enter Try.func16, Try.ntmps16
    go_wp2
    go_loopg [5] 0 (fun k i wr => i = .int .i64 0 ∧ wr = w)
    case atStart => exact ⟨rfl, rfl⟩
    case round =>
      obtain ⟨rfl, rfl⟩ := hrel
      go_wp2
      go_ret
      exact ⟨rfl, Keeps.refl _ _⟩
  · rcases h1.2 with ⟨_, hn⟩ | ⟨r1, c1, cur1, rfl, _, _, hnc1, hcm1, _⟩
    · exact absurd hn h0
    rcases h2.2 with ⟨_, hn⟩ | ⟨r2, c2, cur2, rfl, _, _, hnc2, hcm2, _⟩
    · exact absurd hn h0
    have hr1 := (h1.lt r1 rfl).2
    have hr2 := (h2.lt r2 rfl).2
    have H1 := hid h1
    have H2 := hid h2
    unfold maxLen at hcm1 hcm2
    clear h1 h2
    go_enter Try.func16, Try.ntmps16
    go_wp2
    go_loopg [5] l.length (fun k i wr => ∃ j : Nat, i = .int .i64 j ∧ k + j = l.length ∧ Keeps nobody w wr)
    case atStart => exact ⟨0, rfl, rfl, Keeps.refl _ _⟩
    case round =>
      obtain ⟨j, rfl, hk, hK⟩ := hrel
      by_cases hj : j < l.length
      · have d0 := irow_cell H1.out j hj
        have e0 := irow_cell H2.out j hj
        rw [← hK.cell (p := ⟨r1, j, none⟩) hr1 id] at d0
        rw [← hK.cell (p := ⟨r2, j, none⟩) hr2 id] at e0
        generalize l[j]'hj = x at *
        have HK := hid hk
        clear hk
        go_wp2
        go_region
        go_wp2
        have hk := HK.out
        go_roundg (gk - 1)
        case measure => omega
        case rel => exact ⟨j + 1, by simp, by omega, hK.drew⟩
      · clear H1 H2
        go_wp2
        go_ret
        exact ⟨rfl, hK⟩
end Go.Proofs.Ytkodpoijdaoihaa
