/-
  bywashbook.SameInts of two lists that are alike.
-/
import Derived.Test.YtendndokgpppiaaGInts
import Derived.RegionTactic
namespace Go.Proofs.Ytendndokgpppiaa
open Go.RowKit

theorem nums_at {w : World} {a : Option Addr} {l : List Int} (h : numR.Lies w a l nobody) (j : Nat) (hj : j < l.length) : ∃ b off, a = some ⟨b, off, none⟩ ∧ b < w.heap.size ∧ w.cell? ⟨b, off + j, none⟩ = some (.int .i64 (l[j]'hj)) := by
  rcases h with rfl | ⟨b, off, e, hb, _, hc⟩
  · simp at hj
  · have := hc j _ (List.getElem?_eq_getElem hj) 0 _ rfl
    have e2 : j * numR.width + 0 = j := by show j * 1 + 0 = j; omega
    rw [e2] at this
    exact ⟨b, off, e, hb, this⟩
set_option maxRecDepth 100000 in
set_option maxHeartbeats 2000000 in
theorem same_nums {w : World} {a1 a2 : Option Addr} {l : List Int} (c1 c2 : Nat) (h1 : numR.Lies w a1 l nobody) (h2 : numR.Lies w a2 l nobody) (hl : l.length ≤ 1000000) : Calls Try.prog 13 #[.slice a1 l.length c1, .slice a2 l.length c2] w fun e w' => e = .returned (.bool true) ∧ Keeps nobody w w' := by
  have H1 := hid h1
  have H2 := hid h2
  clear h1 h2
  go_enter Try.func13, Try.ntmps13
  go_wp2
  go_loopg [5] l.length (fun k i wr => ∃ j : Nat, i = .int .i64 j ∧ k + j = l.length ∧ Keeps nobody w wr)
  case atStart => exact ⟨0, rfl, rfl, Keeps.refl _ _⟩
  case round =>
    obtain ⟨j, rfl, hk, hK⟩ := hrel
    by_cases hj : j < l.length
    · obtain ⟨b1, o1, rfl, hb1, d0⟩ := nums_at H1.out j hj
      obtain ⟨b2, o2, rfl, hb2, e0⟩ := nums_at H2.out j hj
      rw [← hK.cell (p := ⟨b1, o1 + j, none⟩) hb1 id] at d0
      rw [← hK.cell (p := ⟨b2, o2 + j, none⟩) hb2 id] at e0
      generalize l[j]'hj = x at *
      have HK := hid hk
      clear hk
      go_wp2
      go_region
      go_wp2
      have hk := HK.out
      go_roundg (gk - 1)
      case measure => omega
      case rel => exact ⟨j + 1, by simp, by omega, hK.drew⟩
    · clear H1 H2
      go_wp2
      go_ret
      exact ⟨rfl, hK⟩
theorem numT_lies {W w : World} {ts : List Thing} {x : Option Addr} {n c : Nat} {l : List Int} (H : Hold W w ts) (hm : numT x n c l ∈ ts) : numR.Lies w x l nobody ∧ n = l.length := by
  have ho : numR.Own 3 0 w (.slice x n c) l := H.inv (numT x n c l) hm
  exact ⟨Recs.own_lies ho fun _ _ => id, own_len ho⟩
end Go.Proofs.Ytendndokgpppiaa
