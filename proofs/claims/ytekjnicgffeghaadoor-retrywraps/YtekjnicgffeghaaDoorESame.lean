/-
  The book's SameTexts at two rows of the same texts.
-/
import Derived.Test.YtekjnicgffeghaaDoorEPath
namespace Go.Proofs.YtekjnicgffeghaaDoor
open Go.RowKit Go.Extern.Stop Go.Stop Go.Extern

theorem ownsRow_cell {w : World} {base : Nat} {v : Value} {n : Nat} {l : List ByteArray} (h : w.ownsRow base 9 1 v n (strs l)) (h0 : 0 < n) :
    ∃ g cap, v = .slice (some ⟨g, 0, none⟩) n cap ∧ base ≤ g ∧ g < w.heap.size ∧ n ≤ cap ∧ cap ≤ maxLen ∧ l.length = n ∧ ∀ i, i < n → w.cell? ⟨g, i, none⟩ = some (.string (l.getD i ByteArray.empty)) := by
  have hl : (strs l).length = n * 1 := h.1
  rcases h.2 with ⟨_, hn⟩ | ⟨g, cap, cur, rfl, hb, hg, hcap, hm, hsz, htk⟩
  · omega
  have hln : l.length = n := by simpa [strs] using hl
  refine ⟨g, cap, rfl, hb, lt_of_heap hg, hcap, hm, hln, ?_⟩
  intro i hi
  have h1 : (strs l)[i]? = some (.string (l.getD i ByteArray.empty)) := by
    simp [strs, List.getD_eq_getElem?_getD, List.getElem?_eq_getElem (show i < l.length by omega)]
  rw [← htk, List.getElem?_take] at h1
  simp only [Nat.mul_one, hi, if_true] at h1
  simp only [World.cell?, hg]
  simpa using h1
theorem ownsRow_shape {w : World} {base : Nat} {e : TypeId} {v : Value} {n : Nat} {xs : List Value} (h : w.ownsRow base e 1 v n xs) : ∃ a c, v = .slice a n c := by
  rcases h.2 with ⟨rfl, rfl⟩ | ⟨g, cap, cur, rfl, _⟩
  · exact ⟨_, _, rfl⟩
  · exact ⟨_, _, rfl⟩
set_option maxRecDepth 100000 in
set_option maxHeartbeats 1000000 in
theorem same_none (a1 a2 : Option Addr) (c1 c2 : Nat) (w : World) :
    Calls Tryd.prog 19 #[.slice a1 0 c1, .slice a2 0 c2] w fun e w' => e = .returned (.bool true) ∧ Keeps nobody w w' := by
  go_enter Tryd.func19, Tryd.ntmps19
  go_wp2_with fail
  refine wp_loop_rounds 1 ?_
  rw [rounds_succ]
  go_wp2
  go_ret
  exact ⟨rfl, Keeps.refl _ _⟩
set_option maxRecDepth 100000 in
set_option maxHeartbeats 2000000 in
theorem same_some (g1 g2 n c1 c2 : Nat) (f : Nat → ByteArray) (w : World) (hn : n ≤ maxLen) (b1 : g1 < w.heap.size) (b2 : g2 < w.heap.size)
    (h1 : ∀ i, i < n → w.cell? ⟨g1, i, none⟩ = some (.string (f i))) (h2 : ∀ i, i < n → w.cell? ⟨g2, i, none⟩ = some (.string (f i))) :
    Calls Tryd.prog 19 #[.slice (some ⟨g1, 0, none⟩) n c1, .slice (some ⟨g2, 0, none⟩) n c2] w fun e w' => e = .returned (.bool true) ∧ Keeps nobody w w' := by
  unfold maxLen at hn
  go_enter Tryd.func19, Tryd.ntmps19
  go_wp2_with fail
  go_loopg [5] n (fun k i wr => ∃ j : Nat, k = n - j ∧ j ≤ n ∧ i = .int .i64 j ∧ Keeps nobody w wr)
  case atStart => exact ⟨0, by omega, by omega, rfl, Keeps.refl _ _⟩
  case round =>
    obtain ⟨j, hk, hj, rfl, hB⟩ := hrel
    have HK : Hid (gk = n - j) := hk
    clear hk
    by_cases hlt : j < n
    · have e1 : wr.cell? ⟨g1, j, none⟩ = some (.string (f j)) := (hB.cell (p := ⟨g1, j, none⟩) b1 id).trans (h1 j hlt)
      have e2 : wr.cell? ⟨g2, j, none⟩ = some (.string (f j)) := (hB.cell (p := ⟨g2, j, none⟩) b2 id).trans (h2 j hlt)
      have hlti : (j : Int) < (n : Int) := by omega
      clear h1 h2
      go_wp2_with fail
      go_quiet (fail)
      go_wp2_with fail
      go_roundg (n - (j + 1))
      case measure => rw [HK.out]; omega
      case rel => exact ⟨j + 1, rfl, by omega, by go_num, hB.drewN nq⟩
    · go_wp2_with fail
      go_ret
      exact ⟨rfl, hB⟩
theorem same_rows {base base' : Nat} (v1 v2 : Value) (l : List ByteArray) (w : World) (h1 : w.ownsRow base 9 1 v1 l.length (strs l)) (h2 : w.ownsRow base' 9 1 v2 l.length (strs l)) :
    Calls Tryd.prog 19 #[v1, v2] w fun e w' => e = .returned (.bool true) ∧ Keeps nobody w w' := by
  by_cases h0 : 0 < l.length
  · obtain ⟨g1, c1, rfl, _, b1, hc1, hm1, _, k1⟩ := ownsRow_cell h1 h0
    obtain ⟨g2, c2, rfl, _, b2, _, _, _, k2⟩ := ownsRow_cell h2 h0
    exact same_some g1 g2 l.length c1 c2 (fun i => l.getD i ByteArray.empty) w (by omega) b1 b2 k1 k2
  · have e : l.length = 0 := by omega
    rw [e] at h1 h2
    obtain ⟨a1, c1, rfl⟩ := ownsRow_shape h1
    obtain ⟨a2, c2, rfl⟩ := ownsRow_shape h2
    exact same_none a1 a2 c1 c2 w

end Go.Proofs.YtekjnicgffeghaaDoor
