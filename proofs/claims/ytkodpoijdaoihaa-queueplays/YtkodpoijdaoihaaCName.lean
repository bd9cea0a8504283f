/-
  bywashbook: markInts, copyInts.
-/
import Derived.Test.YtkodpoijdaoihaaNMem
import Derived.Test.YtkodpoijdaoihaaGApp
namespace Go.Proofs.Ytkodpoijdaoihaa
open Go.RowKit

theorem icells_append (l m : List Int) : icells (l ++ m) = icells l ++ icells m := List.map_append
theorem icells_length (l : List Int) : (icells l).length = l.length := List.length_map _
theorem icells_take (l : List Int) (k : Nat) : (icells l).take k = icells (l.take k) := (List.map_take).symm
theorem icells_at (l : List Int) (i : Nat) (x : Int) (h : l[i]? = some x) : (icells l)[i]? = some (.int .i64 x) := by rw [List.getElem?_map, h]; rfl
theorem icells_set (l : List Int) (k : Nat) (a : Int) : icells (l.set k a) = (icells l).set k (.int .i64 a) := List.map_set
theorem irow_cell {w : World} {base n cap rb : Nat} {l : List Int} (h : w.ownsRow base 3 1 (.slice (some ⟨rb, 0, none⟩) n cap) l.length (icells l)) (i : Nat) (hi : i < l.length) : w.cell? ⟨rb, i, none⟩ = some (.int .i64 (l[i]'hi)) := by
  have h0 := h.cells (g := rb) rfl i _ (icells_at l i _ (List.getElem?_eq_getElem hi))
  rw [Addr.add_mid] at h0
  simpa only [Nat.zero_add] using h0
/-- A mark's id: list number i, place k. -/
def nameS (i k : Nat) : Int := -1000000 * (i : Int) - (k : Int) - 7
/-- Marks: list number i, from place a on, n of them. -/
def marks (i a n : Nat) : List Int := (List.range n).map fun t => nameS i (a + t)
theorem marks_length (i a n : Nat) : (marks i a n).length = n := by simp [marks]
theorem marks_succ (i a n : Nat) : marks i a (n + 1) = marks i a n ++ [nameS i (a + n)] := by simp [marks, List.range_succ]
theorem marks_append (i a n m : Nat) : marks i a n ++ marks i (a + n) m = marks i a (n + m) := by
  induction m with
  | zero => simp [marks]
  | succ m ih => rw [marks_succ, ← List.append_assoc, ih, ← Nat.add_assoc, marks_succ, Nat.add_assoc]
theorem marks_at (i a n t : Nat) (h : t < n) : (marks i a n)[t]? = some (nameS i (a + t)) := by simp [marks, h]

set_option maxRecDepth 100000 in
set_option maxHeartbeats 1000000 in
theorem mark_ok (i a n : Nat) (w : World) (hi : i ≤ 1000) (ha : a ≤ 1000) (hn : n ≤ 1000) : Calls Try.prog 50 #[.int .i64 (i : Int), .int .i64 (a : Int), .int .i64 (n : Int)] w fun e w' => ∃ v, e = .returned v ∧ w'.ownsRow w.heap.size 3 1 v n (icells (marks i a n)) ∧ Keeps nobody w w' := by
  obtain ⟨i5, hi5, hz0, hz1, hz2⟩ := info_parts infoN
  go_enter Try.func50, Try.ntmps50
  go_wp2
  go_loopg [7, 8] n (fun k ov iv wr => ∃ j : Nat, iv = .int .i64 ((a + j : Nat) : Int) ∧ k + j = n ∧ Hid (wr.ownsRow w.heap.size 3 1 ov j (icells (marks i a j)) ∧ Keeps nobody w wr))
  case atStart => exact ⟨0, rfl, rfl, World.ownsRow_nil _ _ _ _, Keeps.refl _ _⟩
  case round =>
    obtain ⟨j, rfl, hk, G⟩ := hrel
    by_cases hj : j < n
    · have hlt : ((a + j : Nat) : Int) < (a : Int) + (n : Int) := by omega
      have HK := hid hk
      have hqq : a + j ≤ 2000 := by omega
      clear hk
      generalize hq : a + j = q at *
      have HQ := hid hq
      clear hq
      have R1 := G.out.1.alloc (.cells #[.int .i64 (-1000000 * (i : Int) - (q : Int) - 7)] 3)
      have K1 := G.out.2
      have hge : ∀ k, u7.ownBlock = some k → w.heap.size ≤ k := fun k hk => (G.out.1.lt k hk).1
      have hsz := K1.size
      have HM := hid (marks_succ i a j)
      rw [HQ.out] at HM
      clear G
      go_wp2_with (at_builtin; refine wpList_append_own _ rfl _ _ 32 rfl w.heap.size 3 i5 (.int .i64 0) 1 8 Try.underlying32 hi5 hz0 hz1 hz2 rfl (by decide) _ _ _ rfl R1 ⟨wr.heap.size, 0, none⟩ 1 1 [.int .i64 (-1000000 * (i : Int) - (q : Int) - 7)] rfl rfl ?c1 ?c2 ?c3 ?c4 ?c5 ?_)
      case c1 =>
        intro t u ht
        rw [Addr.add_mid]
        match t, ht with
        | 0, ht => simp at ht; subst ht; simp
      case c2 => intro u hu; simp at hu; subst hu; rfl
      case c3 => unfold maxLen; omega
      case c4 => omega
      case c5 => simp; omega
      intro v2 w2 hown2 hgrow _
      have H2 : Hid (w2.ownsRow w.heap.size 3 1 v2 (j + 1) (icells (marks i a (j + 1))) ∧ Keeps nobody w w2) := by
        refine ⟨?_, (K1.alloc _).grown hgrow (fun k hk => .inr (hge k hk))⟩
        rw [HM.out, icells_append]
        exact hown2
      clear hown2 hgrow R1 K1 hge HM
      go_wp2
      have hk := HK.out
      have hq := HQ.out
      go_roundg (gk - 1)
      case measure => omega
      case rel => exact ⟨j + 1, by simp; omega, by omega, H2⟩
    · obtain rfl : j = n := by omega
      clear hk
      go_wp2
      go_ret
      exact ⟨_, rfl, G.out⟩

set_option maxRecDepth 100000 in
theorem copy_ok {w : World} {base : Nat} {v : Value} {l : List Int} (h : w.ownsRow base 3 1 v l.length (icells l)) (hl : l.length ≤ 1000) : Calls Try.prog 23 #[v] w fun e w' => ∃ v', e = .returned v' ∧ w'.ownsRow w.heap.size 3 1 v' l.length (icells l) ∧ Keeps nobody w w' := by
  obtain ⟨i5, hi5, hz0, hz1, hz2⟩ := info_parts infoN
  obtain ⟨v', w', h1, h2, h3, _⟩ := run_append_rows (P := Try.prog) 32 32 3 i5 _ 1 8 Try.underlying32 hi5 hz0 hz1 hz2 rfl (by decide) (World.ownsRow_nil w w.heap.size 3 1) h (icells_one l) (by unfold maxLen; omega) (by omega) (Nat.le_refl _)
  have HR : Hid (w'.ownsRow w.heap.size 3 1 v' l.length (icells l) ∧ Keeps nobody w w') := ⟨by simpa using h2, keeps_of_grown h3⟩
  have H1 := hid h1
  clear h h1 h2 h3
  go_enter Try.func23, Try.ntmps23
  go_wp2_with (at_builtin; refine wpList_append_run rfl _ _ 32 32 rfl _ _ rfl rfl H1.out ?_)
  go_ret
  exact ⟨v', rfl, HR.out⟩
end Go.Proofs.Ytkodpoijdaoihaa
