/-
  The reference's PrefsGet: the same settings.
-/
import Derived.Test.YtkjdklcmaomjnaaZRefA
import Derived.Test.YtkjdklcmaomjnaaZGet
namespace Go.Proofs.Ytkjdklcmaomjnaa
open Go.RowKit
attribute [local irreducible] numL nums str pAt getK cutB getP

theorem rget_no (b : ByteArray) (w : World) (hs : b.size ≤ 10000000) (h6 : ¬ b.size % 6 = 0) : Calls Try.prog 14 #[.string b] w (GetPost w b) := by
  have e : getP b = [] := by unfold getP; rw [if_neg h6]
  unfold GetPost
  rw [e, decide_eq_false h6]
  clear e
  have h6' : ¬ (b.size : Int) % 6 = 0 := by omega
  clear h6
  go_enter Try.func14, Try.ntmps14
  go_wp2
  go_ret2
  exact ⟨none, 0, 0, rfl, World.ownsRow_nil _ _ _ _, Keeps.refl _ _⟩
set_option maxRecDepth 100000 in
set_option maxHeartbeats 4000000 in
theorem rget_yes (b : ByteArray) (w : World) (hs : b.size ≤ 10000000) (h6 : b.size % 6 = 0) : Calls Try.prog 14 #[.string b] w (GetPost w b) := by
  have e : getP b = getK b (b.size / 6) := by unfold getP; rw [if_pos h6]
  have HN : Hid (∀ s w, s.size ≤ 4 → Calls Try.prog 30 #[.string s] w fun e w' => e = .returned (.int .i64 (numL (nums s) : Int)) ∧ w = w') := fun s w h => of_ok s w h
  unfold GetPost
  rw [e, decide_eq_true h6]
  have hE : 6 * (b.size / 6) = b.size := by omega
  generalize b.size / 6 = m at *
  have HG := hid hE
  have h6' : (b.size : Int) % 6 = 0 := by omega
  clear h6 e hE
  go_enter Try.func14, Try.ntmps14
  go_wp2
  clear h6'
  go_loopg [4, 5] m (fun k v i wr => ∃ (j q : Nat) (x : Option Addr) (n c : Nat), i = .int .i64 (q : Int) ∧ v = .slice x n c ∧ k + j = m ∧ q = 6 * j ∧ Hid (wr.ownsRow w.heap.size 48 2 (.slice x n c) (getK b j).length (pcells (getK b j)) ∧ Keeps nobody w wr))
  case atStart => exact ⟨0, 0, none, 0, 0, rfl, rfl, rfl, rfl, hid ⟨by rw [getK_zero]; exact World.ownsRow_nil _ _ _ _, Keeps.refl _ _⟩⟩
  case round =>
    obtain ⟨j, q, x, n, c, rfl, rfl, hk, hq, HI⟩ := hrel
    have hm := HG.out
    by_cases hj : j < m
    · have s1 : ∀ w, (Instr.slice 9 (.string b) (some (.int .i64 (q : Int))) (some (.int .i64 ((q : Int) + 2))) none).run Try.prog w = .ok (.string (b.extract q (q + 2))) w := slice_both b q (q + 2) (by omega) (by omega)
      have s2 : ∀ w, (Instr.slice 9 (.string b) (some (.int .i64 ((q : Int) + 2))) (some (.int .i64 ((q : Int) + 6))) none).run Try.prog w = .ok (.string (b.extract (q + 2) (q + 6))) w := slice_both b (q + 2) (q + 6) (by omega) (by omega)
      have z1 : (b.extract q (q + 2)).size ≤ 4 := by rw [extract_size _ _ _ (by omega)]; omega
      have z2 : (b.extract (q + 2) (q + 6)).size ≤ 4 := by rw [extract_size _ _ _ (by omega)]; omega
      have H1 := hid fun w => HN.out _ w z1
      have H2 := hid fun w => HN.out _ w z2
      have HP : Hid (getK b (j + 1) = getK b j ++ [((numL (nums (b.extract q (q + 2))) : Int), (numL (nums (b.extract (q + 2) (q + 6))) : Int))]) := by
        have := getK_succ b j
        unfold pAt at this
        rw [hq]
        exact this
      have hlt : (q : Int) < (b.size : Int) := by omega
      have hq2 : q ≤ 10000000 := by omega
      have hw2 : IntKind.i64.wrap ((q : Int) + 2) = (q : Int) + 2 := by simp [IntKind.wrap, IntKind.bits, IntKind.signed]; omega
      have hw6 : IntKind.i64.wrap ((q : Int) + 6) = (q : Int) + 6 := by simp [IntKind.wrap, IntKind.bits, IntKind.signed]; omega
      clear z1 z2
      generalize b.extract q (q + 2) = X1 at *
      generalize b.extract (q + 2) (q + 6) = X2 at *
      generalize (numL (nums X1) : Int) = N1 at *
      generalize (numL (nums X2) : Int) = N2 at *
      have hlen : (getK b j).length ≤ 10000000 := by rw [getK_length]; omega
      obtain ⟨x2, n2, c2, w2, a1, a2, a3⟩ := app_pref (W := wr.drew) HI.out.1 HI.out.2.drew hlen N1 N2
      rw [← HP.out] at a2
      rw [show wr.drew.heap.size = wr.heap.size from rfl] at a1
      have RA := hid a1
      have RB := hid (And.intro a2 a3)
      have HK := hid (And.intro hk hq)
      clear a1 a2 a3 hk hq HN HP HI hm hlen
      go_wp2_with fail
      go_region_law (first | (go_simp; go_at_call_of 30 X1; refine Calls.mono (H1.out _) ?_; rintro e wd ⟨rfl, rfl⟩) | (go_simp; go_at_call_of 30 X2; refine Calls.mono (H2.out _) ?_; rintro e wd ⟨rfl, rfl⟩) | (refine step_append_run rfl (.tmp 16) (.tmp 31) 22 22 rfl (.slice x n c) (.slice (some ⟨wr.heap.size, 0, none⟩) 1 1) (by simp [Act.eval]) (by simp [Act.eval]) RA.out ?_))
      all_goals
        go_wp2
        obtain ⟨hk, hq⟩ := HK.out
        go_roundg (gk - 1)
        case measure => omega
        case rel => exact ⟨j + 1, q + 6, x2, n2, c2, by simp, rfl, by omega, by omega, hid RB.out⟩
    · have hjm : j = m := by omega
      subst hjm
      have hlt : ¬ (q : Int) < (b.size : Int) := by omega
      clear hm hq
      go_wp2
      go_ret2
      exact ⟨x, n, c, rfl, HI.out⟩
theorem rget_ok (b : ByteArray) (w : World) (hs : b.size ≤ 10000000) : Calls Try.prog 14 #[.string b] w fun e w' => ∃ x c, e = .returned (.tuple #[.slice x (getP b).length c, .bool (decide (b.size % 6 = 0))]) ∧ Own w.heap.size w' x c (getP b) ∧ Keeps nobody w w' := by
  have h : Calls Try.prog 14 #[.string b] w (GetPost w b) := by
    by_cases h : b.size % 6 = 0
    · exact rget_yes b w hs h
    · exact rget_no b w hs h
  refine h.mono ?_
  rintro e w' ⟨x, n, c, rfl, h1, h2⟩
  obtain rfl := row_len h1
  exact ⟨x, c, rfl, h1, h2⟩
end Go.Proofs.Ytkjdklcmaomjnaa
