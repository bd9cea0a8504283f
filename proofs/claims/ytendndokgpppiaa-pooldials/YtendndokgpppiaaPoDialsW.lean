/-
  The law PoolDials, walked.
-/
import Derived.Test.YtendndokgpppiaaPoAlive
import Derived.Test.YtendndokgpppiaaGBools
namespace Go.Proofs.Ytendndokgpppiaa
open Go.RowKit
attribute [local irreducible] cnT cnW poTs

set_option maxRecDepth 100000 in
set_option maxHeartbeats 4000000 in
theorem dials_walk (a : Option Addr) (cap : Nat) (l : List Bool) (w : World) (hI : Bools w a l) : Calls Try.prog 4 #[.slice a l.length cap] w (Fine w) := by
  have HL := hid alive_ok
  have hlen := hI.2
  by_cases hc : l.length ≤ 20
  · have HN : Hid (∀ w, Calls Try.prog 7 #[.agg #[.int .i64 100, .int .i64 1, .int .i64 5, .int .i64 5], .int .i64 3] w fun e w' => ∃ g, e = .returned (.pointer (some ⟨g, 0, none⟩)) ∧ Hid (Hold w w' (poTs ⟨g, 5, 5, 3, 0, false, none, 0, 0, []⟩ []))) := pnew_ok 5 5 3 (by decide) (by decide) (by decide)
    have H1 : Hid (∀ W0 W g k x n c L b, (L.length = k ∧ k ≤ 20) → Hold W0 W (poTs ⟨g, 5, 5, 3, k, false, x, n, c, L⟩ []) → Calls Try.prog 9 #[.pointer (some ⟨g, 0, none⟩), .bool b] W fun e w' => e = .returned (.tuple #[.int .i64 0, .bool false]) ∧ W = w') := fun W0 W g k x n c L b hk H => dialed_none H (fit_5 (by decide) (by decide) (by omega) (by omega)) rfl b
    have H2 : Hid (∀ W0 W g k x n c L, (L.length = k ∧ k ≤ 20) → Hold W0 W (poTs ⟨g, 5, 5, 3, k, false, x, n, c, L⟩ []) → Calls Try.prog 8 #[.pointer (some ⟨g, 0, none⟩)] W fun e w' => e = .returned (.bool true) ∧ Hid (Hold W0 w' (poTs ⟨g, 5, 5, 3, k, true, x, n, c, L⟩ []))) := fun W0 W g k x n c L hk H => dial_ok H (fit_5 (by decide) (by decide) (by omega) (by omega))
    have H3 : Hid (∀ W0 W g k x n c L, (L.length = k ∧ k ≤ 20) → Hold W0 W (poTs ⟨g, 5, 5, 3, k, true, x, n, c, L⟩ []) → Calls Try.prog 8 #[.pointer (some ⟨g, 0, none⟩)] W fun e w' => e = .returned (.bool false) ∧ Hid (Hold W0 w' (poTs ⟨g, 5, 5, 3, k, true, x, n, c, L⟩ []))) := fun W0 W g k x n c L hk H => dial_ok H (fit_5 (by decide) (by decide) (by omega) (by omega))
    have H4 : Hid (∀ W0 W g k x n c L, (L.length = k ∧ k ≤ 20) → Hold W0 W (poTs ⟨g, 5, 5, 3, k, true, x, n, c, L⟩ []) → Calls Try.prog 16 #[.pointer (some ⟨g, 0, none⟩)] W fun e w' => e = .returned (.int .i64 1) ∧ W = w') := fun W0 W g k x n c L hk H => dialing_ok H (fit_5 (by decide) (by decide) (by omega) (by omega))
    have H5 : Hid (∀ W0 W g k x n c L, (L.length = k ∧ k ≤ 20) → Hold W0 W (poTs ⟨g, 5, 5, 3, k, true, x, n, c, L⟩ []) → Calls Try.prog 9 #[.pointer (some ⟨g, 0, none⟩), .bool true] W fun e w' => e = .returned (.tuple #[.int .i64 ((k : Int) + 1), .bool true]) ∧ ∃ x n c L2, Hid (L2.length = k + 1 ∧ Hold W0 w' (poTs ⟨g, 5, 5, 3, k + 1, false, x, n, c, L2⟩ []))) := fun W0 W g k x n c L hk H => by
      refine (dialed_yes H (fit_5 (by decide) (by decide) (by omega) (by omega)) rfl).mono ?_
      rintro e w' ⟨he, x2, n2, c2, s, _, hh⟩
      exact ⟨he, x2, n2, c2, L ++ [(k + 1, s)], by simp [hk.1], hh.out⟩
    have H6 : Hid (∀ W0 W g k x n c L, (L.length = k ∧ k ≤ 20) → Hold W0 W (poTs ⟨g, 5, 5, 3, k, true, x, n, c, L⟩ []) → Calls Try.prog 9 #[.pointer (some ⟨g, 0, none⟩), .bool false] W fun e w' => e = .returned (.tuple #[.int .i64 0, .bool true]) ∧ Hid (Hold W0 w' (poTs ⟨g, 5, 5, 3, k, false, x, n, c, L⟩ []))) := fun W0 W g k x n c L hk H => dialed_no H (fit_5 (by decide) (by decide) (by omega) (by omega)) rfl
    have H7 : Hid (∀ W0 W g k x n c L, (L.length = k ∧ k ≤ 21) → Hold W0 W (poTs ⟨g, 5, 5, 3, k, false, x, n, c, L⟩ []) → Calls Try.prog 16 #[.pointer (some ⟨g, 0, none⟩)] W fun e w' => e = .returned (.int .i64 0) ∧ W = w') := fun W0 W g k x n c L hk H => dialing_ok H (fit_5 (by decide) (by decide) (by omega) (by omega))
    have H8 : Hid (∀ W0 W g k x n c L, (L.length = k ∧ k ≤ 21) → Hold W0 W (poTs ⟨g, 5, 5, 3, k, false, x, n, c, L⟩ []) → Calls Try.prog 15 #[.pointer (some ⟨g, 0, none⟩)] W fun e w' => ∃ x1 c1, e = .returned (.slice x1 k c1) ∧ Hid (Hold W0 w' (poTs ⟨g, 5, 5, 3, k, false, x, n, c, L⟩ []))) := fun W0 W g k x n c L hk H => by
      refine (all_ok H (fit_5 (by decide) (by decide) (by omega) (by omega))).mono ?_
      rintro e w' ⟨x1, c1, he, hh⟩
      exact ⟨x1, c1, by rw [he, ← hk.1], hh.out.tail⟩
    have HI := hid hI
    clear hI hlen
    go_enter Try.func4, Try.ntmps4
    go_wp2_with fail
    refine Calls.mono (HL.out _) ?_
    rintro e w1 ⟨rfl, k1⟩
    have K1 := hid k1
    clear k1
    go_wp2_with fail
    refine Calls.mono (HN.out _) ?_
    rintro e w2 ⟨g, rfl, HP⟩
    have HP2 : Hid (∃ W0, Keeps nobody w W0 ∧ Hold W0 w2 (poTs ⟨g, 5, 5, 3, 0, false, none, 0, 0, []⟩ [])) := ⟨_, K1.out, HP.out⟩
    clear HN HL HP K1
    go_wp2
    go_loopg [4, 25] l.length (fun k v i wr => ∃ (j m : Nat) (x : Option Addr) (n c : Nat) (L : List (Nat × Cn)), v = .int .i64 (m : Int) ∧ i = .int .i64 (j : Int) ∧ k + j = l.length ∧ m ≤ j ∧ Hid (L.length = m ∧ ∃ W0, Keeps nobody w W0 ∧ Hold W0 wr (poTs ⟨g, 5, 5, 3, m, false, x, n, c, L⟩ [])))
    case atStart => exact ⟨0, 0, none, 0, 0, [], rfl, rfl, rfl, Nat.le_refl _, rfl, HP2.out⟩
    case round =>
      obtain ⟨j, m, x, n, c, L, rfl, rfl, hk, hmj, HJ⟩ := hrel
      clear HP2
      obtain ⟨hLm, W0, kW, HX⟩ := HJ.out
      by_cases hj : j < l.length
      · obtain ⟨r1, f1, rfl, hr1, d0⟩ := HI.out.at (kW.then (keeps_of_below HX.below)) j hj
        have HK := hid (And.intro hk kW)
        have C1 := hid (H1.out W0 wr g m x n c L (l[j]'hj) ⟨hLm, by omega⟩ HX)
        have C2 := hid (H2.out W0 wr g m x n c L ⟨hLm, by omega⟩ HX)
        have hm20 : m ≤ 20 := by omega
        have HM := hid (show L.length = m ∧ m ≤ 20 from ⟨hLm, hm20⟩)
        clear H1 H2 HX hLm HJ kW hk
        generalize l[j]'hj = b at *
        go_wp2_with fail
        refine Calls.mono C1.out ?_
        rintro e w3 ⟨rfl, rfl⟩
        clear C1
        go_wp2_with fail
        refine Calls.mono C2.out ?_
        rintro e w3 ⟨rfl, X3⟩
        clear C2 d0 hr1
        have C3 := hid (H3.out _ _ _ _ _ _ _ _ HM.out X3.out)
        go_wp2_with fail
        refine Calls.mono C3.out ?_
        rintro e w4 ⟨rfl, X4⟩
        clear C3 X3 H3
        have C4 := hid (H4.out _ _ _ _ _ _ _ _ HM.out X4.out)
        go_wp2_with fail
        refine Calls.mono C4.out ?_
        rintro e w5 ⟨rfl, rfl⟩
        clear C4 H4
        cases b with
        | true =>
          have C5 := hid (H5.out _ _ _ _ _ _ _ _ HM.out X4.out)
          clear H5 H6 X4
          go_wp2_with fail
          refine Calls.mono C5.out ?_
          rintro e w6 ⟨rfl, x2, n2, c2, L2, X6⟩
          clear C5
          have C7 := hid (H7.out _ _ _ _ _ _ _ _ ⟨X6.out.1, by omega⟩ X6.out.2)
          go_wp2_with fail
          refine Calls.mono C7.out ?_
          rintro e w7 ⟨rfl, rfl⟩
          clear C7 H7
          have C8 := hid (H8.out _ _ _ _ _ _ _ _ ⟨X6.out.1, by omega⟩ X6.out.2)
          have HS := hid X6.out.1
          clear H8 X6
          go_wp2_with fail
          refine Calls.mono C8.out ?_
          rintro e w8 ⟨x3, c3, rfl, X8⟩
          clear C8
          go_wp2
          have hk := HK.out.1
          go_roundg (gk - 1)
          case measure => omega
          case rel => exact ⟨j + 1, m + 1, x2, n2, c2, L2, by simp, by simp, by omega, by omega, HS.out, W0, HK.out.2, X8.out⟩
        | false =>
          have C6 := hid (H6.out _ _ _ _ _ _ _ _ HM.out X4.out)
          clear H5 H6 X4
          go_wp2_with fail
          refine Calls.mono C6.out ?_
          rintro e w6 ⟨rfl, X6⟩
          clear C6
          have C7 := hid (H7.out _ _ _ _ _ _ _ _ ⟨HM.out.1, by omega⟩ X6.out)
          go_wp2_with fail
          refine Calls.mono C7.out ?_
          rintro e w7 ⟨rfl, rfl⟩
          clear C7 H7
          have C8 := hid (H8.out _ _ _ _ _ _ _ _ ⟨HM.out.1, by omega⟩ X6.out)
          clear H8 X6
          go_wp2_with fail
          refine Calls.mono C8.out ?_
          rintro e w8 ⟨x3, c3, rfl, X8⟩
          clear C8
          go_wp2
          have hk := HK.out.1
          go_roundg (gk - 1)
          case measure => omega
          case rel => exact ⟨j + 1, m, x, n, c, L, rfl, by simp, by omega, by omega, HM.out.1, W0, HK.out.2, X8.out⟩
      · have HB := hid (keeps_of_below HX.below)
        have KW := hid kW
        clear HX kW HJ H1 H2 H3 H4 H5 H6 H7 H8 hLm
        go_wp2
        go_ret
        exact ⟨rfl, (KW.out.then HB.out).below (Below.refl _ _) (fun _ e => e.elim) (Nat.le_refl _)⟩
  · clear hI
    go_enter Try.func4, Try.ntmps4
    go_wp2_with fail
    refine Calls.mono (HL.out _) ?_
    rintro e w1 ⟨rfl, k1⟩
    go_wp2
    go_ret
    exact ⟨rfl, k1.below (Below.refl _ _) (fun _ e => e.elim) (Nat.le_refl _)⟩
end Go.Proofs.Ytendndokgpppiaa
