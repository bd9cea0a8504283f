/-
  The law PoolTicks, walked.
-/
import Derived.Test.YtendndokgpppiaaPoTickS
namespace Go.Proofs.Ytendndokgpppiaa
open Go.RowKit
attribute [local irreducible] cnT cnW poTs upL hAt

set_option maxRecDepth 100000 in
set_option maxHeartbeats 4000000 in
theorem ticks_main (k e wa : Nat) (w : World) (hk : 1 ≤ k ∧ k ≤ 3) (he : 1 ≤ e ∧ e ≤ 10) (hw : 1 ≤ wa ∧ wa ≤ 10) : Calls Try.prog 5 #[.int .i64 (k : Int), .int .i64 (e : Int), .int .i64 (wa : Int)] w (Fine w) := by
  have HL := hid alive_ok
  have HN := hid (pnew_ok e wa 3 he.1 hw.1 (by decide))
  have HB : Hid ((1 ≤ e ∧ e ≤ 10) ∧ 1 ≤ wa ∧ wa ≤ 10) := ⟨he, hw⟩
  obtain ⟨hk1, hk3⟩ := hk
  obtain ⟨he1, he2⟩ := he
  obtain ⟨hw1, hw2⟩ := hw
  go_enter Try.func5, Try.ntmps5
  go_wp2_with fail
  refine Calls.mono (HL.out _) ?_
  rintro e0 w1 ⟨rfl, k1⟩
  have K1 := hid k1
  clear k1 HL
  go_wp2_with fail
  refine Calls.mono (HN.out _) ?_
  rintro e0 w2 ⟨g, rfl, HP⟩
  clear HN
  go_wp2
  go_loopg [8, 9] k (fun kk v i wr => ∃ (j : Nat) (x1 : Option Addr) (c1 : Nat) (x : Option Addr) (n c : Nat) (L : List (Nat × Cn)), v = .slice x1 j c1 ∧ i = .int .i64 ((j : Int) + 1) ∧ kk + j = k ∧ Hid (L.length = j ∧ numsOf L = upL j ∧ Alike L (hAt e wa 0) 0 100 ∧ Hold w1 wr (numT x1 j c1 (upL j) :: poTs (poN g e wa j false x n c L) [])))
  case atStart => exact ⟨0, none, 0, none, 0, 0, [], rfl, rfl, rfl, rfl, by unfold upL; rfl, (fun q hq => by cases hq), by
    have h := Recs.newrow (R := numR) HP.out 3
    unfold upL
    exact h⟩
  case round =>
    obtain ⟨j, x1, c1, x, n, c, L, rfl, rfl, hkk, HJ⟩ := hrel
    clear HP
    by_cases hj : j < k
    · have C1 := hid (n_dial HB.out ⟨HJ.out.1, by omega⟩ HJ.out.2.2.2)
      have HS : Hid (L.length = j ∧ j ≤ 3 ∧ numsOf L = upL j ∧ Alike L (hAt e wa 0) 0 100) := ⟨HJ.out.1, by omega, HJ.out.2.1, HJ.out.2.2.1⟩
      have HK := hid hkk
      clear HJ hkk
      go_wp2_with fail
      refine Calls.mono C1.out ?_
      rintro e0 w3 ⟨rfl, X3⟩
      clear C1
      have C2 := hid (n_dialed HB.out ⟨HS.out.1, HS.out.2.1⟩ X3.out)
      clear X3
      go_wp2_with fail
      refine Calls.mono C2.out ?_
      rintro e0 w4 ⟨rfl, x2, n2, c2, s, X4⟩
      clear C2
      have hul : (upL j).length = j := upL_length j
      obtain ⟨x3, n3, c3, w5, r5, H5⟩ := Recs.app_lit (P := Try.prog) (R := numR) (ts := []) 30 30 3 _ 8 Try.underlying30 infoInt rfl X4.out.2 ((j : Int) + 1) #[.int .i64 ((j : Int) + 1)] rfl (by omega) (by decide)
      have hn3 : n3 = j + 1 := by
        have h := H5.out.1
        rw [List.length_append, hul] at h
        exact h
      subst hn3
      have HR := hid r5
      have HF := hid X4.out.1
      clear r5 X4 hul
      go_wp2_with (at_builtin; refine wpList_append_run rfl _ _ 30 30 rfl _ _ rfl rfl HR.out ?_)
      have hkk := HK.out
      go_roundg (gk - 1)
      case measure => omega
      case rel =>
        refine ⟨j + 1, x3, c3, x2, n2, c2, L ++ [(j + 1, s)], rfl, by simp, by omega, by simp [HS.out.1], ?_, ?_, ?_⟩
        · rw [upL_succ, ← HS.out.2.2.1]
          simp [numsOf]
        · intro q hq
          rcases List.mem_append.1 hq with hq | hq
          · exact HS.out.2.2.2 q hq
          · simp at hq
            rw [hq, hAt_zero he1]
            exact ⟨HF.out.h, HF.out.dead, HF.out.size, HF.out.sent⟩
        · rw [upL_succ]
          exact H5.out.2
    · obtain rfl : j = k := by omega
      have HX : Hid (j ≤ 3) := hk3
      clear hkk hj
      go_wp2
      go_loopg [10] (e + wa) (fun kk i wr => ∃ (t : Nat) (L : List (Nat × Cn)), i = .int .i64 ((t : Int) + 1) ∧ kk + t = e + wa ∧ t + 1 ≤ e + wa ∧ Hid (L.length = j ∧ numsOf L = upL j ∧ Alike L (hAt e wa t) 0 (100 + 20 * t) ∧ Hold w1 wr (numT x1 j c1 (upL j) :: poTs (poN g e wa j false x n c L) [])))
      case atStart => exact ⟨0, L, rfl, rfl, by omega, HJ.out.1, HJ.out.2.1, HJ.out.2.2.1, HJ.out.2.2.2⟩
      case round =>
        obtain ⟨t, L1, rfl, hkk, htl, HT⟩ := hrel
        clear HJ
        by_cases ht : (t : Int) + 1 < (e : Int) + (wa : Int)
        · have C1 := hid (n_tick HB.out ⟨HT.out.1, HX.out⟩ HT.out.2.1 (by omega) HT.out.2.2.1 HT.out.2.2.2)
          have HK := hid hkk
          clear HT hkk htl
          go_wp2_with fail
          refine Calls.mono C1.out ?_
          rintro e0 w3 ⟨x3, c3, rfl, L2, X3⟩
          clear C1
          go_wp2
          have hkk := HK.out
          go_roundg (gk - 1)
          case measure => omega
          case rel => exact ⟨t + 1, L2, by simp, by omega, by omega, X3⟩
        · have C1 := hid (n_last HB.out ⟨HT.out.1, HX.out⟩ HT.out.2.1 (by omega) HT.out.2.2.1 HT.out.2.2.2)
          clear HT hkk htl
          go_wp2_with fail
          refine Calls.mono C1.out ?_
          rintro e0 w3 ⟨x3, c3, rfl, L2, X3⟩
          have C2 := hid (n_same (upL_length j) (by have := HX.out; omega) X3.out.2.2.2)
          have HS : Hid (L2.length = j ∧ numsOf L2 = upL j ∧ ∀ q ∈ L2, q.2.dead ≠ 0) := ⟨X3.out.1, X3.out.2.1, X3.out.2.2.1⟩
          clear C1 X3
          go_wp2_with fail
          refine Calls.mono C2.out ?_
          rintro e0 w4 ⟨rfl, X4⟩
          clear C2
          have C3 := hid (n_dead HB.out ⟨HS.out.1, HX.out⟩ HS.out.2.2 X4.out)
          clear X4
          go_wp2_with fail
          refine Calls.mono C3.out ?_
          rintro e0 w5 ⟨rfl, X5⟩
          clear C3
          have C4 := hid (n_picked HB.out ⟨HS.out.1, HX.out⟩ HS.out.2.2 X5.out)
          clear X5
          go_wp2_with fail
          refine Calls.mono C4.out ?_
          rintro e0 w6 ⟨rfl, X6⟩
          clear C4
          have C5 := hid (n_sweep HB.out ⟨HS.out.1, HX.out⟩ HS.out.2.1 HS.out.2.2 X6.out)
          clear X6
          go_wp2_with fail
          refine Calls.mono C5.out ?_
          rintro e0 w7 ⟨x4, c4, rfl, x5, n5, c5, X7⟩
          clear C5
          have C6 := hid (n_same (upL_length j) (by have := HX.out; omega) X7.out)
          clear X7
          go_wp2_with fail
          refine Calls.mono C6.out ?_
          rintro e0 w8 ⟨rfl, X8⟩
          clear C6
          have C7 := hid (n_all HB.out HX.out X8.out)
          clear X8
          go_wp2_with fail
          refine Calls.mono C7.out ?_
          rintro e0 w9 ⟨x6, c6, rfl, X9⟩
          clear C7
          have C8 := hid (n_wants HB.out HX.out X9.out)
          clear X9
          go_wp2_with fail
          refine Calls.mono C8.out ?_
          rintro e0 w10 ⟨rfl, k10⟩
          have KK := hid (K1.out.then k10)
          clear k10 C8
          go_wp2
          go_ret
          exact ⟨rfl, KK.out.below (Below.refl _ _) (fun _ e => e.elim) (Nat.le_refl _)⟩
set_option maxRecDepth 100000 in
set_option maxHeartbeats 4000000 in
theorem ticks_walk (k e wa : Int) (w : World) : Calls Try.prog 5 #[.int .i64 k, .int .i64 e, .int .i64 wa] w (Fine w) := by
  have HL : Hid (∀ w, Calls Try.prog 6 #[] w (Fine w)) := fun w => (alive_ok w).mono fun _ _ h => ⟨h.1, h.2.below (Below.refl _ _) (fun _ e => e.elim) (Nat.le_refl _)⟩
  by_cases a1 : k < 1
  · go_enter Try.func5, Try.ntmps5
    go_wp2_with fail
    refine Calls.mono (HL.out _) ?_
    rintro e0 w1 ⟨rfl, k1⟩
    go_wp2
    go_ret
    exact ⟨rfl, k1⟩
  by_cases a2 : 3 < k
  · go_enter Try.func5, Try.ntmps5
    go_wp2_with fail
    refine Calls.mono (HL.out _) ?_
    rintro e0 w1 ⟨rfl, k1⟩
    go_wp2
    go_ret
    exact ⟨rfl, k1⟩
  by_cases a3 : e < 1
  · go_enter Try.func5, Try.ntmps5
    go_wp2_with fail
    refine Calls.mono (HL.out _) ?_
    rintro e0 w1 ⟨rfl, k1⟩
    go_wp2
    go_ret
    exact ⟨rfl, k1⟩
  by_cases a4 : wa < 1
  · go_enter Try.func5, Try.ntmps5
    go_wp2_with fail
    refine Calls.mono (HL.out _) ?_
    rintro e0 w1 ⟨rfl, k1⟩
    go_wp2
    go_ret
    exact ⟨rfl, k1⟩
  by_cases a5 : 10 < e
  · go_enter Try.func5, Try.ntmps5
    go_wp2_with fail
    refine Calls.mono (HL.out _) ?_
    rintro e0 w1 ⟨rfl, k1⟩
    go_wp2
    go_ret
    exact ⟨rfl, k1⟩
  by_cases a6 : 10 < wa
  · go_enter Try.func5, Try.ntmps5
    go_wp2_with fail
    refine Calls.mono (HL.out _) ?_
    rintro e0 w1 ⟨rfl, k1⟩
    go_wp2
    go_ret
    exact ⟨rfl, k1⟩
  obtain ⟨k, rfl⟩ := Int.eq_ofNat_of_zero_le (show 0 ≤ k by omega)
  obtain ⟨e, rfl⟩ := Int.eq_ofNat_of_zero_le (show 0 ≤ e by omega)
  obtain ⟨wa, rfl⟩ := Int.eq_ofNat_of_zero_le (show 0 ≤ wa by omega)
  exact ticks_main k e wa w (by omega) (by omega) (by omega)
end Go.Proofs.Ytendndokgpppiaa
