/-
  The law PoolPicks, walked.
-/
import Derived.Test.YtendndokgpppiaaPoPickS
namespace Go.Proofs.Ytendndokgpppiaa
open Go.RowKit
attribute [local irreducible] cnT cnW poTs upL pickL goneL stayL

set_option maxRecDepth 100000 in
set_option maxHeartbeats 8000000 in
theorem picks_main (k : Nat) (a : Option Addr) (cap : Nat) (l : List Bool) (w : World) (hI : Bools w a l) (hk : 1 ≤ k ∧ k ≤ 3) (hl : l.length ≤ 3) : Calls Try.prog 3 #[.int .i64 (k : Int), .slice a l.length cap] w (Fine w) := by
  have HL := hid alive_ok
  have HN : Hid (∀ w, Calls Try.prog 7 #[.agg #[.int .i64 100, .int .i64 1, .int .i64 5, .int .i64 5], .int .i64 3] w fun e w' => ∃ g, e = .returned (.pointer (some ⟨g, 0, none⟩)) ∧ Hid (Hold w w' (poTs ⟨g, 5, 5, 3, 0, false, none, 0, 0, []⟩ []))) := pnew_ok 5 5 3 (by decide) (by decide) (by decide)
  obtain ⟨hk1, hk3⟩ := hk
  have HI := hid hI
  clear hI
  go_enter Try.func3, Try.ntmps3
  go_wp2_with fail
  refine Calls.mono (HL.out _) ?_
  rintro e0 w1 ⟨rfl, k1⟩
  have K1 := hid k1
  clear k1 HL
  go_wp2_with fail
  refine Calls.mono (HN.out _) ?_
  rintro e0 w2 ⟨g, rfl, HP⟩
  clear HN
  go_wp2
  go_loopg [6] k (fun kk i wr => ∃ (j : Nat) (x : Option Addr) (n c : Nat) (L : List (Nat × Cn)), i = .int .i64 ((j : Int) + 1) ∧ kk + j = k ∧ Hid (L.length = j ∧ numsOf L = upL j ∧ Alike L (Pi.newH 5 5) 0 100 ∧ Hold w1 wr (numT none 0 0 [] :: poTs (poN g 5 5 j false x n c L) [])))
  case atStart => exact ⟨0, none, 0, 0, [], rfl, rfl, rfl, by unfold upL; rfl, (fun q hq => by cases hq), Recs.newrow (R := numR) HP.out 3⟩
  case round =>
    obtain ⟨j, x, n, c, L, rfl, hkk, HJ⟩ := hrel
    clear HP
    by_cases hj : j < k
    · have C1 := hid (n_dial b5 ⟨HJ.out.1, by omega⟩ HJ.out.2.2.2)
      have HS : Hid (L.length = j ∧ j ≤ 3 ∧ numsOf L = upL j ∧ Alike L (Pi.newH 5 5) 0 100) := ⟨HJ.out.1, by omega, HJ.out.2.1, HJ.out.2.2.1⟩
      have HK := hid hkk
      clear HJ hkk
      go_wp2_with fail
      refine Calls.mono C1.out ?_
      rintro e0 w3 ⟨rfl, X3⟩
      clear C1
      have C2 := hid (n_dialed b5 ⟨HS.out.1, HS.out.2.1⟩ X3.out)
      clear X3
      go_wp2_with fail
      refine Calls.mono C2.out ?_
      rintro e0 w4 ⟨rfl, x2, n2, c2, s, X4⟩
      clear C2
      have hul : (upL j).length = j := upL_length j
      clear hul
      go_wp2
      have hkk := HK.out
      go_roundg (gk - 1)
      case measure => omega
      case rel =>
        refine ⟨j + 1, x2, n2, c2, L ++ [(j + 1, s)], by simp, by omega, by simp [HS.out.1], ?_, ?_, X4.out.2⟩
        · rw [upL_succ, ← HS.out.2.2.1]
          simp [numsOf]
        · intro q hq
          rcases List.mem_append.1 hq with hq | hq
          · exact HS.out.2.2.2 q hq
          · simp at hq
            rw [hq]
            exact ⟨X4.out.1.h, X4.out.1.dead, X4.out.1.size, X4.out.1.sent⟩
    · obtain rfl : j = k := by omega
      have HX : Hid (j ≤ 3) := hk3
      have HE : Hid (L.drop j = []) := List.drop_eq_nil_of_le (by have := HJ.out.1; omega)
      have HT : Hid (L.take j = L) := List.take_of_length_le (by have := HJ.out.1; omega)
      clear hkk hj
      go_wp2
      go_loopg [9, 10, 11] j (fun kk v u i wr => ∃ (r G : Nat) (z : Int) (x1 : Option Addr) (c1 : Nat) (L : List (Nat × Cn)), v = .int .i64 z ∧ u = .slice x1 G c1 ∧ i = .int .i64 (r : Int) ∧ kk = r ∧ r ≤ j ∧ Hid (z = (pickL (L.drop r)).1 ∧ G = (goneL (L.drop r)).length ∧ L.length = j ∧ numsOf L = upL j ∧ Alike (L.take r) (Pi.newH 5 5) 0 100 ∧ Hold w1 wr (numT x1 G c1 (goneL (L.drop r)) :: poTs (poN g 5 5 j false x n c L) [])))
      case atStart =>
        refine ⟨j, 0, 0, none, 0, L, rfl, rfl, rfl, rfl, Nat.le_refl _, ?_⟩
        have e1 : pickL [] = (0, false) := by unfold pickL; rfl
        have e2 : goneL [] = [] := by unfold goneL; rfl
        rw [HE.out, HT.out, e1, e2]
        exact ⟨rfl, rfl, HJ.out.1, HJ.out.2.1, HJ.out.2.2.1, HJ.out.2.2.2⟩
      case round =>
        obtain ⟨r, G, z, x1, c1, L1, rfl, rfl, rfl, hkr, hrj, HR⟩ := hrel
        clear HJ HE HT
        rcases r with _ | r
        · have HQ : Hid ((pickL L1).1 = z ∧ (goneL L1).length = G ∧ L1.length = j ∧ Hold w1 wr (numT x1 (goneL L1).length c1 (goneL L1) :: poTs (poN g 5 5 j false x n c L1) [])) := by
            obtain ⟨q1, q2, q3, _, _, q6⟩ := HR.out
            rw [List.drop_zero] at q1 q2 q6
            exact ⟨q1.symm, q2.symm, q3, by rw [← q2]; exact q6⟩
          have C1 := hid (q_picked ⟨HQ.out.2.2.1, HX.out⟩ HQ.out.2.2.2)
          rw [HQ.out.1] at C1
          clear HR hkr
          go_wp2_with fail
          refine Calls.mono C1.out ?_
          rintro e0 w3 ⟨rfl, X3⟩
          clear C1
          have C2 := hid (q_sweep ⟨HQ.out.2.2.1, HX.out⟩ X3.out)
          rw [HQ.out.2.1] at C2
          clear X3
          go_wp2_with fail
          refine Calls.mono C2.out ?_
          rintro e0 w4 ⟨x4, c4, rfl, x5, n5, c5, X4⟩
          clear C2
          have hG := stay_gone L1
          have HG : Hid ((goneL L1).length = G ∧ (stayL L1).length + G = j ∧ (pickL (stayL L1)).1 = z) := ⟨HQ.out.2.1, by rw [← HQ.out.2.1, hG]; exact HQ.out.2.2.1, by rw [pick_stay]; exact HQ.out.1⟩
          have C3 := hid (n_same HG.out.1 (by have := HX.out; have := HG.out.2.1; omega) X4.out)
          clear X4 hG HQ
          go_wp2_with fail
          refine Calls.mono C3.out ?_
          rintro e0 w5 ⟨rfl, X5⟩
          clear C3
          have C4 := hid (s_all (by have := HX.out; have := HG.out.2.1; omega) HX.out X5.out)
          have hsub : (j : Int) - (G : Int) = ((stayL L1).length : Int) := by have := HG.out.2.1; omega
          have hsz : (stayL L1).length ≤ 3 := by have := HX.out; have := HG.out.2.1; omega
          have hgz : G ≤ 3 := by have := HX.out; have := HG.out.2.1; omega
          clear X5
          have HB : Hid (∀ W t x n c, Hold w1 W (t :: poTs (poN g 5 5 j false x n c (stayL L1)) []) → Calls Try.prog 12 #[.pointer (some ⟨g, 0, none⟩)] W fun e1 w' => e1 = .returned (.int .i64 z) ∧ Keeps nobody w1 w') := fun W t x n c H => by
            have h := s_picked hsz HX.out H
            rw [HG.out.2.2] at h
            exact h
          clear HG
          generalize hgS : (stayL L1).length = S at *
          go_wp2_with fail
          refine Calls.mono C4.out ?_
          rintro e0 w6 ⟨x6, c6, rfl, X6⟩
          have C5 := hid (HB.out _ _ _ _ _ X6.out)
          clear C4 X6 HB hgS
          go_wp2_with fail
          refine Calls.mono C5.out ?_
          rintro e0 w7 ⟨rfl, k7⟩
          have KK := hid (K1.out.then k7)
          clear C5 k7
          go_wp2
          go_ret
          exact ⟨rfl, KK.out.below (Below.refl _ _) (fun _ e => e.elim) (Nat.le_refl _)⟩
        · have hr : r < L1.length := by have := HR.out.2.2.1; omega
          obtain ⟨⟨m, s⟩, hq⟩ := getsome hr
          have hm := num_at HR.out.2.2.2.1 hq
          have hdrop : L1.drop r = (m, s) :: L1.drop (r + 1) := by
            obtain ⟨hlt, he⟩ := List.getElem?_eq_some_iff.1 hq
            rw [List.drop_eq_getElem_cons hlt, he]
          have hsplit : L1 = L1.take r ++ (m, s) :: L1.drop (r + 1) := by
            rw [← hdrop, List.take_append_drop]
          have hs := HR.out.2.2.2.2.1 (m, s) (by
            rw [take_snoc hq]
            simp)
          have htk : ∀ q ∈ L1.take r, q ∈ L1.take (r + 1) := fun q hq2 => by
            rw [take_snoc hq]
            exact List.mem_append.2 (.inl hq2)
          have hcast : ((r + 1 : Nat) : Int) = (r : Int) + 1 := by simp
          -- the connection at this place is left as it is
          have HOPEN : Hid (Hid ((r : Int) + 1 = (pickL (L1.drop r)).1 ∧ G = (goneL (L1.drop r)).length ∧ L1.length = j ∧ numsOf L1 = upL j ∧ Alike (L1.take r) (Pi.newH 5 5) 0 100 ∧ Hold w1 wr (numT x1 G c1 (goneL (L1.drop r)) :: poTs (poN g 5 5 j false x n c L1) []))) := by
            rw [hdrop, pick_cons_live hs.2.1, gone_cons_live hs.2.1]
            exact ⟨hm.symm, HR.out.2.1, HR.out.2.2.1, HR.out.2.2.2.1, fun q hq2 => HR.out.2.2.2.2.1 q (htk q hq2), HR.out.2.2.2.2.2⟩
          have HKR := hid hkr
          by_cases hrl : r < l.length
          · obtain ⟨rb, of, rfl, hrb, d0⟩ := HI.out.at (K1.out.then (keeps_of_below HR.out.2.2.2.2.2.below)) r hrl
            cases hb : l[r]'hrl with
            | false =>
              rw [hb] at d0
              rw [hcast]
              clear HR hkr hs htk hsplit hdrop hb hm hq hr
              go_wp2
              have hkr := HKR.out
              go_roundg (gk - 1)
              case measure => omega
              case rel => exact ⟨r, G, (r : Int) + 1, x1, c1, L1, rfl, rfl, by simp, by omega, by omega, HOPEN.out⟩
            | true =>
              rw [hb] at d0
              rw [hcast]
              have C1 := hid (q_at ⟨HR.out.2.2.1, HX.out⟩ HR.out.2.2.2.1 hq HR.out.2.2.2.2.2)
              have C2 : Hid (∀ W, Hold w1 W (numT x1 G c1 (goneL (L1.drop (r + 1))) :: poTs (poN g 5 5 j false x n c L1) []) → Calls Try.prog 10 #[.pointer (some ⟨g, 0, none⟩), .int .i64 ((r : Int) + 1)] W fun e1 w' => e1 = .returned (.pointer (some ⟨s.g, 0, none⟩)) ∧ Hid (Hold w1 w' (numT x1 G c1 (goneL (L1.drop (r + 1))) :: poTs (poN g 5 5 j false x n c L1) []))) := fun W H => q_at ⟨HR.out.2.2.1, HX.out⟩ HR.out.2.2.2.1 hq H
              have C3 : Hid (∀ W, Hold w1 W (numT x1 G c1 (goneL (L1.drop (r + 1))) :: poTs (poN g 5 5 j false x n c L1) []) → Calls Try.prog 11 #[.pointer (some ⟨s.g, 0, none⟩)] W fun e1 w' => e1 = .returned (.tuple #[]) ∧ ∃ s', Hid (s'.g = s.g ∧ s'.dead = 12 ∧ Hold w1 w' (numT x1 G c1 (goneL (L1.drop (r + 1))) :: poTs (poN g 5 5 j false x n c (L1.take r ++ (m, s') :: L1.drop (r + 1))) []))) := fun W H => q_close hsplit hs.2.1 hs.2.2.1 hs.2.2.2 H
              have HG : Hid ((goneL (L1.drop (r + 1))).length = G) := HR.out.2.1.symm
              have HGL : Hid (G ≤ 1000) := by
                have h1 := stay_gone (L1.drop (r + 1))
                rw [List.length_drop] at h1
                have h2 := HG.out
                have h3 := HR.out.2.2.1
                have h4 := HX.out
                show G ≤ 1000
                omega
              have HEND : Hid (∀ s' : Cn, s'.dead = 12 → (z = (pickL ((L1.take r ++ (m, s') :: L1.drop (r + 1)).drop r)).1 ∧ goneL ((L1.take r ++ (m, s') :: L1.drop (r + 1)).drop r) = ((r : Int) + 1) :: goneL (L1.drop (r + 1)) ∧ (L1.take r ++ (m, s') :: L1.drop (r + 1)).length = j ∧ numsOf (L1.take r ++ (m, s') :: L1.drop (r + 1)) = upL j ∧ Alike ((L1.take r ++ (m, s') :: L1.drop (r + 1)).take r) (Pi.newH 5 5) 0 100)) := fun s' hd => by
                have hlr : (L1.take r).length = r := by rw [List.length_take]; omega
                have e1 : (L1.take r ++ (m, s') :: L1.drop (r + 1)).drop r = (m, s') :: L1.drop (r + 1) := List.drop_left' hlr
                have e2 : (L1.take r ++ (m, s') :: L1.drop (r + 1)).take r = L1.take r := List.take_left' hlr
                have hne : s'.dead ≠ 0 := by rw [hd]; decide
                rw [e1, e2, pick_cons_dead hne, gone_cons_dead hne, hm]
                refine ⟨HR.out.1, rfl, ?_, ?_, fun q hq2 => HR.out.2.2.2.2.1 q (htk q hq2)⟩
                · have h1 := congrArg List.length hsplit
                  simp only [List.length_append, List.length_cons] at h1 ⊢
                  have h2 := HR.out.2.2.1
                  omega
                · rw [← HR.out.2.2.2.1]
                  have h1 := congrArg numsOf hsplit
                  rw [h1]
                  simp [numsOf]
              clear HR hkr hs htk hsplit hdrop hb hm hq hr HOPEN
              go_wp2_with fail
              refine Calls.mono C1.out ?_
              rintro e0 w3 ⟨rfl, X3⟩
              clear C1
              have D2 := hid (C2.out _ X3.out)
              clear C2 X3
              go_wp2_with fail
              refine Calls.mono D2.out ?_
              rintro e0 w4 ⟨rfl, X4⟩
              have D3 := hid (C3.out _ X4.out)
              clear D2 C3 X4
              go_wp2_with fail
              refine Calls.mono D3.out ?_
              rintro e0 w5 ⟨rfl, s', X5⟩
              clear D3
              have hG := HG.out
              subst hG
              obtain ⟨x6, c6, w6, r6, H6⟩ := ahead_ok ((r : Int) + 1) X5.out.2.2 HGL.out
              have HR6 := hid r6
              have HEN := hid (HEND.out s' X5.out.2.1)
              clear r6 X5 HEND
              have hgl := HGL.out
              generalize hgg : (goneL (L1.drop (r + 1))).length = G at *
              go_wp2_with (at_builtin; refine wpList_append_run rfl _ _ 30 30 rfl _ _ rfl rfl HR6.out ?_)
              have hkr := HKR.out
              go_roundg (gk - 1)
              case measure => omega
              case rel =>
                refine ⟨r, G + 1, z, x6, c6, L1.take r ++ (m, s') :: L1.drop (r + 1), rfl, rfl, by simp, by omega, by omega, HEN.out.1, ?_, HEN.out.2.2.1, HEN.out.2.2.2.1, HEN.out.2.2.2.2, ?_⟩
                · rw [HEN.out.2.1, List.length_cons, hgg]
                · rw [HEN.out.2.1]
                  exact H6.out
          · rw [hcast]
            clear HR hkr hs htk hsplit hdrop hm hq hr
            go_wp2
            have hkr := HKR.out
            go_roundg (gk - 1)
            case measure => omega
            case rel => exact ⟨r, G, (r : Int) + 1, x1, c1, L1, rfl, rfl, by simp, by omega, by omega, HOPEN.out⟩
set_option maxRecDepth 100000 in
set_option maxHeartbeats 4000000 in
theorem picks_walk (k : Int) (a : Option Addr) (cap : Nat) (l : List Bool) (w : World) (hI : Bools w a l) : Calls Try.prog 3 #[.int .i64 k, .slice a l.length cap] w (Fine w) := by
  have HL : Hid (∀ w, Calls Try.prog 6 #[] w (Fine w)) := fun w => (alive_ok w).mono fun _ _ h => ⟨h.1, h.2.below (Below.refl _ _) (fun _ e => e.elim) (Nat.le_refl _)⟩
  have hlen := hI.2
  by_cases a1 : k < 1
  · go_enter Try.func3, Try.ntmps3
    go_wp2_with fail
    refine Calls.mono (HL.out _) ?_
    rintro e0 w1 ⟨rfl, k1⟩
    go_wp2
    go_ret
    exact ⟨rfl, k1⟩
  by_cases a2 : 3 < k
  · go_enter Try.func3, Try.ntmps3
    go_wp2_with fail
    refine Calls.mono (HL.out _) ?_
    rintro e0 w1 ⟨rfl, k1⟩
    go_wp2
    go_ret
    exact ⟨rfl, k1⟩
  by_cases a3 : 3 < l.length
  · go_enter Try.func3, Try.ntmps3
    go_wp2_with fail
    refine Calls.mono (HL.out _) ?_
    rintro e0 w1 ⟨rfl, k1⟩
    go_wp2
    go_ret
    exact ⟨rfl, k1⟩
  obtain ⟨k, rfl⟩ := Int.eq_ofNat_of_zero_le (show 0 ≤ k by omega)
  exact picks_main k a cap l w hI (by omega) (by omega)
end Go.Proofs.Ytendndokgpppiaa
