/-
  The law PingPlays, walked.
-/
import Derived.Test.YtfgbijhmhanpeaaOPlayS
import Derived.Deep.DeepCutAuto
import Derived.Deep.CutBlock
namespace Go.Proofs.Ytfgbijhmhanpeaa
open Go.RowKit
attribute [local irreducible] nums str bodyB tickH gotH rtick rgot

set_option maxRecDepth 100000 in
theorem plays_off (a b : Int) (s : Option Addr) (n cap : Nat) (w : World) (h : 300 < n) (hn : n ≤ 140737488355328) : Calls Try.prog 3 #[.int .i64 a, .int .i64 b, .slice s n cap] w (Fine w) := by
  have HA : Hid (∀ W, Calls Try.prog 8 #[] W fun e w' => e = .returned (.bool true) ∧ Keeps nobody W w') := alive_ok
  go_enter Try.func3, Try.ntmps3
  go_wp2_with fail
  refine Calls.mono (HA.out _) ?_
  rintro e w1 ⟨rfl, k1⟩
  go_wp2
  go_ret
  exact ⟨rfl, below_of_keeps k1⟩
set_option maxRecDepth 100000 in
set_option maxHeartbeats 1000000 in
theorem plays_none (a b : Int) (s : Option Addr) (n cap : Nat) (w : World) (hn : n ≤ 300) (h : a < 1 ∨ b < 1) : Calls Try.prog 3 #[.int .i64 a, .int .i64 b, .slice s n cap] w (Fine w) := by
  have HA : Hid (∀ W, Calls Try.prog 8 #[] W fun e w' => e = .returned (.bool true) ∧ Keeps nobody W w') := alive_ok
  have HN : Hid (∀ W, Calls Try.prog 9 #[.int .i64 a, .int .i64 b] W fun e w' => e = .returned (.pointer none) ∧ W = w') := fun W => new_no a b W h
  have HT : Hid (∀ W, Calls Try.prog 10 #[.pointer none] W fun e w' => e = .returned (.tuple #[.string ⟨#[]⟩, .bool false]) ∧ W = w') := tick_nil
  have HG : Hid (∀ W, Calls Try.prog 11 #[.pointer none, .string ⟨#[]⟩] W fun e w' => e = .returned (.bool false) ∧ W = w') := got_nil _
  have HW : Hid (∀ W, Calls Try.prog 12 #[.pointer none] W fun e w' => e = .returned (.bool false) ∧ W = w') := waits_nil
  have HS : Hid (∀ W, Calls Try.prog 13 #[.pointer none] W fun e w' => e = .returned (.int .i64 0) ∧ W = w') := sent_nil
  by_cases q1 : a < 1
  · clear h
    go_enter Try.func3, Try.ntmps3
    go_wp2_with fail
    refine Calls.mono (HA.out _) ?_
    rintro e w1 ⟨rfl, k1⟩
    go_wp2_with fail
    refine Calls.mono (HN.out _) ?_
    rintro e w2 ⟨rfl, rfl⟩
    go_wp2_with fail
    refine Calls.mono (HT.out _) ?_
    rintro e w2 ⟨rfl, rfl⟩
    go_wp2_with fail
    refine Calls.mono (HG.out _) ?_
    rintro e w2 ⟨rfl, rfl⟩
    go_wp2_with fail
    refine Calls.mono (HW.out _) ?_
    rintro e w2 ⟨rfl, rfl⟩
    go_wp2_with fail
    refine Calls.mono (HS.out _) ?_
    rintro e w2 ⟨rfl, rfl⟩
    go_wp2
    go_ret
    exact ⟨rfl, below_of_keeps k1⟩
  · have q2 : 1 ≤ a := by omega
    have q3 : b < 1 := by omega
    clear h q1
    go_enter Try.func3, Try.ntmps3
    go_wp2_with fail
    refine Calls.mono (HA.out _) ?_
    rintro e w1 ⟨rfl, k1⟩
    go_wp2_with fail
    refine Calls.mono (HN.out _) ?_
    rintro e w2 ⟨rfl, rfl⟩
    go_wp2_with fail
    refine Calls.mono (HT.out _) ?_
    rintro e w2 ⟨rfl, rfl⟩
    go_wp2_with fail
    refine Calls.mono (HG.out _) ?_
    rintro e w2 ⟨rfl, rfl⟩
    go_wp2_with fail
    refine Calls.mono (HW.out _) ?_
    rintro e w2 ⟨rfl, rfl⟩
    go_wp2_with fail
    refine Calls.mono (HS.out _) ?_
    rintro e w2 ⟨rfl, rfl⟩
    go_wp2
    go_ret
    exact ⟨rfl, below_of_keeps k1⟩

theorem Hold.turned {W w : World} {ts ts' : List Thing} (h : Hold W w ts) (hp : ts.Perm ts') : Hold W w ts' :=
  ⟨h.below, fun s hs => h.ok s (hp.mem_iff.2 hs), fun s hs => h.inv s (hp.mem_iff.2 hs), fun s hs => h.new s (hp.mem_iff.2 hs), hp.pairwise h.apart fun ha k e e2 => ha k e2 e⟩
theorem Hold.newop {W w : World} {t u : Thing} (h : Hold W w [t, u]) (k : Int) (s : ByteArray) : Hold W (w.alloc (.cells #[.int .i64 k, .string s] 34)) [t, u, opT w.heap.size k s] :=
  (h.newrec #[.int .i64 k, .string s] 34).turned ((List.Perm.swap _ _ _).trans (List.Perm.cons _ (List.Perm.swap _ _ _)))
theorem Hold.newref {W w : World} {t : Thing} (h : Hold W w [t]) (every wait : Nat) : Hold W (w.alloc (.cells #[.int .i64 (every : Int), .int .i64 (wait : Int), .int .i64 0, .int .i64 0, .int .i64 0, .bool false] 32)) [t, rhT w.heap.size ⟨every, wait, 0, 0, 0, false⟩] :=
  h.newrec2 _ _

set_option maxRecDepth 100000 in
set_option maxHeartbeats 8000000 in
theorem plays_main (every wait : Nat) (a : Option Addr) (b off cap : Nat) (l : List Doing) (w : World) (h1 : 1 ≤ every) (h2 : every ≤ 9223372036854775807) (h3 : 1 ≤ wait) (h4 : wait ≤ 9223372036854775807) (hn : l.length ≤ 300) (ha : Hid (l = [] ∨ a = some ⟨b, off, none⟩)) (HC : Hid (∀ W, Below w.heap.size w W → AtO W b off l)) (hl : ∀ f ∈ l, f.s.size ≤ 140737488355328) : Calls Try.prog 3 #[.int .i64 (every : Int), .int .i64 (wait : Int), .slice a l.length cap] w (Fine w) := by
  have HA : Hid (∀ W, Calls Try.prog 8 #[] W fun e w' => e = .returned (.bool true) ∧ Keeps nobody W w') := alive_ok
  have HN : Hid (∀ W, Hold w W [] → Calls Try.prog 9 #[.int .i64 (every : Int), .int .i64 (wait : Int)] W fun e w' => ∃ g, e = .returned (.pointer (some ⟨g, 0, none⟩)) ∧ Hid (Hold w w' [heT g (newH every wait)])) := fun W H => t_new H every wait h1 h3
  have HP0 := hid (pair_start every wait h1 h2 h3 h4)
  have HT : Hid (∀ W g h ts r s o, Hold w W (heT g h :: ts) → Fit h → tickH h = (r, s, o) → Calls Try.prog 10 #[.pointer (some ⟨g, 0, none⟩)] W fun e w' => e = .returned (.tuple #[.string s, .bool o]) ∧ Hid (Hold w w' (heT g r :: ts))) := fun W g h ts r s o H F hr => t_tick H F hr
  have HG : Hid (∀ W g h ts x r o, Hold w W (heT g h :: ts) → Fit h → gotH h x = (r, o) → Calls Try.prog 11 #[.pointer (some ⟨g, 0, none⟩), .string x] W fun e w' => e = .returned (.bool o) ∧ Hid (Hold w w' (heT g r :: ts))) := fun W g h ts x r o H F hr => t_got H F x hr
  have HY : Hid (∀ W g h t ts r s o, Hold w W (t :: rhT g h :: ts) → RFit h → rtick h = (r, s, o) → Calls Try.prog 14 #[.pointer (some ⟨g, 0, none⟩)] W fun e w' => e = .returned (.tuple #[.string s, .bool o]) ∧ Hid (Hold w w' (t :: rhT g r :: ts))) := fun W g h t ts r s o H F hr => t_rtick H F hr
  have HX : Hid (∀ W g h t ts x r o, Hold w W (t :: rhT g h :: ts) → RFit h → rgot h x = (r, o) → Calls Try.prog 15 #[.pointer (some ⟨g, 0, none⟩), .string x] W fun e w' => e = .returned (.bool o) ∧ Hid (Hold w w' (t :: rhT g r :: ts))) := fun W g h t ts x r o H F hr => t_rgot H F x hr
  have HW : Hid (∀ W g h ts, Hold w W (heT g h :: ts) → 1 ≤ h.every → Calls Try.prog 12 #[.pointer (some ⟨g, 0, none⟩)] W fun e w' => e = .returned (.bool h.waits) ∧ w' = W) := fun W g h ts H h1 => t_waits H h1
  have HS : Hid (∀ W g h ts, Hold w W (heT g h :: ts) → 1 ≤ h.every → Calls Try.prog 13 #[.pointer (some ⟨g, 0, none⟩)] W fun e w' => e = .returned (.int .i64 (h.sent : Int)) ∧ w' = W) := fun W g h ts H h1 => t_sent H h1
  have HL := hid hl
  clear hl
  go_enter Try.func3, Try.ntmps3
  go_wp2_with fail
  refine Calls.mono (HA.out _) ?_
  rintro e w0 ⟨rfl, k0⟩
  have H0 := hid ((hold_start w).quiet k0)
  clear HA k0
  go_wp2_with fail
  refine Calls.mono (HN.out _ H0.out) ?_
  rintro e w1 ⟨g, rfl, H1⟩
  have H2 := hid (H1.out.newref every wait)
  clear H0 HN H1
  go_wp2_with fail
  generalize w1.heap.size = g2 at *
  go_loopg [12, 74] l.length (fun k lv iv wr => ∃ (j : Nat) (L : ByteArray) (h : He) (r : Rh), lv = .string L ∧ iv = .int .i64 (j : Int) ∧ k + j = l.length ∧ Hid (Pair j h r ∧ Hold w wr [heT g h, rhT g2 r]))
  case atStart => exact ⟨0, ⟨#[]⟩, newH every wait, ⟨every, wait, 0, 0, 0, false⟩, rfl, rfl, rfl, HP0.out, H2.out⟩
  case round =>
    clear H2 HP0
    obtain ⟨j, L, h, r, rfl, rfl, hk, HJ⟩ := hrel
    by_cases hj : j < l.length
    · obtain rfl : a = some ⟨b, off, none⟩ := by
        rcases ha.out with h | h
        · rw [h] at hj; simp at hj
        · exact h
      obtain ⟨⟨kd, x⟩, hx⟩ : ∃ f, l[j]? = some f := ⟨_, List.getElem?_eq_getElem hj⟩
      have hsx := HL.out _ (List.mem_of_getElem? hx)
      obtain ⟨c0, c1⟩ := HC.out _ HJ.out.2.below j _ hx
      simp only at hsx c0 c1
      have HK := hid hk
      clear hk hx HL HC
      by_cases h40 : 40 < x.size
      · clear HT HG HY HX HW HS
        go_wp2
        go_ret
        exact ⟨rfl, (HJ.out.2.quiet (keeps_alloc _ _)).below⟩
      · have h40' : x.size ≤ 40 := by omega
        clear h40
        have H2 := hid (HJ.out.2.newop kd x)
        have HP := hid HJ.out.1
        have HF := hid (HJ.out.1.fit (by omega))
        have HR := hid (HJ.out.1.rfit (by omega))
        clear HJ
        go_upto_block 2 with fail
        go_cut [12] (fun lv wx => ∃ (L' : ByteArray) (h' : He) (r' : Rh), lv = .string L' ∧ Hid (Pair (j + 1) h' r' ∧ Hold w wx [heT g h', rhT g2 r', opT wr.heap.size kd x]))
        case first =>
          clear HW HS
          by_cases k1 : kd = 1
          · subst k1
            clear HG HX
            have hp := HP.out.tick
            obtain ⟨⟨h', s, o⟩, e1⟩ : ∃ y, tickH h = y := ⟨_, rfl⟩
            obtain ⟨⟨r', s', o'⟩, e2⟩ : ∃ y, rtick r = y := ⟨_, rfl⟩
            rw [e1, e2] at hp
            obtain ⟨hp1, hp2⟩ := hp
            simp only [Prod.mk.injEq] at hp1
            obtain ⟨rfl, rfl⟩ := hp1
            have HP2 := hid hp2
            have HT2 := hid (fun W ts H => HT.out W g h ts h' s' o' H HF.out e1)
            have HY2 := hid (fun W t ts H => HY.out W g2 r t ts r' s' o' H HR.out e2)
            clear HT HY e1 e2 hp2 HF HR HP
            have z1 : (s'.toList == s'.toList) = true := beq_list_of_eq rfl
            by_cases hs : 0 < s'.size
            · have hne := isEmpty_of_size s' hs
              clear hs
              cases o' <;> (
                go_wp2_with fail
                refine Calls.mono (HT2.out _ _ H2.out) ?_
                rintro e w3 ⟨rfl, H3⟩
                go_wp2_with fail
                refine Calls.mono (HY2.out _ _ _ H3.out) ?_
                rintro e w4 ⟨rfl, H4⟩
                go_wp2_with fail
                go_meet
                exact ⟨s', h', r', rfl, HP2.out, H4.out⟩)
            · obtain rfl := eq_empty_of_size s' hs
              clear hs
              cases o' <;> (
                go_wp2_with fail
                refine Calls.mono (HT2.out _ _ H2.out) ?_
                rintro e w3 ⟨rfl, H3⟩
                go_wp2_with fail
                refine Calls.mono (HY2.out _ _ _ H3.out) ?_
                rintro e w4 ⟨rfl, H4⟩
                go_wp2_with fail
                go_meet
                exact ⟨L, h', r', rfl, HP2.out, H4.out⟩)
          · have q1 : (kd == 1) = false := by simpa using k1
            clear HT HY
            by_cases k2 : kd = 2
            · subst k2
              have hp := HP.out.got L
              obtain ⟨⟨h', o⟩, e1⟩ : ∃ y, gotH h L = y := ⟨_, rfl⟩
              obtain ⟨⟨r', o'⟩, e2⟩ : ∃ y, rgot r L = y := ⟨_, rfl⟩
              rw [e1, e2] at hp
              obtain ⟨hp1, hp2⟩ := hp
              simp only at hp1
              subst hp1
              have HP2 := hid hp2
              have HT2 := hid (fun W ts H => HG.out W g h ts L h' o' H HF.out e1)
              have HY2 := hid (fun W t ts H => HX.out W g2 r t ts L r' o' H HR.out e2)
              clear HG HX e1 e2 hp2 HF HR HP
              cases o' <;> (
                go_wp2_with fail
                refine Calls.mono (HT2.out _ _ H2.out) ?_
                rintro e w3 ⟨rfl, H3⟩
                go_wp2_with fail
                refine Calls.mono (HY2.out _ _ _ H3.out) ?_
                rintro e w4 ⟨rfl, H4⟩
                go_wp2_with fail
                go_meet
                exact ⟨L, h', r', rfl, HP2.out, H4.out⟩)
            · have q2 : (kd == 2) = false := by simpa using k2
              by_cases k3 : kd = 3
              · subst k3
                have hp := HP.out.got x
                obtain ⟨⟨h', o⟩, e1⟩ : ∃ y, gotH h x = y := ⟨_, rfl⟩
                obtain ⟨⟨r', o'⟩, e2⟩ : ∃ y, rgot r x = y := ⟨_, rfl⟩
                rw [e1, e2] at hp
                obtain ⟨hp1, hp2⟩ := hp
                simp only at hp1
                subst hp1
                have HP2 := hid hp2
                have HT2 := hid (fun W ts H => HG.out W g h ts x h' o' H HF.out e1)
                have HY2 := hid (fun W t ts H => HX.out W g2 r t ts x r' o' H HR.out e2)
                clear HG HX e1 e2 hp2 HF HR HP
                cases o' <;> (
                  go_wp2_with fail
                  go_region_law (first | (go_simp; go_at_call 11; refine Calls.mono (HT2.out _ _ (by first | exact H2.out | exact H2.out.quiet (Keeps.refl _ _).drew)) ?_; rintro e w3 ⟨rfl, H3⟩; obtain ⟨f0, f1⟩ := H3.out.op) | (go_simp; go_at_call 15; refine Calls.mono (HY2.out _ _ _ (by first | exact H3.out | exact H3.out.quiet (Keeps.refl _ _).drew)) ?_; rintro e w4 ⟨rfl, H4⟩))
                  all_goals
                    go_wp2_with fail
                    go_meet
                    exact ⟨L, h', r', rfl, HP2.out, H4.out⟩)
              · have q3 : (kd == 3) = false := by simpa using k3
                clear HG HX
                have HP2 := hid (HP.out.mono (Nat.le_succ j))
                go_wp2_with fail
                go_meet
                exact ⟨L, h, r, rfl, HP2.out, H2.out⟩
        case rest =>
          obtain ⟨L', h', r', rfl, H5⟩ := hcut
          clear HT HG HY HX H2 HP HF HR c0 c1
          have H6 := hid H5.out.2
          have HP := hid H5.out.1
          have hO := hid (fun m => HW.out (_ : World) g h' [rhT g2 r', opT wr.heap.size kd x] (H6.out.quiet ((Keeps.refl _ _).drewN m)) HP.out.every1)
          have hH := hid (fun m => HS.out (_ : World) g h' [rhT g2 r', opT wr.heap.size kd x] (H6.out.quiet ((Keeps.refl _ _).drewN m)) HP.out.every1)
          obtain ⟨_, _, d2, _, d4, _, df⟩ := H6.out.rh.cells
          have hs := HP.out.sent
          have hfew := HP.out.few
          have hnn := HP.out.n
          have hun := HP.out.under
          rw [hs] at d4
          clear HW HS hs
          generalize h'.sent = q at *
          have hq : q ≤ 400 := by omega
          generalize hw : h'.waits = v at *
          cases v with
          | false =>
            have hn0 : r'.n = 0 := by simpa using hnn
            rw [hn0] at d2
            clear hn0 hnn hun hfew hw
            go_wp2_with fail
            go_quiet (first | (go_at_call 12; exact Calls.quiet_of_same (hO.out _)) | (go_at_call 13; exact Calls.quiet_of_same (hH.out _)))
            go_wp2
            have hk := HK.out
            go_roundg (gk - 1)
            case measure => omega
            case rel => exact ⟨j + 1, L', h', r', rfl, by simp, by omega, H5.out.1, (H6.out.quiet ((Keeps.refl _ _).drewN _)).sub (by simp)⟩
          | true =>
            have hn0 : r'.n = q := by simpa using hnn
            have hq1 : 0 < q := hun rfl
            rw [hn0] at d2
            clear hn0 hnn hun hfew hw
            go_wp2_with fail
            go_quiet (first | (go_at_call 12; exact Calls.quiet_of_same (hO.out _)) | (go_at_call 13; exact Calls.quiet_of_same (hH.out _)))
            go_wp2
            have hk := HK.out
            go_roundg (gk - 1)
            case measure => omega
            case rel => exact ⟨j + 1, L', h', r', rfl, by simp, by omega, H5.out.1, (H6.out.quiet ((Keeps.refl _ _).drewN _)).sub (by simp)⟩
    · clear HT HG HY HX HW HS hk
      go_wp2
      go_ret
      exact ⟨rfl, HJ.out.2.below⟩
theorem plays_true (m n : Int) (a : Option Addr) (cap : Nat) (l : List Doing) (w : World) (_ : -9223372036854775808 ≤ m) (hm : m ≤ 9223372036854775807) (_ : -9223372036854775808 ≤ n) (hn : n ≤ 9223372036854775807) (h : Ops w a l) : Calls Try.prog 3 #[.int .i64 m, .int .i64 n, .slice a l.length cap] w (Fine w) := by
  by_cases ho : 300 < l.length
  · exact plays_off m n a _ cap w ho h.2.1
  · by_cases h1 : m < 1 ∨ n < 1
    · exact plays_none m n a _ cap w (by omega) h1
    · obtain ⟨m, rfl⟩ := Int.eq_ofNat_of_zero_le (show 0 ≤ m by omega)
      obtain ⟨n, rfl⟩ := Int.eq_ofNat_of_zero_le (show 0 ≤ n by omega)
      obtain ⟨b, off, ha, hC⟩ := h.at
      exact plays_main m n a b off cap l w (by omega) (by omega) (by omega) (by omega) (by omega) ha hC h.2.2
end Go.Proofs.Ytfgbijhmhanpeaa
