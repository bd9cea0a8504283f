/-
  The reference's Plan.
-/
import Derived.Test.YtocpjajafocdaaaMPlan
namespace Go.Proofs.Ytocpjajafocdaaa
open Go.RowKit

theorem hold_rp {W w : World} {ts : List Thing} {g : Nat} {i pl pd : Int} {f : Bool} (h : Hold W w ts) (hm : rpT g i pl pd f ∈ ts) : w.cell? ⟨g, 0, none⟩ = some (.int .i64 i) ∧ w.cell? ⟨g, 1, none⟩ = some (.int .i64 pl) ∧ w.cell? ⟨g, 2, none⟩ = some (.int .i64 pd) ∧ w.cell? ⟨g, 3, none⟩ = some (.bool f) ∧ w.frozen? ⟨g, 1, none⟩ = false ∧ w.frozen? ⟨g, 2, none⟩ = false := by
  obtain ⟨h1, h2, _⟩ := h.cellsOf hm
  exact ⟨h1 0, h1 1, h1 2, h1 3, h2 1, h2 2⟩
theorem hold_rtook {W w : World} {t : Thing} {g : Nat} {i pl pd : Int} {f : Bool} (h : Hold W w [t, rpT g i pl pd f]) (a b : Int) : Hold W ((w.setCell ⟨g, 2, none⟩ (.int .i64 b)).setCell ⟨g, 1, none⟩ (.int .i64 a)) [t, rpT g i a b f] :=
  Hold.recset (a := [t]) (b := []) (Hold.recset (a := [t]) (b := []) h 2 (.int .i64 b)) 1 (.int .i64 a)
theorem min_least (left most pl pd : Int) (ts : Array TypeId) (t : TypeId) (W : World) : (Builtin.min_ ts t #[.int .i64 pd, .int .i64 pl, .int .i64 left, .int .i64 most]).run Try.prog W = .ok (.int .i64 (leastI left most pl pd)) W := min_four _ _ _ _ ts t W
attribute [local irreducible] goL planL goes leastI endL sumL

set_option maxRecDepth 100000 in
set_option maxHeartbeats 4000000 in
theorem rplan_row {w : World} {a : Option Addr} (left most : Int) (cap : Nat) {l : List Pt} {S : Nat → Prop} (h : ptR.Lies w a l S) (hl : l.length ≤ 1000) (hp : ∀ p ∈ l, Fit p) (hleft : left ≤ 9223372036854775807) :
    Calls Try.prog 10 #[.int .i64 left, .int .i64 most, .slice a l.length cap] w fun e w' => ∃ x n c, e = .returned (.slice x n c) ∧ Hid (n = (planL most left l).length ∧ Hold w w' [rsT x n c (planL most left l)]) := by
  obtain ⟨b, off, ha, hA⟩ := lies_atP (h.mono (S' := nobody) fun _ _ e => e.elim)
  have HC := hid hA
  have HA := hid ha
  have HP := hid hp
  have HF : Hid ((planL most left l).length ≤ 4001000) := by
    have := plan_few most left l fun p hp' => (hp p hp').2
    show _ ≤ _
    omega
  have HD := hid fun lf j p => plan_drop most lf l j p
  have h0 : planL most left (l.drop 0) = planL most left l := by rw [List.drop_zero]
  have HZ := hid h0
  clear h hA ha hp h0
  generalize planL most left l = G at *
  go_enter Try.func10, Try.ntmps10
  go_wp2
  go_loopg [0, 7, 8] l.length (fun k lv tv iv wr => ∃ (j : Nat) (lf : Int) (T : List Sl) (x : Option Addr) (n c : Nat), lv = .int .i64 lf ∧ tv = .slice x n c ∧ iv = .int .i64 (j : Int) ∧ k + j = l.length ∧ Hid (T ++ planL most lf (l.drop j) = G ∧ lf ≤ 9223372036854775807 ∧ n = T.length ∧ Hold w wr [rsT x n c T]))
  case atStart => exact ⟨0, left, [], none, 0, 0, rfl, rfl, rfl, by omega, hid ⟨by rw [HZ.out]; rfl, hleft, rfl, Recs.newrow (hold_start w) _⟩⟩
  case round =>
    obtain ⟨j, lf, T, x, n, c, rfl, rfl, rfl, hk, HJ⟩ := hrel
    by_cases hj : j < l.length
    · obtain rfl : a = some ⟨b, off, none⟩ := by
        rcases HA.out with h | h
        · rw [h] at hj; simp at hj
        · exact h
      obtain ⟨⟨i, pl, pd, f⟩, hx⟩ : ∃ x, l[j]? = some x := ⟨_, List.getElem?_eq_getElem hj⟩
      obtain ⟨c0, c1, c2, c3⟩ := HC.out wr (keeps_of_below HJ.out.2.2.2.below) j _ hx
      have hfit := HP.out _ (List.mem_of_getElem? hx)
      have HG := hid (HD.out lf j _ hx)
      have HT := hid HJ.out.1
      have HN := hid HJ.out.2.2.1
      have hlf := HJ.out.2.1
      have H2 := hid (HJ.out.2.2.2.newrec2 #[.int .i64 i, .int .i64 pl, .int .i64 pd, .bool f] 28)
      have hpl : pl ≤ 9223372036854775807 := hfit.1
      have hpd : pd ≤ 4000 := hfit.2
      have HK := hid hk
      simp only at c0 c1 c2 c3
      have HTl : Hid (T.length ≤ 4001000) := by
        have := HF.out
        rw [← HT.out, List.length_append] at this
        show _ ≤ _
        omega
      clear HJ hfit hk hx HC HD HZ HP
      by_cases hE : pd = 0 ∧ f = true
      · obtain ⟨rfl, rfl⟩ := hE
        have HG2 : Hid ((T ++ [⟨i, 0, true⟩]) ++ planL most lf (l.drop (j + 1)) = G) := by
          have e1 := HG.out
          simp only at e1
          rw [end_yes ⟨i, pl, 0, true⟩ rfl rfl, (go_zero most i true lf pl 0 (.inl rfl)).1, (go_zero most i true lf pl 0 (.inl rfl)).2, Int.sub_zero] at e1
          rw [← HT.out, e1]
          exact hid (by simp)
        obtain ⟨xa, na, ca, w4, a1, a2⟩ := rs_app (ts := []) H2.out (by have := HTl.out; omega) ⟨i, 0, true⟩
        have hsz : (wr.alloc (.cells #[.int .i64 i, .int .i64 pl, .int .i64 0, .bool true] 28)).heap.size = wr.heap.size + 1 := by simp
        rw [hsz] at a1
        have RA := hid a1
        clear a1 hsz HG HT HN H2
        go_wp2_with (at_builtin; refine wpList_append_run rfl _ _ 29 29 rfl (.slice x n c) (.slice (some ⟨wr.heap.size + 1, 0, none⟩) 1 1) rfl rfl RA.out ?_)
        go_wp2
        have hk := HK.out
        go_roundg (gk - 1)
        case measure => omega
        case rel => exact ⟨j + 1, lf, T ++ [⟨i, 0, true⟩], xa, na, ca, rfl, rfl, by simp, by omega, hid ⟨HG2.out, hlf, a2.out.1, a2.out.2.sub (a := [rsT xa na ca (T ++ [⟨i, 0, true⟩])]) (by simp)⟩⟩
      · have HG2 : Hid ((T ++ goL most i f lf pl pd) ++ planL most (lf - goes most lf pl pd) (l.drop (j + 1)) = G) := by
          have e1 := HG.out
          simp only at e1
          rw [end_no ⟨i, pl, pd, f⟩ hE, List.nil_append] at e1
          rw [← HT.out, e1]
          exact hid (by simp)
        have HX : Hid (Hold w (wr.alloc (.cells #[.int .i64 i, .int .i64 pl, .int .i64 pd, .bool f] 28)) [rsT x n c T, rpT wr.heap.size i pl pd f]) := H2.out
        clear HG HT H2
        obtain ⟨FF, hFF⟩ : ∃ FF, FF = T ++ goL most i f lf pl pd := ⟨_, rfl⟩
        obtain ⟨RR, hRR⟩ : ∃ RR, RR = lf - goes most lf pl pd := ⟨_, rfl⟩
        rw [← hFF, ← hRR] at HG2
        have HY := hid (And.intro hFF hRR)
        clear hFF hRR
        obtain ⟨wo, hwo⟩ : ∃ wo : World, wo = wr := ⟨_, rfl⟩
        subst hwo
        obtain ⟨go, hgo⟩ : ∃ go : Nat, go = gk := ⟨_, rfl⟩
        subst hgo
        cases f with
        | false =>
          clear hE
          go_wp2
          go_loopg [0, 7] pd.toNat (fun k lv tv wi => ∃ (lf pl pd : Int) (T : List Sl) (x : Option Addr) (n c : Nat), lv = .int .i64 lf ∧ tv = .slice x n c ∧ k = pd.toNat ∧ Hid (T ++ goL most i false lf pl pd = FF ∧ lf - goes most lf pl pd = RR ∧ lf ≤ 9223372036854775807 ∧ pl ≤ 9223372036854775807 ∧ pd ≤ 4000 ∧ n = T.length ∧ Hold w wi [rsT x n c T, rpT wo.heap.size i pl pd false]))
          case atStart => exact ⟨lf, pl, pd, T, x, n, c, rfl, rfl, rfl, hid ⟨HY.out.1.symm, HY.out.2.symm, hlf, hpl, hpd, HN.out, HX.out⟩⟩
          case round =>
            clear HX
            obtain ⟨lf2, pl2, pd2, T2, x2, n2, cc2, rfl, rfl, hk2, HJ⟩ := hrel
            have hm : ∀ ts t W, (Builtin.min_ ts t #[.int .i64 pd2, .int .i64 pl2, .int .i64 lf2, .int .i64 most]).run Try.prog W = .ok (.int .i64 (leastI lf2 most pl2 pd2)) W := min_least _ _ _ _
            obtain ⟨nn2, hnn⟩ : ∃ nn, leastI lf2 most pl2 pd2 = nn := ⟨_, rfl⟩
            rw [hnn] at hm
            have g1 := HJ.out.2.2.1
            have g2 := HJ.out.2.2.2.1
            have g3 := HJ.out.2.2.2.2.1
            obtain ⟨d0, d1, d2, d3, d4, d5⟩ := hold_rp (g := wo.heap.size) (i := i) (pl := pl2) (pd := pd2) (f := false) HJ.out.2.2.2.2.2.2 (by simp)
            have HK2 := hid hk2
            clear hk2
            by_cases hpos : 0 < nn2
            · have hle := least_le lf2 most pl2 pd2
              rw [hnn] at hle
              obtain ⟨l1, l2, l3, l4⟩ := hle
              have HWW := hid (hold_rtook HJ.out.2.2.2.2.2.2 (pl2 - nn2) (pd2 - nn2))
              have HS : Hid (T2 ++ (⟨i, nn2, false && decide (pd2 - nn2 = 0)⟩ :: goL most i false (lf2 - nn2) (pl2 - nn2) (pd2 - nn2)) = FF) := by
                have e := HJ.out.1
                rw [go_step most i false lf2 pl2 pd2 nn2 hnn hpos] at e
                exact hid e
              have HR : Hid (lf2 - nn2 - goes most (lf2 - nn2) (pl2 - nn2) (pd2 - nn2) = RR) := by
                have e := HJ.out.2.1
                rw [goes_step most lf2 pl2 pd2 nn2 hnn hpos] at e
                exact hid e
              have HTb : Hid (T2.length ≤ 4001000) := by
                have e1 := HF.out
                rw [← HG2.out, ← HJ.out.1, List.length_append, List.length_append] at e1
                show _ ≤ _
                omega
              clear HJ hnn
              obtain ⟨xb, nb, cb, w8, a1, a2⟩ := rs_app (ts := []) HWW.out (by have := HTb.out; omega) ⟨i, nn2, false⟩
              have hsz : ((wr.setCell ⟨wo.heap.size, 2, none⟩ (.int .i64 (pd2 - nn2))).setCell ⟨wo.heap.size, 1, none⟩ (.int .i64 (pl2 - nn2))).heap.size = wr.heap.size := by simp
              rw [hsz] at a1
              have RA := hid a1
              obtain ⟨x0, x1, xx, x3, _, _⟩ := hold_rp (g := wo.heap.size) (i := i) (pl := pl2 - nn2) (pd := pd2 - nn2) (f := false) HWW.out (by simp)
              have HS2 : Hid (T2 ++ [⟨i, nn2, false⟩] ++ goL most i false (lf2 - nn2) (pl2 - nn2) (pd2 - nn2) = FF) := by
                have e := HS.out
                rw [Bool.false_and] at e
                rw [List.append_assoc]
                exact hid e
              clear a1 HS hsz
              go_wp2_with (at_builtin; refine wpList_append_run rfl _ _ 29 29 rfl (.slice x2 n2 cc2) (.slice (some ⟨wr.heap.size, 0, none⟩) 1 1) rfl rfl RA.out ?_)
              go_wp2
              have hk2 := HK2.out
              go_roundg ((pd2 - nn2).toNat)
              case measure => omega
              case rel => exact ⟨lf2 - nn2, pl2 - nn2, pd2 - nn2, _, xb, nb, cb, rfl, rfl, rfl, hid ⟨HS2.out, HR.out, by omega, by omega, by omega, a2.out.1, a2.out.2⟩⟩
            · have hno : ¬ 0 < leastI lf2 most pl2 pd2 := by rw [hnn]; exact hpos
              have HE1 : Hid (T2 = FF ∧ lf2 = RR) := by
                have e1 := HJ.out.1
                have e2 := HJ.out.2.1
                rw [go_none _ _ _ _ _ _ hno, List.append_nil] at e1
                rw [goes_none _ _ _ _ hno, Int.sub_zero] at e2
                exact ⟨e1, e2⟩
              clear hnn hno
              go_wp2
              have hk := HK.out
              go_roundg (go - 1)
              case measure => omega
              case rel => exact ⟨j + 1, lf2, T2, x2, n2, cc2, rfl, rfl, by simp, by omega, hid ⟨by rw [HE1.out.1, HE1.out.2]; exact HG2.out, g1, HJ.out.2.2.2.2.2.1, HJ.out.2.2.2.2.2.2.sub (by simp)⟩⟩
        | true =>
          have q1 : (pd == 0) = false := by
            have : ¬ pd = 0 := fun e => hE ⟨e, rfl⟩
            simpa using this
          clear hE
          go_wp2
          go_loopg [0, 7] pd.toNat (fun k lv tv wi => ∃ (lf pl pd : Int) (T : List Sl) (x : Option Addr) (n c : Nat), lv = .int .i64 lf ∧ tv = .slice x n c ∧ k = pd.toNat ∧ Hid (T ++ goL most i true lf pl pd = FF ∧ lf - goes most lf pl pd = RR ∧ lf ≤ 9223372036854775807 ∧ pl ≤ 9223372036854775807 ∧ pd ≤ 4000 ∧ n = T.length ∧ Hold w wi [rsT x n c T, rpT wo.heap.size i pl pd true]))
          case atStart => exact ⟨lf, pl, pd, T, x, n, c, rfl, rfl, rfl, hid ⟨HY.out.1.symm, HY.out.2.symm, hlf, hpl, hpd, HN.out, HX.out⟩⟩
          case round =>
            clear HX
            obtain ⟨lf2, pl2, pd2, T2, x2, n2, cc2, rfl, rfl, hk2, HJ⟩ := hrel
            have hm : ∀ ts t W, (Builtin.min_ ts t #[.int .i64 pd2, .int .i64 pl2, .int .i64 lf2, .int .i64 most]).run Try.prog W = .ok (.int .i64 (leastI lf2 most pl2 pd2)) W := min_least _ _ _ _
            obtain ⟨nn2, hnn⟩ : ∃ nn, leastI lf2 most pl2 pd2 = nn := ⟨_, rfl⟩
            rw [hnn] at hm
            have g1 := HJ.out.2.2.1
            have g2 := HJ.out.2.2.2.1
            have g3 := HJ.out.2.2.2.2.1
            obtain ⟨d0, d1, d2, d3, d4, d5⟩ := hold_rp (g := wo.heap.size) (i := i) (pl := pl2) (pd := pd2) (f := true) HJ.out.2.2.2.2.2.2 (by simp)
            have HK2 := hid hk2
            clear hk2
            by_cases hpos : 0 < nn2
            · have hle := least_le lf2 most pl2 pd2
              rw [hnn] at hle
              obtain ⟨l1, l2, l3, l4⟩ := hle
              have HWW := hid (hold_rtook HJ.out.2.2.2.2.2.2 (pl2 - nn2) (pd2 - nn2))
              have HS : Hid (T2 ++ (⟨i, nn2, true && decide (pd2 - nn2 = 0)⟩ :: goL most i true (lf2 - nn2) (pl2 - nn2) (pd2 - nn2)) = FF) := by
                have e := HJ.out.1
                rw [go_step most i true lf2 pl2 pd2 nn2 hnn hpos] at e
                exact hid e
              have HR : Hid (lf2 - nn2 - goes most (lf2 - nn2) (pl2 - nn2) (pd2 - nn2) = RR) := by
                have e := HJ.out.2.1
                rw [goes_step most lf2 pl2 pd2 nn2 hnn hpos] at e
                exact hid e
              have HTb : Hid (T2.length ≤ 4001000) := by
                have e1 := HF.out
                rw [← HG2.out, ← HJ.out.1, List.length_append, List.length_append] at e1
                show _ ≤ _
                omega
              clear HJ hnn
              by_cases hz : pd2 - nn2 = 0
              · rw [hz] at HWW
                have HS : Hid (T2 ++ (⟨i, nn2, true⟩ :: goL most i true (lf2 - nn2) (pl2 - nn2) 0) = FF) := by
                  have e := HS.out
                  rw [decide_eq_true hz, Bool.true_and, hz] at e
                  exact hid e
                have HR : Hid (lf2 - nn2 - goes most (lf2 - nn2) (pl2 - nn2) 0 = RR) := by
                  have e := HR.out
                  rw [hz] at e
                  exact hid e
                have q2 : (pd2 - nn2 == 0) = true := by simpa using hz
                obtain ⟨xb, nb, cb, w8, a1, a2⟩ := rs_app (ts := []) HWW.out (by have := HTb.out; omega) ⟨i, nn2, true⟩
                have hsz : ((wr.setCell ⟨wo.heap.size, 2, none⟩ (.int .i64 (0))).setCell ⟨wo.heap.size, 1, none⟩ (.int .i64 (pl2 - nn2))).heap.size = wr.heap.size := by simp
                rw [hsz] at a1
                have RA := hid a1
                obtain ⟨x0, x1, xx, x3, _, _⟩ := hold_rp (g := wo.heap.size) (i := i) (pl := pl2 - nn2) (pd := 0) (f := true) HWW.out (by simp)
                have HS2 : Hid (T2 ++ [⟨i, nn2, true⟩] ++ goL most i true (lf2 - nn2) (pl2 - nn2) (0) = FF) := by
                  have e := HS.out
                  rw [List.append_assoc]
                  exact hid e
                clear a1 HS hsz
                go_wp2_with (at_builtin; refine wpList_append_run rfl _ _ 29 29 rfl (.slice x2 n2 cc2) (.slice (some ⟨wr.heap.size, 0, none⟩) 1 1) rfl rfl RA.out ?_)
                go_wp2
                have hk2 := HK2.out
                go_roundg (0)
                case measure => omega
                case rel => exact ⟨lf2 - nn2, pl2 - nn2, 0, _, xb, nb, cb, rfl, rfl, rfl, hid ⟨HS2.out, HR.out, by omega, by omega, by omega, a2.out.1, a2.out.2⟩⟩
              · have q2 : (pd2 - nn2 == 0) = false := by simpa using hz
                obtain ⟨xb, nb, cb, w8, a1, a2⟩ := rs_app (ts := []) HWW.out (by have := HTb.out; omega) ⟨i, nn2, false⟩
                have hsz : ((wr.setCell ⟨wo.heap.size, 2, none⟩ (.int .i64 (pd2 - nn2))).setCell ⟨wo.heap.size, 1, none⟩ (.int .i64 (pl2 - nn2))).heap.size = wr.heap.size := by simp
                rw [hsz] at a1
                have RA := hid a1
                obtain ⟨x0, x1, xx, x3, _, _⟩ := hold_rp (g := wo.heap.size) (i := i) (pl := pl2 - nn2) (pd := pd2 - nn2) (f := true) HWW.out (by simp)
                have HS2 : Hid (T2 ++ [⟨i, nn2, false⟩] ++ goL most i true (lf2 - nn2) (pl2 - nn2) (pd2 - nn2) = FF) := by
                  have e := HS.out
                  rw [decide_eq_false hz, Bool.and_false] at e
                  rw [List.append_assoc]
                  exact hid e
                clear a1 HS hsz
                go_wp2_with (at_builtin; refine wpList_append_run rfl _ _ 29 29 rfl (.slice x2 n2 cc2) (.slice (some ⟨wr.heap.size, 0, none⟩) 1 1) rfl rfl RA.out ?_)
                go_wp2
                have hk2 := HK2.out
                go_roundg ((pd2 - nn2).toNat)
                case measure => omega
                case rel => exact ⟨lf2 - nn2, pl2 - nn2, pd2 - nn2, _, xb, nb, cb, rfl, rfl, rfl, hid ⟨HS2.out, HR.out, by omega, by omega, by omega, a2.out.1, a2.out.2⟩⟩
            · have hno : ¬ 0 < leastI lf2 most pl2 pd2 := by rw [hnn]; exact hpos
              have HE1 : Hid (T2 = FF ∧ lf2 = RR) := by
                have e1 := HJ.out.1
                have e2 := HJ.out.2.1
                rw [go_none _ _ _ _ _ _ hno, List.append_nil] at e1
                rw [goes_none _ _ _ _ hno, Int.sub_zero] at e2
                exact ⟨e1, e2⟩
              clear hnn hno
              go_wp2
              have hk := HK.out
              go_roundg (go - 1)
              case measure => omega
              case rel => exact ⟨j + 1, lf2, T2, x2, n2, cc2, rfl, rfl, by simp, by omega, hid ⟨by rw [HE1.out.1, HE1.out.2]; exact HG2.out, g1, HJ.out.2.2.2.2.2.1, HJ.out.2.2.2.2.2.2.sub (by simp)⟩⟩
    · obtain rfl : j = l.length := by omega
      have HJ1 : Hid (n = G.length ∧ Hold w wr [rsT x n c G]) := by
        have e := HJ.out.1
        rw [List.drop_length] at e
        have e2 : T = G := by rw [← e]; unfold planL; simp
        rw [← e2]
        exact hid HJ.out.2.2
      clear HJ HC HD HZ HP
      go_wp2
      go_ret
      exact ⟨x, n, c, rfl, HJ1⟩
theorem rplan_ok {w : World} {a : Option Addr} (left most : Int) (cap : Nat) {l : List Pt} {S : Nat → Prop} (h : ptR.Lies w a l S) (hl : l.length ≤ 1000) (hp : ∀ p ∈ l, Fit p) (hleft : left ≤ 9223372036854775807) :
    Calls Try.prog 10 #[.int .i64 left, .int .i64 most, .slice a l.length cap] w fun e w' => ∃ x c, e = .returned (.slice x (planL most left l).length c) ∧ Hid (Hold w w' [rsT x (planL most left l).length c (planL most left l)]) := by
  refine (rplan_row left most cap h hl hp hleft).mono ?_
  rintro e w' ⟨x, n, c, rfl, h⟩
  obtain ⟨rfl, h2⟩ := h.out
  exact ⟨x, c, rfl, h2⟩
end Go.Proofs.Ytocpjajafocdaaa
