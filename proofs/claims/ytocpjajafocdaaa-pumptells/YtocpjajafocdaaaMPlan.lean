/-
  Package pump: Plan.
-/
import Derived.Test.YtocpjajafocdaaaMCode
import Derived.BigRegion
import Derived.BigQuiet
namespace Go.Proofs.Ytocpjajafocdaaa
open Go.RowKit

theorem hold_pt {W w : World} {ts : List Thing} {g : Nat} {i pl pd : Int} {f : Bool} (h : Hold W w ts) (hm : ptT g i pl pd f ∈ ts) : w.cell? ⟨g, 0, none⟩ = some (.int .i64 i) ∧ w.cell? ⟨g, 1, none⟩ = some (.int .i64 pl) ∧ w.cell? ⟨g, 2, none⟩ = some (.int .i64 pd) ∧ w.cell? ⟨g, 3, none⟩ = some (.bool f) ∧ w.frozen? ⟨g, 1, none⟩ = false ∧ w.frozen? ⟨g, 2, none⟩ = false := by
  obtain ⟨h1, h2, _⟩ := h.cellsOf hm
  exact ⟨h1 0, h1 1, h1 2, h1 3, h2 1, h2 2⟩
/-- What is left of a part when n bytes of it went. -/
theorem hold_took {W w : World} {t : Thing} {g : Nat} {i pl pd : Int} {f : Bool} (h : Hold W w [t, ptT g i pl pd f]) (a b : Int) : Hold W ((w.setCell ⟨g, 1, none⟩ (.int .i64 a)).setCell ⟨g, 2, none⟩ (.int .i64 b)) [t, ptT g i a b f] :=
  Hold.recset (a := [t]) (b := []) (Hold.recset (a := [t]) (b := []) h 1 (.int .i64 a)) 2 (.int .i64 b)
theorem end_yes (p : Pt) (h1 : p.pend = 0) (h2 : p.fin = true) : endL p = [⟨p.id, 0, true⟩] := by
  unfold endL
  rw [if_pos ⟨h1, h2⟩]
theorem end_no (p : Pt) (h : ¬ (p.pend = 0 ∧ p.fin = true)) : endL p = [] := by
  unfold endL
  rw [if_neg h]
attribute [local irreducible] goL planL goes leastI endL sumL

set_option maxRecDepth 100000 in
set_option maxHeartbeats 4000000 in
theorem plan_row {w : World} {a : Option Addr} (left most : Int) (cap : Nat) {l : List Pt} {S : Nat → Prop} (h : ptR.Lies w a l S) (hl : l.length ≤ 1000) (hp : ∀ p ∈ l, Fit p) (hleft : left ≤ 9223372036854775807) :
    Calls Try.prog 11 #[.int .i64 left, .int .i64 most, .slice a l.length cap] w fun e w' => ∃ x n c, e = .returned (.slice x n c) ∧ Hid (n = (planL most left l).length ∧ Hold w w' [slT x n c (planL most left l)]) := by
  obtain ⟨b, off, ha, hA⟩ := lies_atP (h.mono (S' := nobody) fun _ _ e => e.elim)
  have HC := hid hA
  have HA := hid ha
  have HP := hid hp
  have HL : Hid (∀ lf i pl pd f W, Calls Try.prog 13 #[.int .i64 lf, .int .i64 most, .agg #[.int .i64 i, .int .i64 pl, .int .i64 pd, .bool f]] W fun e w' => e = .returned (.int .i64 (leastI lf most pl pd)) ∧ Keeps nobody W w') := fun lf i pl pd f W => least_ok lf most ⟨i, pl, pd, f⟩ W
  have HF : Hid ((planL most left l).length ≤ 4001000) := by
    have := plan_few most left l fun p hp' => (hp p hp').2
    show _ ≤ _
    omega
  have HD := hid fun lf j p => plan_drop most lf l j p
  have h0 : planL most left (l.drop 0) = planL most left l := by rw [List.drop_zero]
  have HZ := hid h0
  clear h hA ha hp h0
  generalize planL most left l = G at *
  go_enter Try.func11, Try.ntmps11
  go_wp2
  go_loopg [0, 7, 13] l.length (fun k lv tv iv wr => ∃ (j : Nat) (lf : Int) (T : List Sl) (x : Option Addr) (n c : Nat), lv = .int .i64 lf ∧ tv = .slice x n c ∧ iv = .int .i64 (j : Int) ∧ k + j = l.length ∧ Hid (T ++ planL most lf (l.drop j) = G ∧ lf ≤ 9223372036854775807 ∧ n = T.length ∧ Hold w wr [slT x n c T]))
  case atStart => exact ⟨0, left, [], none, 0, 0, rfl, rfl, rfl, by omega, hid ⟨by rw [HZ.out]; rfl, hleft, rfl, Recs.newrow (hold_start w) _⟩⟩
  case round =>
    obtain ⟨j, lf, T, x, n, c, rfl, rfl, rfl, hk, HJ⟩ := hrel
    by_cases hj : j < l.length
    · obtain rfl : a = some ⟨b, off, none⟩ := by
        rcases HA.out with h | h
        · rw [h] at hj; simp at hj
        · exact h
      obtain ⟨⟨i, pl, pd, f⟩, hx⟩ : ∃ x, l[j]? = some x := ⟨_, List.getElem?_eq_getElem hj⟩
      obtain ⟨c0, c1, c2, c3⟩ := HC.out wr (keeps_of_below HJ.out.2.2.2.below) j _ hx
      have hfit := HP.out _ (List.mem_of_getElem? hx)
      have HG := hid (HD.out lf j _ hx)
      have HT := hid HJ.out.1
      have HN := hid HJ.out.2.2.1
      have hlf := HJ.out.2.1
      have H2 := hid (HJ.out.2.2.2.newrec2 #[.int .i64 i, .int .i64 pl, .int .i64 pd, .bool f] 26)
      have hpl : pl ≤ 9223372036854775807 := hfit.1
      have hpd : pd ≤ 4000 := hfit.2
      have HK := hid hk
      simp only at c0 c1 c2 c3
      have HTl : Hid (T.length ≤ 4001000) := by
        have := HF.out
        rw [← HT.out, List.length_append] at this
        show _ ≤ _
        omega
      clear HJ hfit hk hx HC HD HZ HP
      by_cases hE : pd = 0 ∧ f = true
      · obtain ⟨rfl, rfl⟩ := hE
        have HG2 : Hid ((T ++ [⟨i, 0, true⟩]) ++ planL most lf (l.drop (j + 1)) = G) := by
          have e1 := HG.out
          simp only at e1
          rw [end_yes ⟨i, pl, 0, true⟩ rfl rfl, (go_zero most i true lf pl 0 (.inl rfl)).1, (go_zero most i true lf pl 0 (.inl rfl)).2, Int.sub_zero] at e1
          rw [← HT.out, e1]
          exact hid (by simp)
        obtain ⟨xa, na, ca, w4, a1, a2⟩ := sl_app (ts := []) H2.out (by have := HTl.out; omega) ⟨i, 0, true⟩
        have hsz : (wr.alloc (.cells #[.int .i64 i, .int .i64 pl, .int .i64 0, .bool true] 26)).heap.size = wr.heap.size + 1 := by simp
        rw [hsz] at a1
        have RA := hid a1
        have HL2 : Hid (∀ W, Calls Try.prog 13 #[.int .i64 lf, .int .i64 most, .agg #[.int .i64 i, .int .i64 pl, .int .i64 0, .bool true]] W fun e w' => e = .returned (.int .i64 (leastI lf most pl 0)) ∧ Keeps nobody W w') := fun W => HL.out lf i pl 0 true W
        have hno : ¬ 0 < leastI lf most pl 0 := by rw [least_pos]; omega
        obtain ⟨d0, d1, d2, d3, _, _⟩ := hold_pt (g := wr.heap.size) (i := i) (pl := pl) (pd := 0) (f := true) a2.out.2 (by simp)
        clear a1 hsz HG HT HN HL H2
        generalize leastI lf most pl 0 = nn at *
        go_wp2_with (at_builtin; refine wpList_append_run rfl _ _ 31 31 rfl (.slice x n c) (.slice (some ⟨wr.heap.size + 1, 0, none⟩) 1 1) rfl rfl RA.out ?_)
        go_wp2_with fail
        refine Calls.mono (HL2.out _) ?_
        rintro e w5 ⟨rfl, k5⟩
        obtain ⟨wo, hwo⟩ : ∃ wo : World, wo = wr := ⟨_, rfl⟩
        subst hwo
        obtain ⟨go, hgo⟩ : ∃ go : Nat, go = gk := ⟨_, rfl⟩
        subst hgo
        go_wp2
        go_loopg [0, 7, 10] 0 (fun k lv tv nv wi => lv = .int .i64 lf ∧ tv = .slice xa na ca ∧ nv = .int .i64 nn ∧ wi = w5)
        case atStart => exact ⟨rfl, rfl, rfl, rfl⟩
        case round =>
          obtain ⟨rfl, rfl, rfl, rfl⟩ := hrel
          go_wp2
          have hk := HK.out
          go_roundg (go - 1)
          case measure => omega
          case rel => exact ⟨j + 1, lf, T ++ [⟨i, 0, true⟩], xa, na, ca, rfl, rfl, by simp, by omega, hid ⟨HG2.out, hlf, a2.out.1, (a2.out.2.sub (a := [slT xa na ca (T ++ [⟨i, 0, true⟩])]) (by simp)).quiet k5⟩⟩
      · have HG2 : Hid ((T ++ goL most i f lf pl pd) ++ planL most (lf - goes most lf pl pd) (l.drop (j + 1)) = G) := by
          have e1 := HG.out
          simp only at e1
          rw [end_no ⟨i, pl, pd, f⟩ hE, List.nil_append] at e1
          rw [← HT.out, e1]
          exact hid (by simp)
        have HL2 : Hid (∀ W, Calls Try.prog 13 #[.int .i64 lf, .int .i64 most, .agg #[.int .i64 i, .int .i64 pl, .int .i64 pd, .bool f]] W fun e w' => e = .returned (.int .i64 (leastI lf most pl pd)) ∧ Keeps nobody W w') := fun W => HL.out lf i pl pd f W
        have HN2 : Hid (leastI lf most pl pd = leastI lf most pl pd) := rfl
        obtain ⟨nn, hnn⟩ : ∃ nn, nn = leastI lf most pl pd := ⟨_, rfl⟩
        rw [← hnn] at HL2
        have hE2 : (if pd == 0 then f else false) = false := by
          by_cases h1 : pd = 0
          · subst h1
            cases f with
            | true => exact (hE ⟨rfl, rfl⟩).elim
            | false => rfl
          · rw [if_neg (by simpa using h1)]
        have HX : Hid (leastI lf most pl pd = nn ∧ Hold w (wr.alloc (.cells #[.int .i64 i, .int .i64 pl, .int .i64 pd, .bool f] 26)) [slT x n c T, ptT wr.heap.size i pl pd f]) := ⟨hnn.symm, H2.out⟩
        clear hnn HG HT H2 HN2
        obtain ⟨FF, hFF⟩ : ∃ FF, FF = T ++ goL most i f lf pl pd := ⟨_, rfl⟩
        obtain ⟨RR, hRR⟩ : ∃ RR, RR = lf - goes most lf pl pd := ⟨_, rfl⟩
        rw [← hFF, ← hRR] at HG2
        have HY := hid (And.intro hFF hRR)
        clear hFF hRR
        by_cases h1 : pd = 0
        · subst h1
          have hf : f = false := by
            cases f with
            | true => exact (hE ⟨rfl, rfl⟩).elim
            | false => rfl
          subst hf
          have hno : ¬ 0 < nn := by rw [← HX.out.1, least_pos]; omega
          have HE1 : Hid (T ++ planL most lf (l.drop (j + 1)) = G) := by
            have e := HG2.out
            rw [HY.out.1, HY.out.2, (go_zero most i false lf pl 0 (.inl rfl)).1, (go_zero most i false lf pl 0 (.inl rfl)).2, Int.sub_zero, List.append_nil] at e
            exact hid e
          clear hE hE2 HG2 HY HL HTl
          go_wp2_with fail
          refine Calls.mono (HL2.out _) ?_
          rintro e w5 ⟨rfl, k5⟩
          obtain ⟨wo, hwo⟩ : ∃ wo : World, wo = wr := ⟨_, rfl⟩
          subst hwo
          obtain ⟨go, hgo⟩ : ∃ go : Nat, go = gk := ⟨_, rfl⟩
          subst hgo
          go_wp2
          go_loopg [0, 7, 10] 0 (fun k lv tv nv wi => lv = .int .i64 lf ∧ tv = .slice x n c ∧ nv = .int .i64 nn ∧ wi = w5)
          case atStart => exact ⟨rfl, rfl, rfl, rfl⟩
          case round =>
            obtain ⟨rfl, rfl, rfl, rfl⟩ := hrel
            go_wp2
            have hk := HK.out
            go_roundg (go - 1)
            case measure => omega
            case rel => exact ⟨j + 1, lf, T, x, n, c, rfl, rfl, by simp, by omega, hid ⟨HE1.out, hlf, HN.out, (HX.out.2.sub (a := [slT x n c T]) (by simp)).quiet k5⟩⟩
        · have q1 : (pd == 0) = false := by simpa using h1
          clear hE hE2 h1
          go_wp2_with fail
          refine Calls.mono (HL2.out _) ?_
          rintro e w5 ⟨rfl, k5⟩
          obtain ⟨wo, hwo⟩ : ∃ wo : World, wo = wr := ⟨_, rfl⟩
          subst hwo
          obtain ⟨go, hgo⟩ : ∃ go : Nat, go = gk := ⟨_, rfl⟩
          subst hgo
          go_wp2
          go_loopg [0, 7, 10] pd.toNat (fun k lv tv nv wi => ∃ (lf pl pd nn : Int) (T : List Sl) (x : Option Addr) (n c : Nat), lv = .int .i64 lf ∧ tv = .slice x n c ∧ nv = .int .i64 nn ∧ k = pd.toNat ∧ Hid (leastI lf most pl pd = nn ∧ T ++ goL most i f lf pl pd = FF ∧ lf - goes most lf pl pd = RR ∧ lf ≤ 9223372036854775807 ∧ pl ≤ 9223372036854775807 ∧ pd ≤ 4000 ∧ n = T.length ∧ Hold w wi [slT x n c T, ptT wo.heap.size i pl pd f]))
          case atStart => exact ⟨lf, pl, pd, nn, T, x, n, c, rfl, rfl, rfl, rfl, hid ⟨HX.out.1, HY.out.1.symm, HY.out.2.symm, hlf, hpl, hpd, HN.out, HX.out.2.quiet k5⟩⟩
          case round =>
            clear HX
            obtain ⟨lf2, pl2, pd2, nn2, T2, x2, n2, cc2, rfl, rfl, rfl, hk2, HJ⟩ := hrel
            by_cases hpos : 0 < nn2
            · have hle := least_le lf2 most pl2 pd2
              rw [HJ.out.1] at hle
              obtain ⟨l1, l2, l3, l4⟩ := hle
              have g1 := HJ.out.2.2.2.1
              have g2 := HJ.out.2.2.2.2.1
              have g3 := HJ.out.2.2.2.2.2.1
              obtain ⟨d0, d1, d2, d3, d4, d5⟩ := hold_pt (g := wo.heap.size) (i := i) (pl := pl2) (pd := pd2) (f := f) HJ.out.2.2.2.2.2.2.2 (by simp)
              have HK2 := hid hk2
              clear hk2
              go_wp2
              go_region
              all_goals
                have HWW := hid ((hold_took HJ.out.2.2.2.2.2.2.2 (pl2 - nn2) (pd2 - nn2)).quiet (Keeps.refl _ _).drew)
                have HS : Hid (T2 ++ (⟨i, nn2, f && decide (pd2 - nn2 = 0)⟩ :: goL most i f (lf2 - nn2) (pl2 - nn2) (pd2 - nn2)) = FF) := by
                  have e := HJ.out.2.1
                  rw [go_step most i f lf2 pl2 pd2 nn2 HJ.out.1 hpos] at e
                  exact hid e
                have HR : Hid (lf2 - nn2 - goes most (lf2 - nn2) (pl2 - nn2) (pd2 - nn2) = RR) := by
                  have e := HJ.out.2.2.1
                  rw [goes_step most lf2 pl2 pd2 nn2 HJ.out.1 hpos] at e
                  exact hid e
                have HTb : Hid (T2.length ≤ 4001000) := by
                  have e1 := HF.out
                  rw [← HG2.out, ← HJ.out.2.1, List.length_append, List.length_append] at e1
                  show _ ≤ _
                  omega
                clear HJ d0 d1 d2 d3 d4 d5
                generalize (((wr.setCell { block := wo.heap.size, off := 1 } (Value.int IntKind.i64 (pl2 - nn2))).setCell { block := wo.heap.size, off := 2 } (Value.int IntKind.i64 (pd2 - nn2))).drew) = W6 at *
                have HW := HWW
                obtain ⟨d0, d1, d2, d3, _, _⟩ := hold_pt (g := wo.heap.size) (i := i) (pl := pl2 - nn2) (pd := pd2 - nn2) (f := f) HW.out (by simp)
                cases f with
                | false =>
                  obtain ⟨xb, nb, cb, w8, a1, a2⟩ := sl_app (ts := []) HW.out (by have := HTb.out; omega) ⟨i, nn2, false⟩
                  have RA := hid a1
                  obtain ⟨d0, d1, d2, d3, _, _⟩ := hold_pt (g := wo.heap.size) (i := i) (pl := pl2 - nn2) (pd := pd2 - nn2) (f := false) a2.out.2 (by simp)
                  have HS2 : Hid (T2 ++ [⟨i, nn2, false⟩] ++ goL most i false (lf2 - nn2) (pl2 - nn2) (pd2 - nn2) = FF) := by
                    have e := HS.out
                    rw [Bool.false_and] at e
                    rw [List.append_assoc]
                    exact hid e
                  clear a1 HS
                  go_wp2_with (at_builtin; refine wpList_append_run rfl _ _ 31 31 rfl (.slice x2 n2 cc2) (.slice (some ⟨W6.heap.size, 0, none⟩) 1 1) rfl rfl RA.out ?_)
                  go_wp2_with fail
                  refine Calls.mono (HL.out _ _ _ _ _ _) ?_
                  rintro e w9 ⟨rfl, k9⟩
                  go_wp2
                  have hk2 := HK2.out
                  go_roundg ((pd2 - nn2).toNat)
                  case measure => omega
                  case rel => exact ⟨lf2 - nn2, pl2 - nn2, pd2 - nn2, _, _, xb, nb, cb, rfl, rfl, rfl, rfl, hid ⟨rfl, HS2.out, HR.out, by omega, by omega, by omega, a2.out.1, a2.out.2.quiet k9⟩⟩
                | true =>
                  by_cases hz : pd2 - nn2 = 0
                  · have q2 : (pd2 - nn2 == 0) = true := by simpa using hz
                    obtain ⟨xb, nb, cb, w8, a1, a2⟩ := sl_app (ts := []) HW.out (by have := HTb.out; omega) ⟨i, nn2, true⟩
                    have RA := hid a1
                    obtain ⟨d0, d1, d2, d3, _, _⟩ := hold_pt (g := wo.heap.size) (i := i) (pl := pl2 - nn2) (pd := pd2 - nn2) (f := true) a2.out.2 (by simp)
                    have HS2 : Hid (T2 ++ [⟨i, nn2, true⟩] ++ goL most i true (lf2 - nn2) (pl2 - nn2) (pd2 - nn2) = FF) := by
                      have e := HS.out
                      rw [decide_eq_true hz, Bool.true_and] at e
                      rw [List.append_assoc]
                      exact hid e
                    clear a1 HS
                    go_wp2_with (at_builtin; refine wpList_append_run rfl _ _ 31 31 rfl (.slice x2 n2 cc2) (.slice (some ⟨W6.heap.size, 0, none⟩) 1 1) rfl rfl RA.out ?_)
                    go_wp2_with fail
                    refine Calls.mono (HL.out _ _ _ _ _ _) ?_
                    rintro e w9 ⟨rfl, k9⟩
                    go_wp2
                    have hk2 := HK2.out
                    go_roundg ((pd2 - nn2).toNat)
                    case measure => omega
                    case rel => exact ⟨lf2 - nn2, pl2 - nn2, pd2 - nn2, _, _, xb, nb, cb, rfl, rfl, rfl, rfl, hid ⟨by rw [hz], HS2.out, HR.out, by omega, by omega, by omega, a2.out.1, a2.out.2.quiet k9⟩⟩
                  · have q2 : (pd2 - nn2 == 0) = false := by simpa using hz
                    obtain ⟨xb, nb, cb, w8, a1, a2⟩ := sl_app (ts := []) HW.out (by have := HTb.out; omega) ⟨i, nn2, false⟩
                    have RA := hid a1
                    obtain ⟨d0, d1, d2, d3, _, _⟩ := hold_pt (g := wo.heap.size) (i := i) (pl := pl2 - nn2) (pd := pd2 - nn2) (f := true) a2.out.2 (by simp)
                    have HS2 : Hid (T2 ++ [⟨i, nn2, false⟩] ++ goL most i true (lf2 - nn2) (pl2 - nn2) (pd2 - nn2) = FF) := by
                      have e := HS.out
                      rw [decide_eq_false hz, Bool.and_false] at e
                      rw [List.append_assoc]
                      exact hid e
                    clear a1 HS
                    go_wp2_with (at_builtin; refine wpList_append_run rfl _ _ 31 31 rfl (.slice x2 n2 cc2) (.slice (some ⟨W6.heap.size, 0, none⟩) 1 1) rfl rfl RA.out ?_)
                    go_wp2_with fail
                    refine Calls.mono (HL.out _ _ _ _ _ _) ?_
                    rintro e w9 ⟨rfl, k9⟩
                    go_wp2
                    have hk2 := HK2.out
                    go_roundg ((pd2 - nn2).toNat)
                    case measure => omega
                    case rel => exact ⟨lf2 - nn2, pl2 - nn2, pd2 - nn2, _, _, xb, nb, cb, rfl, rfl, rfl, rfl, hid ⟨rfl, HS2.out, HR.out, by omega, by omega, by omega, a2.out.1, a2.out.2.quiet k9⟩⟩
            · have hno : ¬ 0 < leastI lf2 most pl2 pd2 := by rw [HJ.out.1]; exact hpos
              have HE1 : Hid (T2 = FF ∧ lf2 = RR) := by
                have e1 := HJ.out.2.1
                have e2 := HJ.out.2.2.1
                rw [go_none _ _ _ _ _ _ hno, List.append_nil] at e1
                rw [goes_none _ _ _ _ hno, Int.sub_zero] at e2
                exact ⟨e1, e2⟩
              have g1 := HJ.out.2.2.2.1
              clear HL HL2
              go_wp2
              have hk := HK.out
              go_roundg (go - 1)
              case measure => omega
              case rel => exact ⟨j + 1, lf2, T2, x2, n2, cc2, rfl, rfl, by simp, by omega, hid ⟨by rw [HE1.out.1, HE1.out.2]; exact HG2.out, g1, HJ.out.2.2.2.2.2.2.1, HJ.out.2.2.2.2.2.2.2.sub (by simp)⟩⟩
    · obtain rfl : j = l.length := by omega
      have HJ1 : Hid (n = G.length ∧ Hold w wr [slT x n c G]) := by
        have e := HJ.out.1
        rw [List.drop_length] at e
        have e2 : T = G := by rw [← e]; unfold planL; simp
        rw [← e2]
        exact hid HJ.out.2.2
      clear HJ HC HD HZ HP HL
      go_wp2
      go_ret
      exact ⟨x, n, c, rfl, HJ1⟩
theorem plan_ok {w : World} {a : Option Addr} (left most : Int) (cap : Nat) {l : List Pt} {S : Nat → Prop} (h : ptR.Lies w a l S) (hl : l.length ≤ 1000) (hp : ∀ p ∈ l, Fit p) (hleft : left ≤ 9223372036854775807) :
    Calls Try.prog 11 #[.int .i64 left, .int .i64 most, .slice a l.length cap] w fun e w' => ∃ x c, e = .returned (.slice x (planL most left l).length c) ∧ Hid (Hold w w' [slT x (planL most left l).length c (planL most left l)]) := by
  refine (plan_row left most cap h hl hp hleft).mono ?_
  rintro e w' ⟨x, n, c, rfl, h⟩
  obtain ⟨rfl, h2⟩ := h.out
  exact ⟨x, c, rfl, h2⟩
end Go.Proofs.Ytocpjajafocdaaa
