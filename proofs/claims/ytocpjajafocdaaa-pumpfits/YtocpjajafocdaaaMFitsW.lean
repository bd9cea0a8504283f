/-
  The law PumpFits as a walk.
-/
import Derived.Test.YtocpjajafocdaaaMFitsS
namespace Go.Proofs.Ytocpjajafocdaaa
open Go.RowKit
attribute [local irreducible] goL planL goes leastI endL sumL

set_option maxRecDepth 100000 in
theorem fits_heavy (left most : Int) (a : Option Addr) (cap : Nat) (l : List Pt) (w : World) (h : Partss w a l) (hL : ¬ LightL l) : Calls Try.prog 4 #[.int .i64 left, .int .i64 most, .slice a l.length cap] w (Fine w) := by
  have HA : Hid (∀ W, Calls Try.prog 9 #[] W fun e w' => e = .returned (.bool true) ∧ Keeps nobody W w') := alive_ok
  have HL := hid (light_no most cap h.1 h.2.1 hL)
  have hl := h.2.1
  clear h hL
  go_enter Try.func4, Try.ntmps4
  go_wp2_with fail
  refine Calls.mono HL.out ?_
  rintro e w1 ⟨rfl, k1⟩
  go_wp2_with fail
  refine Calls.mono (HA.out _) ?_
  rintro e w2 ⟨rfl, k2⟩
  go_wp2
  go_ret
  exact ⟨rfl, below_of_keeps (k1.then k2)⟩
set_option maxRecDepth 100000 in
set_option maxHeartbeats 8000000 in
theorem fits_main (left most : Int) (a : Option Addr) (cap : Nat) (l : List Pt) (w : World) (hl1 : -9223372036854775808 ≤ left) (hl2 : left ≤ 9223372036854775807) (h : Partss w a l) (hL : LightL l) : Calls Try.prog 4 #[.int .i64 left, .int .i64 most, .slice a l.length cap] w (Fine w) := by
  have HA : Hid (∀ W, Calls Try.prog 9 #[] W fun e w' => e = .returned (.bool true) ∧ Keeps nobody W w') := alive_ok
  have HL := hid (light_yes most cap h.1 h.2.1 hL)
  have HP : Hid (∀ W ts, Hold w W ts → Calls Try.prog 11 #[.int .i64 left, .int .i64 most, .slice a l.length cap] W fun e w' => ∃ x c, e = .returned (.slice x (planL most left l).length c) ∧ Hid (Hold w w' (slT x (planL most left l).length c (planL most left l) :: ts))) := fun W ts hh => t_plan hh left most cap (h.1.quiet (keeps_of_below hh.below)) hL h.2.2 hl2
  obtain ⟨b, off, ha, hA⟩ := lies_atP h.1
  have HC := hid hA
  have HI := hid ha
  have hl := hL.2
  have HQ := hid hL.1
  have hG := plan_small most left l hL
  have HD := hid fun rest j p => plan_drop most rest l j p
  have HZ : Hid (planL most left (l.drop 0) = planL most left l) := by rw [List.drop_zero]; rfl
  clear h hA ha hL
  generalize planL most left l = G at *
  have HB := hid (And.intro hl1 hl2)
  clear hl1 hl2
  go_enter Try.func4, Try.ntmps4
  go_wp2_with fail
  refine Calls.mono HL.out ?_
  rintro e w1 ⟨rfl, k1⟩
  go_wp2_with fail
  refine Calls.mono (HA.out _) ?_
  rintro e w2 ⟨rfl, k2⟩
  have H2 := hid (((hold_start w).quiet k1).quiet k2)
  clear k1 k2 HA HL
  go_wp2_with fail
  go_loopg [7] (l.length + 1) (fun k iv wr => ∃ (j : Nat), iv = .int .i64 ((j : Int) + 1) ∧ k + j = l.length + 1 ∧ Hid (Rises l j ∧ Hold w wr []))
  case atStart => exact ⟨0, rfl, by omega, hid ⟨fun x p q hx => by omega, H2.out⟩⟩
  case round =>
    clear H2
    obtain ⟨j, rfl, hk, HJ⟩ := hrel
    by_cases hj : j + 1 < l.length
    · obtain rfl : a = some ⟨b, off, none⟩ := by
        rcases HI.out with h | h
        · rw [h] at hj; simp at hj
        · exact h
      obtain ⟨⟨i, pl, pd, f⟩, hx⟩ : ∃ x, l[j]? = some x := ⟨_, List.getElem?_eq_getElem (by omega)⟩
      obtain ⟨⟨i2, pl2, pd2, f2⟩, hx2⟩ : ∃ x, l[j + 1]? = some x := ⟨_, List.getElem?_eq_getElem hj⟩
      have hc := HC.out _ (keeps_of_below HJ.out.2.below) j _ hx
      have hc2 := HC.out _ (keeps_of_below HJ.out.2.below) (j + 1) _ hx2
      have c0 := hc.1
      have d0 := hc2.1
      simp only at c0 d0
      have t1 : ((j : Int) + 1) < (l.length : Int) := by omega
      have t2 : (0 : Int) ≤ (j : Int) + 1 := by omega
      have HX := hid (And.intro hx hx2)
      have HK := hid hk
      clear hc hc2 hx hx2 hk HC HP HD HZ HQ
      by_cases q : i2 ≤ i
      · go_wp2_with fail
        go_quiet (fail)
        go_wp2
        go_ret
        exact ⟨rfl, (HJ.out.2.quiet ((Keeps.refl _ _).drewN _)).below⟩
      · go_wp2_with fail
        go_quiet (fail)
        go_wp2
        have hk := HK.out
        go_roundg (gk - 1)
        case measure => omega
        case rel =>
          refine ⟨j + 1, by simp, by omega, hid ⟨fun x p q' hx hp hq => ?_, HJ.out.2.quiet ((Keeps.refl _ _).drewN _)⟩⟩
          by_cases e : x = j
          · subst e
            rw [HX.out.1] at hp
            rw [HX.out.2] at hq
            simp at hp hq
            subst hp hq
            show i < i2
            omega
          · exact HJ.out.1 x p q' (by omega) hp hq
    · have HR : Hid (Rises l l.length) := fun x p q hx hp hq => HJ.out.1 x p q (by have := (List.getElem?_eq_some_iff.1 hq).1; omega) hp hq
      have H3 := hid HJ.out.2
      have t1 : ¬ ((j : Int) + 1) < (l.length : Int) := by omega
      clear HJ hk hj
      go_wp2_with fail
      refine Calls.mono (HP.out _ _ H3.out) ?_
      rintro e w4 ⟨x, c, rfl, H4⟩
      clear HP H3 t1
      go_wp2_with fail
      go_loopg [8, 10, 50] l.length (fun k kv rv iv wr => ∃ (j kk : Nat) (rest : Int), kv = .int .i64 (kk : Int) ∧ rv = .int .i64 rest ∧ iv = .int .i64 (j : Int) ∧ k + j = l.length ∧ Hid (G.drop kk = planL most rest (l.drop j) ∧ kk ≤ G.length ∧ -9223372036854775808 ≤ rest ∧ rest ≤ 9223372036854775807 ∧ Hold w wr [slT x G.length c G]))
      case atStart => exact ⟨0, 0, left, rfl, rfl, rfl, by omega, hid ⟨by rw [HZ.out, List.drop_zero], Nat.zero_le _, HB.out.1, HB.out.2, H4.out⟩⟩
      case round =>
        clear H4 HZ HB
        obtain ⟨j, kk, rest, rfl, rfl, rfl, hk, HJ⟩ := hrel
        by_cases hj : j < l.length
        · obtain rfl : a = some ⟨b, off, none⟩ := by
            rcases HI.out with h | h
            · rw [h] at hj; simp at hj
            · exact h
          obtain ⟨⟨i, pl, pd, f⟩, hx⟩ : ∃ x, l[j]? = some x := ⟨_, List.getElem?_eq_getElem hj⟩
          obtain ⟨c0, c1, c2, c3⟩ := HC.out _ (keeps_of_below HJ.out.2.2.2.2.below) j _ hx
          have hpd := HQ.out _ (List.mem_of_getElem? hx)
          have HG : Hid (G.drop kk = endL ⟨i, pl, pd, f⟩ ++ (goL most i f rest pl pd ++ planL most (rest - goes most rest pl pd) (l.drop (j + 1)))) := by
            have e := HD.out rest j _ hx
            rw [← HJ.out.1] at e
            exact hid e
          have HB2 := hid (And.intro HJ.out.2.2.1 HJ.out.2.2.2.1)
          have HKL := hid HJ.out.2.1
          have hr1 : -9223372036854775808 ≤ rest := HB2.out.1
          have hr2 : rest ≤ 9223372036854775807 := HB2.out.2
          have H2 := hid (HJ.out.2.2.2.2.newrec2 #[.int .i64 i, .int .i64 pl, .int .i64 pd, .bool f] 26)
          have HX := hid hx
          have hmin : ∀ ts t W, (Builtin.min_ ts t #[.int .i64 pd, .int .i64 pl, .int .i64 rest]).run Try.prog W = .ok (.int .i64 (min (min pd pl) rest)) W := min_three _ _ _
          obtain ⟨mn, hmn⟩ : ∃ mn, mn = min (min pd pl) rest := ⟨_, rfl⟩
          rw [← hmn] at hmin
          have HM : Hid (mn ≤ min (min pd pl) rest ∧ min (min pd pl) rest ≤ mn) := ⟨by omega, by omega⟩
          have HK := hid hk
          simp only at c0 c1 c2 c3 hpd
          clear hmn HJ hx hk HC HQ HD
          by_cases hE : pd = 0 ∧ f = true
          · obtain ⟨rfl, rfl⟩ := hE
            have HT : Hid (G.drop (kk + 1) = planL most rest (l.drop (j + 1)) ∧ kk + 1 ≤ G.length ∧ -9223372036854775808 ≤ rest ∧ rest ≤ 9223372036854775807) := by
              have e1 := HG.out
              rw [end_yes ⟨i, pl, 0, true⟩ rfl rfl, (go_zero most i true rest pl 0 (.inl rfl)).1, (go_zero most i true rest pl 0 (.inl rfl)).2, Int.sub_zero, List.nil_append, List.cons_append, List.nil_append] at e1
              have e2 := drop_head e1
              exact ⟨e2.2.1, e2.2.2, HB2.out.1, HB2.out.2⟩
            have hs : G[kk]? = some ⟨i, 0, true⟩ := by
              have e1 := HG.out
              rw [end_yes ⟨i, pl, 0, true⟩ rfl rfl] at e1
              exact (drop_head e1).1
            have hkk : (kk : Int) < (G.length : Int) := by have := HT.out.2.1; omega
            have hmx : ∀ ts t W, (Builtin.max_ ts t #[.int .i64 mn, .int .i64 0]).run Try.prog W = .ok (.int .i64 0) W := fun ts t W => by
              rw [max_two]
              have : max mn 0 = 0 := by have := HM.out; omega
              rw [this]
            have hmm : ∀ ts t W, (Builtin.max_ ts t #[.int .i64 most, .int .i64 0]).run Try.prog W = .ok (.int .i64 (max most 0)) W := max_two _ _
            have hmm2 : 0 ≤ max most 0 := by omega
            have hq2 := hid hs
            have ho : slR.Own 34 0 (wr.alloc (.cells #[.int .i64 i, .int .i64 pl, .int .i64 0, .bool true] 26)) (.slice x G.length c) G := H2.out.inv (slT x G.length c G) (by simp)
            obtain ⟨rb, rfl, _, hb, _, _⟩ := own_some ho (by omega)
            obtain ⟨e0, e1, e2⟩ := own_slice ho kk _ hs
            obtain ⟨d0, d1, d2, d3, _, _⟩ := hold_pt (g := wr.heap.size) (i := i) (pl := pl) (pd := 0) (f := true) H2.out (by simp)
            simp only at e0 e1 e2
            generalize max most 0 = mm at *
            clear hs ho HG
            obtain ⟨wo, hwo⟩ : ∃ wo : World, wo = wr := ⟨_, rfl⟩
            subst hwo
            obtain ⟨go, hgo⟩ : ∃ go : Nat, go = gk := ⟨_, rfl⟩
            subst hgo
            go_wp2_with fail
            go_loopg [8, 13, 14] 0 (fun k kv nv ev wi => kv = .int .i64 (kk : Int) ∧ nv = .int .i64 0 ∧ ev = .bool false ∧ wi = wo.alloc (.cells #[.int .i64 i, .int .i64 pl, .int .i64 0, .bool true] 26))
            case atStart => exact ⟨rfl, rfl, rfl, rfl⟩
            case round =>
              obtain ⟨rfl, rfl, rfl, rfl⟩ := hrel
              go_wp2_with fail
              go_quiet (fail)
              go_wp2_with fail
              go_quiet (fail)
              by_cases hmo : most < 1
              · go_wp2
                have hk := HK.out
                go_roundg (go - 1)
                case measure => omega
                case rel => exact ⟨j + 1, kk + 1, rest, by simp, rfl, by simp, by omega, hid ⟨HT.out.1, HT.out.2.1, HT.out.2.2.1, HT.out.2.2.2, (H2.out.sub (a := [slT (some ⟨rb, 0, none⟩) G.length c G]) (by simp)).quiet ((Keeps.refl _ _).drewN _)⟩⟩
              · go_wp2
                have hk := HK.out
                go_roundg (go - 1)
                case measure => omega
                case rel => exact ⟨j + 1, kk + 1, rest, by simp, rfl, by simp, by omega, hid ⟨HT.out.1, HT.out.2.1, HT.out.2.2.1, HT.out.2.2.2, (H2.out.sub (a := [slT (some ⟨rb, 0, none⟩) G.length c G]) (by simp)).quiet ((Keeps.refl _ _).drewN _)⟩⟩
          · have HGn : Hid (G.drop kk = goL most i f rest pl pd ++ planL most (rest - goes most rest pl pd) (l.drop (j + 1))) := by
              have e := HG.out
              rw [end_no ⟨i, pl, pd, f⟩ hE, List.nil_append] at e
              exact hid e
            clear HG
            by_cases hpos : 0 < leastI rest most pl pd
            · have hmo : ¬ most < 1 := by rw [least_pos] at hpos; omega
              have hp0 : ¬ pd = 0 := by rw [least_pos] at hpos; omega
              have hp1 : (pd == 0) = false := by simpa using hp0
              have hmx := max_two mn 0
              have hmm := max_two most 0
              have hmm2 : 0 ≤ max most 0 := by omega
              have HFS := hid fun n m => fits_step most i f rest pl pd n m
              generalize max most 0 = mm at *
              have HPos := hid hpos
              clear hE hp0 hpos
              obtain ⟨wo, hwo⟩ : ∃ wo : World, wo = wr := ⟨_, rfl⟩
              subst hwo
              obtain ⟨go, hgo⟩ : ∃ go : Nat, go = gk := ⟨_, rfl⟩
              subst hgo
              go_wp2_with fail
              go_loopg [8, 13, 14] pd.toNat (fun k kv nv ev wi => ∃ (kk : Nat) (n : Int), kv = .int .i64 (kk : Int) ∧ nv = .int .i64 n ∧ ev = .bool false ∧ k = (pd - n).toNat ∧ Hid (0 < leastI (rest - n) most (pl - n) (pd - n) ∧ 0 ≤ n ∧ G.drop kk = goL most i f (rest - n) (pl - n) (pd - n) ++ planL most (rest - goes most rest pl pd) (l.drop (j + 1)) ∧ Hold w wi [slT x G.length c G, ptT wo.heap.size i pl pd f]))
              case atStart => exact ⟨kk, 0, rfl, rfl, rfl, by rw [Int.sub_zero], hid ⟨by rw [Int.sub_zero, Int.sub_zero, Int.sub_zero]; exact HPos.out, Int.le_refl _, by rw [Int.sub_zero, Int.sub_zero, Int.sub_zero]; exact HGn.out, H2.out⟩⟩
              case round =>
                clear HGn HKL H2 c0 c1 c2 c3 HPos
                obtain ⟨kk, n, rfl, rfl, rfl, hk2, HI2⟩ := hrel
                obtain ⟨m, hm⟩ : ∃ m, leastI (rest - n) most (pl - n) (pd - n) = m := ⟨_, rfl⟩
                have hm0 : 0 < m := by have := HI2.out.1; omega
                have n0 : 0 ≤ n := HI2.out.2.1
                obtain ⟨f1, f2, f3, f4, f5⟩ := HFS.out n m hm hm0 n0
                have hdr := HI2.out.2.2.1
                rw [f1, List.cons_append] at hdr
                obtain ⟨hs, hdr2, hkk⟩ := drop_head hdr
                have HI3 := hid HI2.out.2.2.2
                have HK2 := hid hk2
                obtain ⟨sf, hsf⟩ : ∃ sf, sf = (f && decide (pd - (n + m) = 0)) := ⟨_, rfl⟩
                rw [← hsf] at hs
                have ho : slR.Own 34 0 wr (.slice x G.length c) G := HI3.out.inv (slT x G.length c G) (by simp)
                obtain ⟨rb, rfl, _, hb, _, _⟩ := own_some ho (by omega)
                obtain ⟨e0, e1, e2⟩ := own_slice ho kk _ hs
                obtain ⟨d0, d1, d2, d3, _, _⟩ := hold_pt (g := wo.heap.size) (i := i) (pl := pl) (pd := pd) (f := f) HI3.out (by simp)
                simp only at e0 e1 e2
                have hkk2 : (kk : Int) < (G.length : Int) := by omega
                have hii : (i == i) = true := by simp
                have hm1 : decide (m < 0) = false := by simp; omega
                have hnm : n + m ≤ 4000 := by omega
                have HDR := hid (And.intro hdr2 hkk)
                have HN := hid (And.intro f3 f4)
                clear hs ho hdr hdr2 hkk hm f1 f3 f4 HFS HI2 hk2
                rcases f5 with ⟨hb, hg, hnil⟩ | ⟨hb, hpo, hne⟩
                · have hmn : mn = n + m := by have := HM.out; omega
                  have hmx2 : ∀ ts t W, (Builtin.max_ ts t #[.int .i64 mn, .int .i64 0]).run Try.prog W = .ok (.int .i64 mn) W := fun ts t W => by
                    rw [hmx]
                    have e : max mn 0 = mn := by omega
                    rw [e]
                  have hrb : n + m ≤ rest := by omega
                  have HT : Hid (G.drop (kk + 1) = planL most (rest - (n + m)) (l.drop (j + 1)) ∧ kk + 1 ≤ G.length ∧ -9223372036854775808 ≤ rest - (n + m) ∧ rest - (n + m) ≤ 9223372036854775807) := by
                    have e1 := HDR.out.1
                    rw [hnil, hg, List.nil_append] at e1
                    exact ⟨e1, HDR.out.2, by omega, by omega⟩
                  clear hb hg hnil hmx HDR HM
                  subst hmn
                  cases f with
                  | false =>
                    rw [Bool.false_and] at hsf
                    subst hsf
                    go_wp2_with fail
                    go_quiet (fail)
                    go_wp2_with fail
                    go_quiet (fail)
                    go_wp2
                    have hk := HK.out
                    go_roundg (go - 1)
                    case measure => omega
                    case rel => exact ⟨j + 1, kk + 1, rest - (n + m), by simp, by first | rfl | (simp; omega), by simp, by omega, hid ⟨HT.out.1, HT.out.2.1, HT.out.2.2.1, HT.out.2.2.2, (HI3.out.sub (a := [slT (some ⟨rb, 0, none⟩) G.length c G]) (by simp)).quiet ((Keeps.refl _ _).drewN _)⟩⟩
                  | true =>
                    rw [Bool.true_and] at hsf
                    by_cases hz : pd - (n + m) = 0
                    · rw [decide_eq_true hz] at hsf
                      have t6 : (n + m == pd) = true := by simp; omega
                      clear hz
                      subst hsf
                      go_wp2_with fail
                      go_quiet (fail)
                      go_wp2_with fail
                      go_quiet (fail)
                      go_wp2
                      have hk := HK.out
                      go_roundg (go - 1)
                      case measure => omega
                      case rel => exact ⟨j + 1, kk + 1, rest - (n + m), by simp, by first | rfl | (simp; omega), by simp, by omega, hid ⟨HT.out.1, HT.out.2.1, HT.out.2.2.1, HT.out.2.2.2, (HI3.out.sub (a := [slT (some ⟨rb, 0, none⟩) G.length c G]) (by simp)).quiet ((Keeps.refl _ _).drewN _)⟩⟩
                    · rw [decide_eq_false hz] at hsf
                      have t6 : (n + m == pd) = false := by simp; omega
                      clear hz
                      subst hsf
                      go_wp2_with fail
                      go_quiet (fail)
                      go_wp2_with fail
                      go_quiet (fail)
                      go_wp2
                      have hk := HK.out
                      go_roundg (go - 1)
                      case measure => omega
                      case rel => exact ⟨j + 1, kk + 1, rest - (n + m), by simp, by first | rfl | (simp; omega), by simp, by omega, hid ⟨HT.out.1, HT.out.2.1, HT.out.2.2.1, HT.out.2.2.2, (HI3.out.sub (a := [slT (some ⟨rb, 0, none⟩) G.length c G]) (by simp)).quiet ((Keeps.refl _ _).drewN _)⟩⟩
                · have t5 : (n + m == mn) = false := by have := HM.out; simp; omega
                  have hsf2 : sf = false := by rw [hsf, decide_eq_false hne, Bool.and_false]
                  have HRel : Hid (0 < leastI (rest - (n + m)) most (pl - (n + m)) (pd - (n + m)) ∧ 0 ≤ n + m ∧ G.drop (kk + 1) = goL most i f (rest - (n + m)) (pl - (n + m)) (pd - (n + m)) ++ planL most (rest - goes most rest pl pd) (l.drop (j + 1))) := ⟨hpo, by omega, HDR.out.1⟩
                  have hle := HN.out.1
                  clear hsf hb hpo hne hmx HDR HM HN
                  subst hsf2
                  go_wp2_with fail
                  go_quiet (fail)
                  go_wp2_with fail
                  go_quiet (fail)
                  go_wp2
                  have hk2 := HK2.out
                  go_roundg ((pd - (n + m)).toNat)
                  case measure => omega
                  case rel => exact ⟨kk + 1, n + m, by simp, rfl, rfl, rfl, hid ⟨HRel.out.1, HRel.out.2.1, HRel.out.2.2, HI3.out.quiet ((Keeps.refl _ _).drewN _)⟩⟩
            · have HT : Hid (G.drop kk = planL most rest (l.drop (j + 1)) ∧ kk ≤ G.length ∧ -9223372036854775808 ≤ rest ∧ rest ≤ 9223372036854775807) := by
                have e1 := HGn.out
                rw [go_none _ _ _ _ _ _ hpos, goes_none _ _ _ _ hpos, Int.sub_zero, List.nil_append] at e1
                exact ⟨e1, HKL.out, HB2.out.1, HB2.out.2⟩
              obtain ⟨w0, hmx, hw0⟩ : ∃ w0 : Int, (∀ ts t W, (Builtin.max_ ts t #[.int .i64 mn, .int .i64 0]).run Try.prog W = .ok (.int .i64 w0) W) ∧ (¬ most < 1 → w0 = 0) := ⟨max mn 0, max_two _ _, fun h => by
                have h1 := HM.out
                rw [least_pos] at hpos
                omega⟩
              clear HGn
              by_cases hkk : kk < G.length
              · obtain ⟨⟨si, sn, sf⟩, hs⟩ : ∃ s, G[kk]? = some s := ⟨_, List.getElem?_eq_getElem hkk⟩
                have hsi : (si == i) = false := fits_next HR.out HX.out HT.out.1 hs
                have ho : slR.Own 34 0 (wr.alloc (.cells #[.int .i64 i, .int .i64 pl, .int .i64 pd, .bool f] 26)) (.slice x G.length c) G := H2.out.inv (slT x G.length c G) (by simp)
                obtain ⟨rb, rfl, _, hb, _, _⟩ := own_some ho (by omega)
                obtain ⟨e0, e1, e2⟩ := own_slice ho kk _ hs
                obtain ⟨d0, d1, d2, d3, _, _⟩ := hold_pt (g := wr.heap.size) (i := i) (pl := pl) (pd := pd) (f := f) H2.out (by simp)
                have hkk2 : (kk : Int) < (G.length : Int) := by omega
                simp only at e0 e1 e2
                clear hs ho
                by_cases hmo : most < 1
                · clear hw0
                  cases f with
                  | false =>
                    clear hE hpos
                    obtain ⟨wo, hwo⟩ : ∃ wo : World, wo = wr := ⟨_, rfl⟩
                    subst hwo
                    obtain ⟨go, hgo⟩ : ∃ go : Nat, go = gk := ⟨_, rfl⟩
                    subst hgo
                    go_wp2_with fail
                    go_loopg [8, 13, 14] 0 (fun k kv nv ev wi => kv = .int .i64 (kk : Int) ∧ nv = .int .i64 0 ∧ ev = .bool false ∧ wi = wo.alloc (.cells #[.int .i64 i, .int .i64 pl, .int .i64 pd, .bool false] 26))
                    case atStart => exact ⟨rfl, rfl, rfl, rfl⟩
                    case round =>
                      obtain ⟨rfl, rfl, rfl, rfl⟩ := hrel
                      go_wp2_with fail
                      go_quiet (fail)
                      go_wp2
                      have hk := HK.out
                      go_roundg (go - 1)
                      case measure => omega
                      case rel => exact ⟨j + 1, kk, rest, by simp, rfl, by simp, by omega, hid ⟨HT.out.1, HT.out.2.1, HT.out.2.2.1, HT.out.2.2.2, (H2.out.sub (a := [slT (some ⟨rb, 0, none⟩) G.length c G]) (by simp)).quiet ((Keeps.refl _ _).drewN _)⟩⟩
                  | true =>
                    have hp0 : ¬ pd = 0 := fun e => hE ⟨e, rfl⟩
                    have hp1 : (0 == pd) = false := by simp; omega
                    clear hE hpos hp0
                    obtain ⟨wo, hwo⟩ : ∃ wo : World, wo = wr := ⟨_, rfl⟩
                    subst hwo
                    obtain ⟨go, hgo⟩ : ∃ go : Nat, go = gk := ⟨_, rfl⟩
                    subst hgo
                    go_wp2_with fail
                    go_loopg [8, 13, 14] 0 (fun k kv nv ev wi => kv = .int .i64 (kk : Int) ∧ nv = .int .i64 0 ∧ ev = .bool false ∧ wi = wo.alloc (.cells #[.int .i64 i, .int .i64 pl, .int .i64 pd, .bool true] 26))
                    case atStart => exact ⟨rfl, rfl, rfl, rfl⟩
                    case round =>
                      obtain ⟨rfl, rfl, rfl, rfl⟩ := hrel
                      go_wp2_with fail
                      go_quiet (fail)
                      go_wp2
                      have hk := HK.out
                      go_roundg (go - 1)
                      case measure => omega
                      case rel => exact ⟨j + 1, kk, rest, by simp, rfl, by simp, by omega, hid ⟨HT.out.1, HT.out.2.1, HT.out.2.2.1, HT.out.2.2.2, (H2.out.sub (a := [slT (some ⟨rb, 0, none⟩) G.length c G]) (by simp)).quiet ((Keeps.refl _ _).drewN _)⟩⟩
                · obtain rfl := hw0 hmo
                  clear hw0
                  cases f with
                  | false =>
                    clear hE hpos
                    obtain ⟨wo, hwo⟩ : ∃ wo : World, wo = wr := ⟨_, rfl⟩
                    subst hwo
                    obtain ⟨go, hgo⟩ : ∃ go : Nat, go = gk := ⟨_, rfl⟩
                    subst hgo
                    go_wp2_with fail
                    go_loopg [8, 13, 14] 0 (fun k kv nv ev wi => kv = .int .i64 (kk : Int) ∧ nv = .int .i64 0 ∧ ev = .bool false ∧ wi = wo.alloc (.cells #[.int .i64 i, .int .i64 pl, .int .i64 pd, .bool false] 26))
                    case atStart => exact ⟨rfl, rfl, rfl, rfl⟩
                    case round =>
                      obtain ⟨rfl, rfl, rfl, rfl⟩ := hrel
                      go_wp2_with fail
                      go_quiet (fail)
                      go_wp2
                      have hk := HK.out
                      go_roundg (go - 1)
                      case measure => omega
                      case rel => exact ⟨j + 1, kk, rest, by simp, rfl, by simp, by omega, hid ⟨HT.out.1, HT.out.2.1, HT.out.2.2.1, HT.out.2.2.2, (H2.out.sub (a := [slT (some ⟨rb, 0, none⟩) G.length c G]) (by simp)).quiet ((Keeps.refl _ _).drewN _)⟩⟩
                  | true =>
                    have hp0 : ¬ pd = 0 := fun e => hE ⟨e, rfl⟩
                    have hp1 : (0 == pd) = false := by simp; omega
                    clear hE hpos hp0
                    obtain ⟨wo, hwo⟩ : ∃ wo : World, wo = wr := ⟨_, rfl⟩
                    subst hwo
                    obtain ⟨go, hgo⟩ : ∃ go : Nat, go = gk := ⟨_, rfl⟩
                    subst hgo
                    go_wp2_with fail
                    go_loopg [8, 13, 14] 0 (fun k kv nv ev wi => kv = .int .i64 (kk : Int) ∧ nv = .int .i64 0 ∧ ev = .bool false ∧ wi = wo.alloc (.cells #[.int .i64 i, .int .i64 pl, .int .i64 pd, .bool true] 26))
                    case atStart => exact ⟨rfl, rfl, rfl, rfl⟩
                    case round =>
                      obtain ⟨rfl, rfl, rfl, rfl⟩ := hrel
                      go_wp2_with fail
                      go_quiet (fail)
                      go_wp2
                      have hk := HK.out
                      go_roundg (go - 1)
                      case measure => omega
                      case rel => exact ⟨j + 1, kk, rest, by simp, rfl, by simp, by omega, hid ⟨HT.out.1, HT.out.2.1, HT.out.2.2.1, HT.out.2.2.2, (H2.out.sub (a := [slT (some ⟨rb, 0, none⟩) G.length c G]) (by simp)).quiet ((Keeps.refl _ _).drewN _)⟩⟩
              · obtain ⟨d0, d1, d2, d3, _, _⟩ := hold_pt (g := wr.heap.size) (i := i) (pl := pl) (pd := pd) (f := f) H2.out (by simp)
                have hkk2 : decide ((kk : Int) < (G.length : Int)) = false := by simpa using hkk
                by_cases hmo : most < 1
                · clear hw0
                  cases f with
                  | false =>
                    clear hE hpos
                    obtain ⟨wo, hwo⟩ : ∃ wo : World, wo = wr := ⟨_, rfl⟩
                    subst hwo
                    obtain ⟨go, hgo⟩ : ∃ go : Nat, go = gk := ⟨_, rfl⟩
                    subst hgo
                    go_wp2_with fail
                    go_loopg [8, 13, 14] 0 (fun k kv nv ev wi => kv = .int .i64 (kk : Int) ∧ nv = .int .i64 0 ∧ ev = .bool false ∧ wi = wo.alloc (.cells #[.int .i64 i, .int .i64 pl, .int .i64 pd, .bool false] 26))
                    case atStart => exact ⟨rfl, rfl, rfl, rfl⟩
                    case round =>
                      obtain ⟨rfl, rfl, rfl, rfl⟩ := hrel
                      go_wp2_with fail
                      go_quiet (fail)
                      go_wp2
                      have hk := HK.out
                      go_roundg (go - 1)
                      case measure => omega
                      case rel => exact ⟨j + 1, kk, rest, by simp, rfl, by simp, by omega, hid ⟨HT.out.1, HT.out.2.1, HT.out.2.2.1, HT.out.2.2.2, (H2.out.sub (a := [slT x G.length c G]) (by simp)).quiet ((Keeps.refl _ _).drewN _)⟩⟩
                  | true =>
                    have hp0 : ¬ pd = 0 := fun e => hE ⟨e, rfl⟩
                    have hp1 : (0 == pd) = false := by simp; omega
                    clear hE hpos hp0
                    obtain ⟨wo, hwo⟩ : ∃ wo : World, wo = wr := ⟨_, rfl⟩
                    subst hwo
                    obtain ⟨go, hgo⟩ : ∃ go : Nat, go = gk := ⟨_, rfl⟩
                    subst hgo
                    go_wp2_with fail
                    go_loopg [8, 13, 14] 0 (fun k kv nv ev wi => kv = .int .i64 (kk : Int) ∧ nv = .int .i64 0 ∧ ev = .bool false ∧ wi = wo.alloc (.cells #[.int .i64 i, .int .i64 pl, .int .i64 pd, .bool true] 26))
                    case atStart => exact ⟨rfl, rfl, rfl, rfl⟩
                    case round =>
                      obtain ⟨rfl, rfl, rfl, rfl⟩ := hrel
                      go_wp2_with fail
                      go_quiet (fail)
                      go_wp2
                      have hk := HK.out
                      go_roundg (go - 1)
                      case measure => omega
                      case rel => exact ⟨j + 1, kk, rest, by simp, rfl, by simp, by omega, hid ⟨HT.out.1, HT.out.2.1, HT.out.2.2.1, HT.out.2.2.2, (H2.out.sub (a := [slT x G.length c G]) (by simp)).quiet ((Keeps.refl _ _).drewN _)⟩⟩
                · obtain rfl := hw0 hmo
                  clear hw0
                  cases f with
                  | false =>
                    clear hE hpos
                    obtain ⟨wo, hwo⟩ : ∃ wo : World, wo = wr := ⟨_, rfl⟩
                    subst hwo
                    obtain ⟨go, hgo⟩ : ∃ go : Nat, go = gk := ⟨_, rfl⟩
                    subst hgo
                    go_wp2_with fail
                    go_loopg [8, 13, 14] 0 (fun k kv nv ev wi => kv = .int .i64 (kk : Int) ∧ nv = .int .i64 0 ∧ ev = .bool false ∧ wi = wo.alloc (.cells #[.int .i64 i, .int .i64 pl, .int .i64 pd, .bool false] 26))
                    case atStart => exact ⟨rfl, rfl, rfl, rfl⟩
                    case round =>
                      obtain ⟨rfl, rfl, rfl, rfl⟩ := hrel
                      go_wp2_with fail
                      go_quiet (fail)
                      go_wp2
                      have hk := HK.out
                      go_roundg (go - 1)
                      case measure => omega
                      case rel => exact ⟨j + 1, kk, rest, by simp, rfl, by simp, by omega, hid ⟨HT.out.1, HT.out.2.1, HT.out.2.2.1, HT.out.2.2.2, (H2.out.sub (a := [slT x G.length c G]) (by simp)).quiet ((Keeps.refl _ _).drewN _)⟩⟩
                  | true =>
                    have hp0 : ¬ pd = 0 := fun e => hE ⟨e, rfl⟩
                    have hp1 : (0 == pd) = false := by simp; omega
                    clear hE hpos hp0
                    obtain ⟨wo, hwo⟩ : ∃ wo : World, wo = wr := ⟨_, rfl⟩
                    subst hwo
                    obtain ⟨go, hgo⟩ : ∃ go : Nat, go = gk := ⟨_, rfl⟩
                    subst hgo
                    go_wp2_with fail
                    go_loopg [8, 13, 14] 0 (fun k kv nv ev wi => kv = .int .i64 (kk : Int) ∧ nv = .int .i64 0 ∧ ev = .bool false ∧ wi = wo.alloc (.cells #[.int .i64 i, .int .i64 pl, .int .i64 pd, .bool true] 26))
                    case atStart => exact ⟨rfl, rfl, rfl, rfl⟩
                    case round =>
                      obtain ⟨rfl, rfl, rfl, rfl⟩ := hrel
                      go_wp2_with fail
                      go_quiet (fail)
                      go_wp2
                      have hk := HK.out
                      go_roundg (go - 1)
                      case measure => omega
                      case rel => exact ⟨j + 1, kk, rest, by simp, rfl, by simp, by omega, hid ⟨HT.out.1, HT.out.2.1, HT.out.2.2.1, HT.out.2.2.2, (H2.out.sub (a := [slT x G.length c G]) (by simp)).quiet ((Keeps.refl _ _).drewN _)⟩⟩
        · obtain rfl : j = l.length := by omega
          have hkG : kk = G.length := by
            have e := HJ.out.1
            rw [List.drop_length] at e
            have e2 : planL most rest [] = [] := by unfold planL; rfl
            rw [e2] at e
            have h1 := List.drop_eq_nil_iff.1 e
            have h2 := HJ.out.2.1
            omega
          subst hkG
          have H5 := hid HJ.out.2.2.2.2
          clear HJ HC HI HD HQ hk
          go_wp2
          go_ret
          exact ⟨by simp, H5.out.below⟩
theorem fits_walk (left most : Int) (a : Option Addr) (cap : Nat) (l : List Pt) (w : World) (h1 : -9223372036854775808 ≤ left) (h2 : left ≤ 9223372036854775807) (h : Partss w a l) : Calls Try.prog 4 #[.int .i64 left, .int .i64 most, .slice a l.length cap] w (Fine w) := by
  by_cases hL : LightL l
  · exact fits_main left most a cap l w h1 h2 h hL
  · exact fits_heavy left most a cap l w h hL
end Go.Proofs.Ytocpjajafocdaaa
