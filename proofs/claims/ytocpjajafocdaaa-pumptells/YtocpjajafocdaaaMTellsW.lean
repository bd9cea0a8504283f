/-
  The law PumpTells as a walk.
-/
import Derived.Test.YtocpjajafocdaaaMAt
import Derived.Test.YtocpjajafocdaaaMRef
import Derived.Test.YtocpjajafocdaaaGRowSet
namespace Go.Proofs.Ytocpjajafocdaaa
open Go.RowKit

section
variable {W w : World} {a : Option Addr} {l : List Pt} {ts : List Thing}
theorem Hold.rplan {w' : World} {m : List Sl} {x : Option Addr} {c : Nat} (h : Hold W w ts) (H : Hold w w' [rsT x m.length c m]) : Hold W w' (rsT x m.length c m :: ts) :=
  h.add (keeps_of_below H.below) Recs.rowT_ok (H.inv _ (List.mem_singleton.2 rfl)) fun k e => H.new _ (List.mem_singleton.2 rfl) k e
theorem t_rplan (h : Hold W w ts) (left most : Int) (cap : Nat) {S : Nat → Prop} (hl : ptR.Lies w a l S) (hL : LightL l) (hin : ∀ p ∈ l, PtIn p) (hleft : left ≤ 9223372036854775807) :
    Calls Try.prog 10 #[.int .i64 left, .int .i64 most, .slice a l.length cap] w fun e w' => ∃ x c, e = .returned (.slice x (planL most left l).length c) ∧ Hid (Hold W w' (rsT x (planL most left l).length c (planL most left l) :: ts)) := by
  refine (rplan_ok left most cap hl (by have := hL.2; omega) (fun p hp => ⟨(hin p hp).2.1.2, hL.1 p hp⟩) hleft).mono ?_
  rintro e w' ⟨x, c, rfl, H⟩
  exact ⟨x, c, rfl, hid (h.rplan H.out)⟩
end
def mk77 : Pt := ⟨-77, 0, 0, false⟩
/-- The list that is handed in: a mark stands behind it. -/
abbrev mT (mb n c : Nat) (l : List Pt) : Thing := ptR.rowT 26 (.slice (some ⟨mb, 0, none⟩) n c) (l ++ [mk77])
attribute [local irreducible] goL planL goes leastI endL sumL

set_option maxRecDepth 100000 in
theorem tells_heavy (left most : Int) (a : Option Addr) (cap : Nat) (l : List Pt) (w : World) (h : Partss w a l) (hL : ¬ LightL l) : Calls Try.prog 3 #[.int .i64 left, .int .i64 most, .slice a l.length cap] w (Fine w) := by
  have HA : Hid (∀ W, Calls Try.prog 9 #[] W fun e w' => e = .returned (.bool true) ∧ Keeps nobody W w') := alive_ok
  have HL := hid (light_no most cap h.1 h.2.1 hL)
  have hl := h.2.1
  clear h hL
  go_enter Try.func3, Try.ntmps3
  go_wp2_with fail
  refine Calls.mono HL.out ?_
  rintro e w1 ⟨rfl, k1⟩
  go_wp2_with fail
  refine Calls.mono (HA.out _) ?_
  rintro e w2 ⟨rfl, k2⟩
  go_wp2
  go_ret
  exact ⟨rfl, below_of_keeps (k1.then k2)⟩
set_option maxRecDepth 100000 in
set_option maxHeartbeats 8000000 in
theorem tells_main (left most : Int) (a : Option Addr) (cap : Nat) (l : List Pt) (w : World) (hl2 : left ≤ 9223372036854775807) (h : Partss w a l) (hL : LightL l) : Calls Try.prog 3 #[.int .i64 left, .int .i64 most, .slice a l.length cap] w (Fine w) := by
  have HA : Hid (∀ W, Calls Try.prog 9 #[] W fun e w' => e = .returned (.bool true) ∧ Keeps nobody W w') := alive_ok
  have HL := hid (light_yes most cap h.1 h.2.1 hL)
  have HP : Hid (∀ W ts a c, ptR.Lies W a l nobody → Hold w W ts → Calls Try.prog 11 #[.int .i64 left, .int .i64 most, .slice a l.length c] W fun e w' => ∃ x c, e = .returned (.slice x (planL most left l).length c) ∧ Hid (Hold w w' (slT x (planL most left l).length c (planL most left l) :: ts))) := fun W ts a c ha hh => t_plan hh left most c ha hL h.2.2 hl2
  have HR : Hid (∀ W ts a c, ptR.Lies W a l nobody → Hold w W ts → Calls Try.prog 10 #[.int .i64 left, .int .i64 most, .slice a l.length c] W fun e w' => ∃ x c, e = .returned (.slice x (planL most left l).length c) ∧ Hid (Hold w w' (rsT x (planL most left l).length c (planL most left l) :: ts))) := fun W ts a c ha hh => t_rplan hh left most c ha hL h.2.2 hl2
  obtain ⟨b, off, ha, hA⟩ := lies_atP h.1
  have HC := hid hA
  have HI := hid ha
  have HLs := hid h.1
  have hl := hL.2
  have hG := plan_small most left l hL
  have HE := hid fun s hs => (plan_each most left l s hs).1
  have HSm : Hid (sumL (planL most left l) ≤ 9223372036854775807) := by
    have := plan_sum_le most left l
    show _ ≤ _
    omega
  clear h hA ha hL
  generalize planL most left l = G at *
  clear hl2
  go_enter Try.func3, Try.ntmps3
  go_wp2_with fail
  refine Calls.mono HL.out ?_
  rintro e w1 ⟨rfl, k1⟩
  go_wp2_with fail
  refine Calls.mono (HA.out _) ?_
  rintro e w2 ⟨rfl, k2⟩
  have H2 := hid (((hold_start w).quiet k1).quiet k2)
  clear k1 k2 HA HL
  have H3 := hid (Recs.newrow (R := ptR) H2.out 26)
  obtain ⟨x1, n1, c1, w3, a1, b1⟩ := Recs.app (ts := []) 22 22 26 _ 32 Try.underlying22 infoPt rfl H3.out (HLs.out.quiet (keeps_of_below H3.out.below)) cap (by simp; omega) (by decide)
  rw [List.nil_append] at b1
  obtain ⟨x2, n2, c2, w4, a2, b2⟩ := Recs.app_lit (ts := []) 22 22 26 _ 32 Try.underlying22 infoPt rfl b1.out.2 mk77 #[.int .i64 (-77), .int .i64 0, .int .i64 0, .bool false] rfl (by omega) (by decide)
  have ho2 : ptR.Own 26 0 w4 (.slice x2 n2 c2) (l ++ [mk77]) := b2.out.2.inv _ (List.mem_singleton.2 rfl)
  obtain ⟨mb, rfl, _, hmb, hc1, hc2⟩ := own_some ho2 (by simp)
  rw [List.length_append, List.length_singleton] at hc1
  unfold maxLen at hc2
  have z1 : (0 : Int) ≤ (l.length : Int) := by omega
  have z2 : (l.length : Int) ≤ (c2 : Int) := by omega
  have R1 := hid a1
  have R2 := hid a2
  have H4 : Hid (Hold w w4 [mT mb n2 c2 l]) := hid b2.out.2
  clear a1 a2 b1 b2 H2 H3 ho2 hmb
  go_wp2_with (at_builtin; first | refine wpList_append_run rfl _ _ 22 22 rfl (.slice none 0 0) (.slice a l.length cap) rfl rfl R1.out ?_ | refine wpList_append_run rfl _ _ 22 22 rfl (.slice x1 n1 c1) (.slice (some ⟨w3.heap.size, 0, none⟩) 1 1) rfl rfl R2.out ?_)
  go_loopg [8, 38] l.length (fun k tv iv wr => ∃ (j : Nat) (x : Option Addr) (n c : Nat), tv = .slice x n c ∧ iv = .int .i64 (j : Int) ∧ k + j = l.length ∧ Hid (n = (l.take j).length ∧ Hold w wr [rtT x n c (l.take j), mT mb n2 c2 l]))
  case atStart => exact ⟨0, none, 0, 0, rfl, rfl, by omega, hid (by rw [List.take_zero]; exact ⟨rfl, Recs.newrow H4.out _⟩)⟩
  case round =>
    clear H4 R1 R2
    obtain ⟨j, x, n, c, rfl, rfl, hk, HJ⟩ := hrel
    by_cases hj : j < l.length
    · obtain rfl : a = some ⟨b, off, none⟩ := by
        rcases HI.out with h | h
        · rw [h] at hj; simp at hj
        · exact h
      obtain ⟨⟨i, pl, pd, f⟩, hx⟩ : ∃ x, l[j]? = some x := ⟨_, List.getElem?_eq_getElem hj⟩
      obtain ⟨d0, d1, d2, d3⟩ := HC.out _ (keeps_of_below HJ.out.2.below) j _ hx
      simp only at d0 d1 d2 d3
      have H5 := hid (HJ.out.2.newrec2 #[.int .i64 i, .int .i64 pl, .int .i64 pd, .bool f] 26)
      have hlj : (l.take j).length ≤ 30 := by rw [List.length_take]; omega
      obtain ⟨xa, na, ca, w5, a1, a2⟩ := rt_app (ts := []) H5.out (by omega) ⟨i, pl, pd, f⟩
      have hsz : (wr.alloc (.cells #[.int .i64 i, .int .i64 pl, .int .i64 pd, .bool f] 26)).heap.size = wr.heap.size + 1 := by simp
      rw [hsz] at a1
      have RA := hid a1
      have HY : Hid (l.take (j + 1) = l.take j ++ [⟨i, pl, pd, f⟩]) := by
        have e : l.take (j + 1) = l.take j ++ [⟨i, pl, pd, f⟩] := by rw [List.take_add_one, hx]; rfl
        exact hid e
      have HK := hid hk
      clear a1 hsz hx hk HJ H5 HP HR HC HLs HE HSm hlj
      go_wp2_with (at_builtin; refine wpList_append_run rfl _ _ 27 27 rfl (.slice x n c) (.slice (some ⟨wr.heap.size + 1, 0, none⟩) 1 1) rfl rfl RA.out ?_)
      go_wp2
      have hk := HK.out
      go_roundg (gk - 1)
      case measure => omega
      case rel => exact ⟨j + 1, xa, na, ca, rfl, by simp, by omega, hid (by rw [HY.out]; exact ⟨a2.out.1, a2.out.2.sub (by simp)⟩)⟩
    · obtain rfl : j = l.length := by omega
      rw [List.take_length] at HJ
      obtain ⟨rfl, h6⟩ := HJ.out
      have H6 := hid h6
      have Q6 := hid (Recs.own_lies (S := nobody) (h6.inv (rtT x l.length c l) (by simp)) fun _ _ => id)
      clear HJ h6 hj hk
      go_wp2_with fail
      refine Calls.mono (HR.out _ _ _ _ Q6.out H6.out) ?_
      rintro e w7 ⟨xw, cw, rfl, H7⟩
      have Q7 := hid (Recs.Lies.prefix (Recs.own_lies (S := nobody) (H7.out.inv (mT mb n2 c2 l) (by simp)) fun _ _ => id))
      clear H6 Q6 HR
      go_wp2_with fail
      refine Calls.mono (HP.out _ _ _ _ Q7.out H7.out) ?_
      rintro e w8 ⟨xa, ca, rfl, H8⟩
      have Q8 := hid (Recs.Lies.prefix (Recs.own_lies (S := nobody) (H8.out.inv (mT mb n2 c2 l) (by simp)) fun _ _ => id))
      clear H7 Q7
      go_wp2_with fail
      refine Calls.mono (HP.out _ _ _ _ Q8.out H8.out) ?_
      rintro e w9 ⟨xb, cb, rfl, H9⟩
      have H9 : Hid (Hold w w9 [slT xb G.length cb G, slT xa G.length ca G, rsT xw G.length cw G, mT mb n2 c2 l]) := hid (H9.out.sub (by simp))
      clear H8 Q8 HP
      have HD := hid fun j s => sum_drop G j s
      have HRn := hid fun j => sum_nonneg (G.drop j) fun s hs => HE.out s (List.mem_of_mem_drop hs)
      go_wp2_with fail
      go_loopg [14, 81] G.length (fun k sv iv wr => ∃ (j : Nat) (s : Int), sv = .int .i64 s ∧ iv = .int .i64 (j : Int) ∧ k + j = G.length ∧ Hid (s + sumL (G.drop j) = sumL G ∧ 0 ≤ s ∧ Hold w wr [slT xb G.length cb G, slT xa G.length ca G, rsT xw G.length cw G, mT mb n2 c2 l]))
      case atStart => exact ⟨0, 0, rfl, rfl, by omega, hid ⟨by rw [List.drop_zero]; omega, Int.le_refl _, H9.out⟩⟩
      case round =>
        clear H9
        obtain ⟨j, s, rfl, rfl, hk, HJ⟩ := hrel
        by_cases hj : j < G.length
        · obtain ⟨⟨si, sn, sf⟩, hx⟩ : ∃ s, G[j]? = some s := ⟨_, List.getElem?_eq_getElem hj⟩
          have ho1 : slR.Own 34 0 wr (.slice xb G.length cb) G := HJ.out.2.2.inv (slT xb G.length cb G) (by simp)
          have ho2 : slR.Own 34 0 wr (.slice xa G.length ca) G := HJ.out.2.2.inv (slT xa G.length ca G) (by simp)
          have ho3 : slR.Own 35 0 wr (.slice xw G.length cw) G := HJ.out.2.2.inv (rsT xw G.length cw G) (by simp)
          obtain ⟨r1, rfl, _, b1, _, _⟩ := own_some ho1 (by omega)
          obtain ⟨r2, rfl, _, b2, _, _⟩ := own_some ho2 (by omega)
          obtain ⟨r3, rfl, _, b3, _, _⟩ := own_some ho3 (by omega)
          obtain ⟨d0, d1, d2⟩ := own_slice ho1 j _ hx
          obtain ⟨e0, e1, e2⟩ := own_slice ho2 j _ hx
          obtain ⟨g0, g1, g2⟩ := own_slice ho3 j _ hx
          simp only at d0 d1 d2 e0 e1 e2 g0 g1 g2
          have h1 := HJ.out.1
          have h2 := HJ.out.2.1
          have h3 := HE.out _ (List.mem_of_getElem? hx)
          have h4 := HRn.out (j + 1)
          have hd := HD.out j _ hx
          have h5 := HSm.out
          simp only at h3 hd
          have t1 : s + sn ≤ 9223372036854775807 := by omega
          have t2 : 0 ≤ s + sn := by omega
          have HX : Hid (s + sn + sumL (G.drop (j + 1)) = sumL G) := by
            have e : s + sn + sumL (G.drop (j + 1)) = sumL G := by omega
            exact hid e
          have H5 := hid HJ.out.2.2
          have HK := hid hk
          clear ho1 ho2 ho3 hx hk HJ h1 h4 hd h5 HI HC HLs
          go_wp2_with fail
          go_quiet (fail)
          go_wp2
          have hk := HK.out
          go_roundg (gk - 1)
          case measure => omega
          case rel => exact ⟨j + 1, s + sn, rfl, by simp, by omega, hid ⟨HX.out, t2, H5.out.quiet ((Keeps.refl _ _).drewN _)⟩⟩
        · have h1 : s = sumL G := by
            obtain rfl : j = G.length := by omega
            have e := HJ.out.1
            rw [List.drop_length] at e
            have e2 : sumL [] = 0 := by unfold sumL; rfl
            omega
          have H10 := hid HJ.out.2.2
          have HS := hid (t_sum H10.out (m := G) (x := xa) (c := ca) (by simp) HE.out HSm.out (by omega))
          rw [← h1] at HS
          clear HJ hk HD HRn HE HSm h1
          go_wp2_with fail
          refine Calls.mono HS.out ?_
          rintro e w11 ⟨rfl, H11⟩
          clear H10 HS
          go_wp2_with fail
          go_loopg [130] G.length (fun k iv wr => ∃ (j : Nat) (X : List Sl), iv = .int .i64 (j : Int) ∧ k + j = G.length ∧ Hid (X.length = G.length ∧ Hold w wr [slT xb G.length cb G, slT xa G.length ca X, rsT xw G.length cw G, mT mb n2 c2 l]))
          case atStart => exact ⟨0, G, rfl, by omega, hid ⟨rfl, H11.out⟩⟩
          case round =>
            clear H11
            obtain ⟨j3, X, rfl, hk, HJ⟩ := hrel
            by_cases hj3 : j3 < G.length
            · have hXl := HJ.out.1
              obtain ⟨⟨si, sn, sf⟩, hx⟩ : ∃ s, X[j3]? = some s := ⟨_, List.getElem?_eq_getElem (by omega)⟩
              have ho : slR.Own 34 0 wr (.slice xa G.length ca) X := HJ.out.2.inv (slT xa G.length ca X) (by simp)
              obtain ⟨ra, rfl, _, hra, _, _⟩ := own_some ho (by omega)
              obtain ⟨e0, e1, e2⟩ := own_slice ho j3 _ hx
              have ho' := ho
              unfold Recs.Own at ho'
              rw [hXl] at ho'
              have ef := World.ownsRow.frozenAt ho' (j3 * 3 + 1)
              simp only at e0 e1 e2
              have H12 : Hid (Hold w (wr.setCell ⟨ra, j3 * 3 + 1, none⟩ (.int .i64 (-5))) [slT xb G.length cb G, slT (some ⟨ra, 0, none⟩) G.length ca (X.set j3 ⟨si, -5, sf⟩), rsT xw G.length cw G, mT mb n2 c2 l]) := Recs.rowset (R := slR) (ts := [slT xb G.length cb G]) (us := [rsT xw G.length cw G, mT mb n2 c2 l]) HJ.out.2 j3 1 ⟨si, sn, sf⟩ ⟨si, -5, sf⟩ _ hx rfl (by decide)
              have HK := hid hk
              have HXl : Hid ((X.set j3 ⟨si, -5, sf⟩).length = G.length) := by
                have e : (X.set j3 ⟨si, -5, sf⟩).length = G.length := by rw [List.length_set]; exact hXl
                exact hid e
              clear HJ hx hk hXl ho ho' HI HC HLs
              go_wp2
              have hk := HK.out
              go_roundg (gk - 1)
              case measure => omega
              case rel => exact ⟨j3 + 1, _, by simp, by omega, hid ⟨HXl.out, H12.out⟩⟩
            · have hXl := HJ.out.1
              obtain ⟨xd, nd, cd, w13, a1, a2⟩ := sl_app (ts := [slT xb G.length cb G]) HJ.out.2 (by omega) ⟨-1, 0, false⟩
              have RA := hid a1
              have hnd : nd = G.length + 1 := by
                have := a2.out.1
                rw [List.length_append, List.length_singleton, hXl] at this
                exact this
              subst hnd
              have H13 : Hid (Hold w w13 [slT xb G.length cb G, rsT xw G.length cw G, mT mb n2 c2 l]) := hid (a2.out.2.sub (by simp))
              clear a1 a2 HJ hk hXl
              go_wp2_with (at_builtin; refine wpList_append_run rfl _ _ 31 31 rfl (.slice xa G.length ca) (.slice (some ⟨wr.heap.size, 0, none⟩) 1 1) rfl rfl RA.out ?_)
              go_loopg [144] G.length (fun k iv wr => ∃ (j : Nat), iv = .int .i64 (j : Int) ∧ k + j = G.length ∧ Hid (Hold w wr [slT xb G.length cb G, rsT xw G.length cw G, mT mb n2 c2 l]))
              case atStart => exact ⟨0, rfl, by omega, H13⟩
              case round =>
                clear H13 RA
                obtain ⟨j4, rfl, hk, HJ⟩ := hrel
                by_cases hj4 : j4 < G.length
                · obtain ⟨⟨si, sn, sf⟩, hx⟩ : ∃ s, G[j4]? = some s := ⟨_, List.getElem?_eq_getElem hj4⟩
                  have ho1 : slR.Own 34 0 wr (.slice xb G.length cb) G := HJ.out.inv (slT xb G.length cb G) (by simp)
                  have ho3 : slR.Own 35 0 wr (.slice xw G.length cw) G := HJ.out.inv (rsT xw G.length cw G) (by simp)
                  obtain ⟨r1, rfl, _, b1, _, _⟩ := own_some ho1 (by omega)
                  obtain ⟨r3, rfl, _, b3, _, _⟩ := own_some ho3 (by omega)
                  obtain ⟨d0, d1, d2⟩ := own_slice ho1 j4 _ hx
                  obtain ⟨g0, g1, g2⟩ := own_slice ho3 j4 _ hx
                  simp only at d0 d1 d2 g0 g1 g2
                  have H5 := hid HJ.out
                  have HK := hid hk
                  clear ho1 ho3 hx hk HJ HI HC HLs
                  go_wp2_with fail
                  go_quiet (fail)
                  go_wp2
                  have hk := HK.out
                  go_roundg (gk - 1)
                  case measure => omega
                  case rel => exact ⟨j4 + 1, by simp, by omega, hid (H5.out.quiet ((Keeps.refl _ _).drewN _))⟩
                · have H14 := hid HJ.out
                  clear HJ hk
                  go_wp2_with fail
                  go_loopg [161] l.length (fun k iv wr => ∃ (j : Nat), iv = .int .i64 (j : Int) ∧ k + j = l.length ∧ Hid (Hold w wr [slT xb G.length cb G, rsT xw G.length cw G, mT mb n2 c2 l]))
                  case atStart => exact ⟨0, rfl, by omega, H14⟩
                  case round =>
                    clear H14
                    obtain ⟨j5, rfl, hk, HJ⟩ := hrel
                    have ho : ptR.Own 26 0 wr (.slice (some ⟨mb, 0, none⟩) n2 c2) (l ++ [mk77]) := HJ.out.inv (mT mb n2 c2 l) (by simp)
                    by_cases hj5 : j5 < l.length
                    · obtain rfl : a = some ⟨b, off, none⟩ := by
                        rcases HI.out with h | h
                        · rw [h] at hj5; simp at hj5
                        · exact h
                      obtain ⟨⟨i, pl, pd, f⟩, hx⟩ : ∃ x, l[j5]? = some x := ⟨_, List.getElem?_eq_getElem hj5⟩
                      obtain ⟨d0, d1, d2, d3⟩ := HC.out _ (keeps_of_below HJ.out.below) j5 _ hx
                      obtain ⟨e0, e1, e2, e3⟩ := own_part ho j5 ⟨i, pl, pd, f⟩ (by rw [List.getElem?_append_left hj5]; exact hx)
                      simp only at d0 d1 d2 d3 e0 e1 e2 e3
                      have H5 := hid HJ.out
                      have HK := hid hk
                      clear ho hx hk HJ HC HLs
                      go_wp2_with fail
                      go_quiet (fail)
                      go_wp2
                      have hk := HK.out
                      go_roundg (gk - 1)
                      case measure => omega
                      case rel => exact ⟨j5 + 1, by simp, by omega, hid (H5.out.quiet ((Keeps.refl _ _).drewN _))⟩
                    · obtain ⟨e0, _, _, _⟩ := own_part ho l.length mk77 (by simp)
                      have e0' : wr.cell? ⟨mb, l.length * 4, none⟩ = some (.int .i64 (-77)) := e0
                      have z3 : (0 : Int) ≤ (l.length : Int) + 1 := by omega
                      have z4 : (l.length : Int) + 1 ≤ (c2 : Int) := by omega
                      have z5 : (l.length : Int) < (l.length : Int) + 1 := by omega
                      have H5 := hid HJ.out
                      clear ho HJ hk e0 HC HLs HI
                      go_wp2
                      go_ret
                      exact ⟨by simp, H5.out.below⟩
theorem tells_walk (left most : Int) (a : Option Addr) (cap : Nat) (l : List Pt) (w : World) (_ : -9223372036854775808 ≤ left) (h2 : left ≤ 9223372036854775807) (h : Partss w a l) : Calls Try.prog 3 #[.int .i64 left, .int .i64 most, .slice a l.length cap] w (Fine w) := by
  by_cases hL : LightL l
  · exact tells_main left most a cap l w h2 h hL
  · exact tells_heavy left most a cap l w h hL
end Go.Proofs.Ytocpjajafocdaaa
