/-
  The law PumpTurns as a walk.
-/
import Derived.Test.YtocpjajafocdaaaMAt
namespace Go.Proofs.Ytocpjajafocdaaa
open Go.RowKit

def pendL : List Pt → Int
  | [] => 0
  | p :: l => p.pend + pendL l
theorem plan_sum (most left : Int) (l : List Pt) (hm : 1 ≤ most) (hl : 0 ≤ left) (hp : ∀ p ∈ l, 0 ≤ p.pend ∧ p.pend ≤ p.left) : sumL (planL most left l) = min left (pendL l) ∧ 0 ≤ pendL l := by
  induction l generalizing left with
  | nil => simp only [planL, sumL, pendL]; omega
  | cons p l ih =>
    have h1 := hp p List.mem_cons_self
    have hg : goes most left p.left p.pend = min p.pend left := by
      unfold goes
      rw [if_pos (by omega)]
      omega
    have h2 := ih (left - goes most left p.left p.pend) (by rw [hg]; omega) (fun q hq => hp q (List.mem_cons_of_mem _ hq))
    simp only [planL, sumL_append, end_sum, go_sum, pendL]
    rw [hg] at h2 ⊢
    omega
theorem pend_snoc (l : List Pt) (j : Nat) (p : Pt) (h : l[j]? = some p) : pendL (l.take (j + 1)) = pendL (l.take j) + p.pend := by
  have key : ∀ a b : List Pt, pendL (a ++ b) = pendL a + pendL b := by
    intro a b
    induction a with
    | nil => simp [pendL]
    | cons x a ih => simp [pendL, ih]; omega
  rw [List.take_add_one, h, key]
  simp [pendL]
attribute [local irreducible] goL planL goes leastI endL sumL pendL

set_option maxRecDepth 100000 in
theorem turns_few (most : Int) (a : Option Addr) (cap : Nat) (l : List Pt) (w : World) (h : most < 1) : Calls Try.prog 7 #[.int .i64 most, .slice a l.length cap] w (Fine w) := by
  have HA : Hid (∀ W, Calls Try.prog 9 #[] W fun e w' => e = .returned (.bool true) ∧ Keeps nobody W w') := alive_ok
  go_enter Try.func7, Try.ntmps7
  go_wp2_with fail
  refine Calls.mono (HA.out _) ?_
  rintro e w1 ⟨rfl, k1⟩
  go_wp2
  go_ret
  exact ⟨rfl, below_of_keeps k1⟩
set_option maxRecDepth 100000 in
theorem turns_heavy (most : Int) (a : Option Addr) (cap : Nat) (l : List Pt) (w : World) (hm : 1 ≤ most) (h : Partss w a l) (hL : ¬ LightL l) : Calls Try.prog 7 #[.int .i64 most, .slice a l.length cap] w (Fine w) := by
  have HA : Hid (∀ W, Calls Try.prog 9 #[] W fun e w' => e = .returned (.bool true) ∧ Keeps nobody W w') := alive_ok
  have HL := hid (light_no most cap h.1 h.2.1 hL)
  have hl := h.2.1
  clear h hL
  go_enter Try.func7, Try.ntmps7
  go_wp2_with fail
  refine Calls.mono HL.out ?_
  rintro e w1 ⟨rfl, k1⟩
  go_wp2_with fail
  refine Calls.mono (HA.out _) ?_
  rintro e w2 ⟨rfl, k2⟩
  go_wp2
  go_ret
  exact ⟨rfl, below_of_keeps (k1.then k2)⟩
set_option maxRecDepth 100000 in
set_option maxHeartbeats 4000000 in
theorem turns_main (most : Int) (a : Option Addr) (cap : Nat) (l : List Pt) (w : World) (hm : 1 ≤ most) (h : Partss w a l) (hL : LightL l) : Calls Try.prog 7 #[.int .i64 most, .slice a l.length cap] w (Fine w) := by
  have HA : Hid (∀ W, Calls Try.prog 9 #[] W fun e w' => e = .returned (.bool true) ∧ Keeps nobody W w') := alive_ok
  have HL := hid (light_yes most cap h.1 h.2.1 hL)
  have HP : Hid (∀ W ts left, left ≤ 9223372036854775807 → Hold w W ts → Calls Try.prog 11 #[.int .i64 left, .int .i64 most, .slice a l.length cap] W fun e w' => ∃ x c, e = .returned (.slice x (planL most left l).length c) ∧ Hid (Hold w w' (slT x (planL most left l).length c (planL most left l) :: ts))) := fun W ts left hleft hh => t_plan hh left most cap (h.1.quiet (keeps_of_below hh.below)) hL h.2.2 hleft
  obtain ⟨b, off, ha, hA⟩ := lies_atP h.1
  have HC := hid hA
  have HI := hid ha
  have HQ := hid hL
  have hl := hL.2
  clear h hA ha hL
  go_enter Try.func7, Try.ntmps7
  go_wp2_with fail
  refine Calls.mono HL.out ?_
  rintro e w1 ⟨rfl, k1⟩
  go_wp2_with fail
  refine Calls.mono (HA.out _) ?_
  rintro e w2 ⟨rfl, k2⟩
  have H2 := hid (((hold_start w).quiet k1).quiet k2)
  clear k1 k2 HA HL
  go_wp2_with fail
  go_loopg [5, 24] l.length (fun k nv iv wr => ∃ (j : Nat) (n : Int), nv = .int .i64 n ∧ iv = .int .i64 (j : Int) ∧ k + j = l.length ∧ Hid (n = pendL (l.take j) ∧ (∀ i p, i < j → l[i]? = some p → 0 ≤ p.pend ∧ p.pend ≤ p.left) ∧ 0 ≤ n ∧ n ≤ 4000 * j ∧ Hold w wr []))
  case atStart => exact ⟨0, 0, rfl, rfl, by omega, hid ⟨by unfold pendL; rfl, fun i p hi => by omega, Int.le_refl _, by omega, H2.out⟩⟩
  case round =>
    clear H2
    obtain ⟨j, n, rfl, rfl, hk, HJ⟩ := hrel
    by_cases hj : j < l.length
    · obtain rfl : a = some ⟨b, off, none⟩ := by
        rcases HI.out with h | h
        · rw [h] at hj; simp at hj
        · exact h
      obtain ⟨⟨i, pl, pd, f⟩, hx⟩ : ∃ x, l[j]? = some x := ⟨_, List.getElem?_eq_getElem hj⟩
      obtain ⟨c0, c1, c2, c3⟩ := HC.out _ (keeps_of_below HJ.out.2.2.2.2.below) j _ hx
      have hpd := HQ.out.1 _ (List.mem_of_getElem? hx)
      simp only at c0 c1 c2 c3 hpd
      have HX := hid hx
      have HK := hid hk
      have n0 := HJ.out.2.2.1
      have n1 := HJ.out.2.2.2.1
      have n2 : n ≤ 120000 := by omega
      clear hx hk n1 HC HP
      by_cases q1 : pd < 0
      · go_wp2_with fail
        go_quiet (fail)
        go_wp2
        go_ret
        exact ⟨rfl, (HJ.out.2.2.2.2.quiet ((Keeps.refl _ _).drewN _)).below⟩
      · by_cases q2 : pl < pd
        · go_wp2_with fail
          go_quiet (fail)
          go_wp2
          go_ret
          exact ⟨rfl, (HJ.out.2.2.2.2.quiet ((Keeps.refl _ _).drewN _)).below⟩
        · have z1 : 0 ≤ n + pd := by omega
          have z2 : n + pd ≤ 124000 := by omega
          have q1' : decide (pd < 0) = false := by simpa using q1
          have q2' : decide (pl < pd) = false := by simpa using q2
          have HJ2 : Hid (n + pd = pendL (l.take (j + 1)) ∧ (∀ i p, i < j + 1 → l[i]? = some p → 0 ≤ p.pend ∧ p.pend ≤ p.left) ∧ 0 ≤ n + pd ∧ n + pd ≤ 4000 * ((j + 1 : Nat) : Int)) := by
            refine ⟨by rw [pend_snoc l j _ HX.out, ← HJ.out.1], fun i' p hi hp => ?_, z1, by have := HJ.out.2.2.2.1; omega⟩
            by_cases e : i' = j
            · subst e
              rw [HX.out] at hp
              simp at hp
              subst hp
              exact ⟨by show 0 ≤ pd; omega, by show pd ≤ pl; omega⟩
            · exact HJ.out.2.1 i' p (by omega) hp
          go_wp2_with fail
          go_quiet (fail)
          go_wp2
          have hk := HK.out
          go_roundg (gk - 1)
          case measure => omega
          case rel => exact ⟨j + 1, n + pd, rfl, by simp, by omega, hid ⟨HJ2.out.1, HJ2.out.2.1, HJ2.out.2.2.1, HJ2.out.2.2.2, HJ.out.2.2.2.2.quiet ((Keeps.refl _ _).drewN _)⟩⟩
    · obtain rfl : j = l.length := by omega
      have hgood : ∀ p ∈ l, 0 ≤ p.pend ∧ p.pend ≤ p.left := by
        intro p hp
        obtain ⟨i, hi, rfl⟩ := List.mem_iff_getElem.1 hp
        exact HJ.out.2.1 i _ hi (List.getElem?_eq_getElem hi)
      have hN : n = pendL l := by
        have := HJ.out.1
        rwa [List.take_length] at this
      have n0 := HJ.out.2.2.1
      have n2 : n ≤ 120000 := by have := HJ.out.2.2.2.1; omega
      have H2 := hid HJ.out.2.2.2.2
      have s1 := (plan_sum most n l hm n0 hgood).1
      have f1 := plan_small most n l HQ.out
      have e1 := hid fun s hs => (plan_each most n l s hs).1
      have HP1 := hid fun W ts => HP.out W ts n (by omega)
      rw [← hN, Int.min_self] at s1
      by_cases hz : n = 0
      · subst hz
        clear hgood hN HJ HP hk HC HI HQ
        generalize planL most 0 l = G1 at *
        have HS : Hid (∀ W x c ts, slT x G1.length c G1 ∈ ts → Hold w W ts → Calls Try.prog 12 #[.slice x G1.length c] W fun e w' => e = .returned (.int .i64 0) ∧ Hid (Hold w w' ts)) := fun W x c ts hm hh => by
          have := t_sum hh hm e1.out (by omega) (by omega)
          rwa [s1] at this
        clear s1 f1 e1
        go_wp2_with fail
        refine Calls.mono (HP1.out _ _ H2.out) ?_
        rintro e w3 ⟨x1, c1, rfl, H3⟩
        go_wp2_with fail
        refine Calls.mono (HP1.out _ _ H3.out) ?_
        rintro e w4 ⟨x2, c2, rfl, H4⟩
        go_wp2_with fail
        refine Calls.mono (HS.out _ _ _ _ (by simp) H4.out) ?_
        rintro e w5 ⟨rfl, H5⟩
        go_wp2
        go_ret
        exact ⟨rfl, H5.out.below⟩
      · have s2 := (plan_sum most (n - 1) l hm (by omega) hgood).1
        have f2 := plan_small most (n - 1) l HQ.out
        have e2 := hid fun s hs => (plan_each most (n - 1) l s hs).1
        have HP2 := hid fun W ts => HP.out W ts (n - 1) (by omega)
        have hmin : min (n - 1) n = n - 1 := by omega
        rw [← hN, hmin] at s2
        have hmax : ∀ ts t W, (Builtin.max_ ts t #[.int .i64 (n - 1), .int .i64 0]).run Try.prog W = .ok (.int .i64 (n - 1)) W := fun ts t W => by
          rw [max_two]
          have : max (n - 1) 0 = n - 1 := by omega
          rw [this]
        have hz' : (n == 0) = false := by simpa using hz
        have n1 : 1 ≤ n := by omega
        clear hgood hN HJ HP hk HC HI HQ hmin hz n0
        generalize planL most n l = G1 at *
        generalize planL most (n - 1) l = G2 at *
        have HS1 : Hid (∀ W x c ts, slT x G1.length c G1 ∈ ts → Hold w W ts → Calls Try.prog 12 #[.slice x G1.length c] W fun e w' => e = .returned (.int .i64 n) ∧ Hid (Hold w w' ts)) := fun W x c ts hm hh => by
          have := t_sum hh hm e1.out (by omega) (by omega)
          rwa [s1] at this
        have HS2 : Hid (∀ W x c ts, slT x G2.length c G2 ∈ ts → Hold w W ts → Calls Try.prog 12 #[.slice x G2.length c] W fun e w' => e = .returned (.int .i64 (n - 1)) ∧ Hid (Hold w w' ts)) := fun W x c ts hm hh => by
          have := t_sum hh hm e2.out (by omega) (by omega)
          rwa [s2] at this
        clear s1 f1 e1 s2 f2 e2
        go_wp2_with fail
        refine Calls.mono (HP1.out _ _ H2.out) ?_
        rintro e w3 ⟨x1, c1, rfl, H3⟩
        go_wp2_with fail
        refine Calls.mono (HP2.out _ _ H3.out) ?_
        rintro e w4 ⟨x2, c2, rfl, H4⟩
        go_wp2_with fail
        refine Calls.mono (HS1.out _ _ _ _ (by simp) H4.out) ?_
        rintro e w5 ⟨rfl, H5⟩
        go_wp2_with fail
        refine Calls.mono (HS2.out _ _ _ _ (by simp) H5.out) ?_
        rintro e w6 ⟨rfl, H6⟩
        go_wp2
        go_ret
        exact ⟨rfl, H6.out.below⟩
theorem turns_walk (most : Int) (a : Option Addr) (cap : Nat) (l : List Pt) (w : World) (h : Partss w a l) : Calls Try.prog 7 #[.int .i64 most, .slice a l.length cap] w (Fine w) := by
  by_cases hm : most < 1
  · exact turns_few most a cap l w hm
  · by_cases hL : LightL l
    · exact turns_main most a cap l w (by omega) h hL
    · exact turns_heavy most a cap l w (by omega) h hL
end Go.Proofs.Ytocpjajafocdaaa
