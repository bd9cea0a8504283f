/-
  The law PumpOne as a walk.
-/
import Derived.Test.YtocpjajafocdaaaMAt
namespace Go.Proofs.Ytocpjajafocdaaa
open Go.RowKit

/-- How many slices of what goes. -/
theorem go_len (m : Nat) (id : Int) (fin : Bool) (hm : 0 < m) (left pl pd : Int) : (goL (m : Int) id fin left pl pd).length = ((goes (m : Int) left pl pd).toNat + m - 1) / m := by
  refine go_ind (m : Int) (P := fun left pl pd => (goL (m : Int) id fin left pl pd).length = ((goes (m : Int) left pl pd).toNat + m - 1) / m) ?_ ?_ left pl pd
  · intro left pl pd h
    rw [go_none _ _ _ _ _ _ h, goes_none _ _ _ _ h]
    rw [List.length_nil, Int.toNat_zero, Nat.zero_add, Nat.div_eq_of_lt (by omega)]
  · intro left pl pd n hn h ih
    rw [go_step _ _ _ _ _ _ n hn h, List.length_cons, ih]
    have hs := goes_step (m : Int) left pl pd n hn h
    have hle := least_le left (m : Int) pl pd
    rw [hn] at hle
    have h1 := goes_le (m : Int) (left - n) (pl - n) (pd - n)
    generalize hg : goes (m : Int) (left - n) (pl - n) (pd - n) = g at *
    generalize goes (m : Int) left pl pd = G at *
    have hG : G = n + g := by omega
    by_cases hnm : n = m
    · have e : G.toNat + m - 1 = (g.toNat + m - 1) + m := by omega
      rw [e, Nat.add_div_right _ hm]
    · have hg0 : g = 0 := by
        rw [← hg]
        apply goes_none
        rw [least_pos]
        unfold leastI at hn
        omega
      have e1 : (g.toNat + m - 1) / m = 0 := Nat.div_eq_of_lt (by omega)
      have e2 : G.toNat + m - 1 = (n.toNat - 1) + m := by omega
      have e3 : (n.toNat - 1) / m = 0 := Nat.div_eq_of_lt (by omega)
      rw [e1, e2, Nat.add_div_right _ hm, e3]
/-- Each slice but the last is as great as may be, and has no end; the last one has the end, if all goes. -/
theorem go_at (most id : Int) (fin : Bool) (left pl pd : Int) : ∀ i s, (goL most id fin left pl pd)[i]? = some s → s.id = id ∧ (i + 1 < (goL most id fin left pl pd).length → s.n = most ∧ s.fin = false) ∧ (i + 1 = (goL most id fin left pl pd).length → s.fin = (fin && decide (goes most left pl pd = pd))) := by
  refine go_ind most (P := fun left pl pd => ∀ i s, (goL most id fin left pl pd)[i]? = some s → s.id = id ∧ (i + 1 < (goL most id fin left pl pd).length → s.n = most ∧ s.fin = false) ∧ (i + 1 = (goL most id fin left pl pd).length → s.fin = (fin && decide (goes most left pl pd = pd)))) ?_ ?_ left pl pd
  · intro left pl pd h i s hs
    rw [go_none _ _ _ _ _ _ h] at hs
    simp at hs
  · intro left pl pd n hn h ih i s hs
    have hle := least_le left most pl pd
    rw [hn] at hle
    have hs2 := goes_step most left pl pd n hn h
    rw [go_step _ _ _ _ _ _ n hn h] at hs ⊢
    cases i with
    | zero =>
      simp at hs
      subst hs
      refine ⟨rfl, fun hlt => ?_, fun heq => ?_⟩
      · have hne : ¬ (goL most id fin (left - n) (pl - n) (pd - n)) = [] := by
          intro e
          rw [e] at hlt
          simp at hlt
        have hp : 0 < leastI (left - n) most (pl - n) (pd - n) := by
          by_cases hp : 0 < leastI (left - n) most (pl - n) (pd - n)
          · exact hp
          · exact (hne (go_none _ _ _ _ _ _ hp)).elim
        rw [least_pos] at hp
        unfold leastI at hn
        refine ⟨?_, ?_⟩
        · show n = most
          omega
        · show (fin && decide (pd - n = 0)) = false
          have : ¬ pd - n = 0 := by omega
          rw [decide_eq_false this, Bool.and_false]
      · have hp : ¬ 0 < leastI (left - n) most (pl - n) (pd - n) := by
          intro hp
          rw [go_step _ _ _ _ _ _ _ rfl hp] at heq
          simp at heq
        have hg := goes_none _ _ _ _ hp
        show (fin && decide (pd - n = 0)) = (fin && decide (goes most left pl pd = pd))
        congr 1
        apply decide_eq_decide.2
        omega
    | succ i =>
      have hs' : (goL most id fin (left - n) (pl - n) (pd - n))[i]? = some s := by simpa using hs
      obtain ⟨h1, h2, h3⟩ := ih i s hs'
      refine ⟨h1, fun hlt => h2 (by simpa using hlt), fun heq => ?_⟩
      rw [h3 (by simpa using heq)]
      congr 1
      apply decide_eq_decide.2
      omega
theorem plan_one (most left : Int) (p : Pt) (h : 1 ≤ p.pend) : planL most left [p] = goL most p.id p.fin left p.left p.pend := by
  have : ¬ (p.pend = 0 ∧ p.fin = true) := by omega
  simp [planL, end_no p this]
attribute [local irreducible] goL planL goes leastI endL sumL

set_option maxRecDepth 100000 in
theorem one_off1 (left most : Int) (p : Pt) (w : World) (h : most < 1) : Calls Try.prog 5 #[.int .i64 left, .int .i64 most, ptV p] w (Fine w) := by
  have HA : Hid (∀ W, Calls Try.prog 9 #[] W fun e w' => e = .returned (.bool true) ∧ Keeps nobody W w') := alive_ok
  obtain ⟨i, pl, pd, f⟩ := p
  go_enter Try.func5, Try.ntmps5
  go_wp2_with fail
  refine Calls.mono (HA.out _) ?_
  rintro e w1 ⟨rfl, k1⟩
  go_wp2
  go_ret
  exact ⟨rfl, below_of_keeps ((keeps_alloc w _).then k1)⟩
set_option maxRecDepth 100000 in
theorem one_off2 (left most : Int) (p : Pt) (w : World) (h0 : 1 ≤ most) (h : 1000 < most) : Calls Try.prog 5 #[.int .i64 left, .int .i64 most, ptV p] w (Fine w) := by
  have HA : Hid (∀ W, Calls Try.prog 9 #[] W fun e w' => e = .returned (.bool true) ∧ Keeps nobody W w') := alive_ok
  obtain ⟨i, pl, pd, f⟩ := p
  go_enter Try.func5, Try.ntmps5
  go_wp2_with fail
  refine Calls.mono (HA.out _) ?_
  rintro e w1 ⟨rfl, k1⟩
  go_wp2
  go_ret
  exact ⟨rfl, below_of_keeps ((keeps_alloc w _).then k1)⟩
set_option maxRecDepth 100000 in
theorem one_off3 (left most : Int) (p : Pt) (w : World) (h0 : 1 ≤ most) (h1 : most ≤ 1000) (h : p.pend < 1) : Calls Try.prog 5 #[.int .i64 left, .int .i64 most, ptV p] w (Fine w) := by
  have HA : Hid (∀ W, Calls Try.prog 9 #[] W fun e w' => e = .returned (.bool true) ∧ Keeps nobody W w') := alive_ok
  obtain ⟨i, pl, pd, f⟩ := p
  simp only at h
  go_enter Try.func5, Try.ntmps5
  go_wp2_with fail
  refine Calls.mono (HA.out _) ?_
  rintro e w1 ⟨rfl, k1⟩
  go_wp2
  go_ret
  exact ⟨rfl, below_of_keeps ((keeps_alloc w _).then k1)⟩
set_option maxRecDepth 100000 in
theorem one_off4 (left most : Int) (p : Pt) (w : World) (h0 : 1 ≤ most) (h1 : most ≤ 1000) (h2 : 1 ≤ p.pend) (h : 3000 < p.pend) : Calls Try.prog 5 #[.int .i64 left, .int .i64 most, ptV p] w (Fine w) := by
  have HA : Hid (∀ W, Calls Try.prog 9 #[] W fun e w' => e = .returned (.bool true) ∧ Keeps nobody W w') := alive_ok
  obtain ⟨i, pl, pd, f⟩ := p
  simp only at h h2
  go_enter Try.func5, Try.ntmps5
  go_wp2_with fail
  refine Calls.mono (HA.out _) ?_
  rintro e w1 ⟨rfl, k1⟩
  go_wp2
  go_ret
  exact ⟨rfl, below_of_keeps ((keeps_alloc w _).then k1)⟩
set_option maxRecDepth 100000 in
set_option maxHeartbeats 4000000 in
theorem one_main (left : Int) (m : Nat) (p : Pt) (w : World) (h : PtIn p) (hleft : left ≤ 9223372036854775807) (m1 : 1 ≤ m) (m2 : m ≤ 1000) (p1 : 1 ≤ p.pend) (p2 : p.pend ≤ 3000) : Calls Try.prog 5 #[.int .i64 left, .int .i64 (m : Int), ptV p] w (Fine w) := by
  have HA : Hid (∀ W, Calls Try.prog 9 #[] W fun e w' => e = .returned (.bool true) ∧ Keeps nobody W w') := alive_ok
  have hlen := go_len m p.id p.fin (by omega) left p.left p.pend
  have HG := hid (go_at (m : Int) p.id p.fin left p.left p.pend)
  have hs := go_sum (m : Int) p.id p.fin left p.left p.pend
  have hn := hid fun s hs => (go_each (m : Int) p.id p.fin left p.left p.pend s hs).2.1
  have hf := go_few (m : Int) p.id p.fin left p.left p.pend
  have hpl := plan_one (m : Int) left p p1
  have hg : goes (m : Int) left p.left p.pend = max (min (min left p.left) p.pend) 0 := by
    unfold goes
    rw [if_pos (by omega)]
    omega
  have HP : Hid (∀ W ts a, ptR.Lies W a [p] nobody → Hold w W ts → Calls Try.prog 11 #[.int .i64 left, .int .i64 (m : Int), .slice a 1 1] W fun e w' => ∃ x c, e = .returned (.slice x (goL (m : Int) p.id p.fin left p.left p.pend).length c) ∧ Hid (Hold w w' (slT x (goL (m : Int) p.id p.fin left p.left p.pend).length c (goL (m : Int) p.id p.fin left p.left p.pend) :: ts))) := fun W ts a ha hh => by
    have := t_plan hh left (m : Int) 1 ha ⟨fun q hq => by simp at hq; subst hq; omega, by simp⟩ (fun q hq => by simp at hq; subst hq; exact h) hleft
    rwa [hpl] at this
  have hmin : ∀ ts t W, (Builtin.min_ ts t #[.int .i64 left, .int .i64 p.left, .int .i64 p.pend]).run Try.prog W = .ok (.int .i64 (min (min left p.left) p.pend)) W := min_three _ _ _
  have hmax : ∀ ts t W, (Builtin.max_ ts t #[.int .i64 (min (min left p.left) p.pend), .int .i64 0]).run Try.prog W = .ok (.int .i64 (goes (m : Int) left p.left p.pend)) W := fun ts t W => by rw [max_two, hg]
  obtain ⟨q, hq⟩ := Int.eq_ofNat_of_zero_le (show 0 ≤ goes (m : Int) left p.left p.pend by omega)
  have hqp : q ≤ 3000 := by omega
  rw [hq] at hlen HG hs hmax
  clear hg hpl hq
  have hfew : (goL (m : Int) p.id p.fin left p.left p.pend).length ≤ 3000 := by omega
  clear hf
  generalize goL (m : Int) p.id p.fin left p.left p.pend = G at *
  generalize min (min left p.left) p.pend = mn at *
  obtain ⟨z1, z2, hadd, hsub, hquo, hlm1, hlm2⟩ : ∃ z1 z2 : Nat, (q : Int) + (m : Int) = (z1 : Int) ∧ (z1 : Int) - 1 = (z2 : Int) ∧ (z2 : Int).tdiv (m : Int) = (G.length : Int) ∧ z1 ≤ 4000 ∧ z2 ≤ 4000 :=
    ⟨q + m, q + m - 1, by omega, by omega, by rw [hlen]; rfl, by omega, by omega⟩
  have HS : Hid (∀ W x c ts, slT x G.length c G ∈ ts → Hold w W ts → Calls Try.prog 12 #[.slice x G.length c] W fun e w' => e = .returned (.int .i64 (q : Int)) ∧ Hid (Hold w w' ts)) := fun W x c ts hm hh => by
    have := t_sum hh hm (fun s hs => by have := hn.out s hs; omega) (by rw [hs]; omega) (by omega)
    rwa [hs] at this
  clear hlen hs hn h
  obtain ⟨i, pl, pd, f⟩ := p
  simp only at p1 p2 HG HP hmin hmax
  have H0 := hid ((hold_start w).newrec #[.int .i64 i, .int .i64 pl, .int .i64 pd, .bool f] 26)
  obtain ⟨c0, c1, c2, c3, _, _⟩ := hold_pt (g := w.heap.size) (i := i) (pl := pl) (pd := pd) (f := f) H0.out (by simp)
  go_enter Try.func5, Try.ntmps5
  go_wp2_with fail
  refine Calls.mono (HA.out _) ?_
  rintro e w1 ⟨rfl, k1⟩
  have H1 := hid (H0.out.quiet k1)
  obtain ⟨d0, d1, d2, d3, _, _⟩ := hold_pt (g := w.heap.size) (i := i) (pl := pl) (pd := pd) (f := f) H1.out (by simp)
  have HX : Hid (∀ cs, cs = #[.int .i64 i, .int .i64 pl, .int .i64 pd, .bool f] → ptR.Lies (w1.alloc (.cells cs 26)) (some ⟨w1.heap.size, 0, none⟩) [⟨i, pl, pd, f⟩] nobody) := fun cs e => by subst e; exact Recs.lit_lies _ _ rfl (fun _ h => h.elim)
  have H2 := hid (H1.out.quiet (keeps_alloc w1 (.cells #[.int .i64 i, .int .i64 pl, .int .i64 pd, .bool f] 26)))
  clear H0 c0 c1 c2 c3 k1 H1 HA
  go_wp2_with fail
  refine Calls.mono (HP.out _ _ _ (HX.out _ rfl) H2.out) ?_
  rintro e w3 ⟨x, c, rfl, H3⟩
  clear HX H2 HP d0 d1 d2 d3
  go_wp2_with fail
  refine Calls.mono (HS.out _ _ _ _ (by simp) H3.out) ?_
  rintro e w4 ⟨rfl, H4⟩
  clear HS H3
  go_wp2_with fail
  clear hadd hsub hquo hmin hmax hlm1 hlm2
  go_loopg [61] G.length (fun k iv wr => ∃ (j : Nat), iv = .int .i64 (j : Int) ∧ k + j = G.length ∧ Hid (Hold w wr [slT x G.length c G, ptT w.heap.size i pl pd f]))
  case atStart => exact ⟨0, rfl, by omega, H4⟩
  case round =>
    clear H4
    obtain ⟨j, rfl, hk, HJ⟩ := hrel
    by_cases hj : j < G.length
    · obtain ⟨⟨si, sn, sf⟩, hx⟩ : ∃ s, G[j]? = some s := ⟨_, List.getElem?_eq_getElem hj⟩
      have ho : slR.Own 34 0 wr (.slice x G.length c) G := HJ.out.inv (slT x G.length c G) (by simp)
      obtain ⟨rb, rfl, _, hb, _, _⟩ := own_some ho (by omega)
      obtain ⟨c0, c1, c2⟩ := own_slice ho j _ hx
      obtain ⟨d0, d1, d2, d3, _, _⟩ := hold_pt (g := w.heap.size) (i := i) (pl := pl) (pd := pd) (f := f) HJ.out (by simp)
      have hwb : w.heap.size < wr.heap.size := (HJ.out.cellsOf (g := w.heap.size) (cs := #[.int .i64 i, .int .i64 pl, .int .i64 pd, .bool f]) (T := 26) (by simp)).2.2
      obtain ⟨s1, s2, s3⟩ := HG.out j _ hx
      simp only at c0 c1 c2 s1 s2 s3
      subst s1
      have HK := hid hk
      have H5 := hid (HJ.out.quiet (keeps_alloc wr (.cells #[.int .i64 si, .int .i64 sn, .bool sf] 34)))
      by_cases hlt : j + 1 < G.length
      · obtain ⟨rfl, rfl⟩ := s2 hlt
        have t1 : (j : Int) < (G.length : Int) - 1 := by omega
        have t2 : ((j : Int) == (G.length : Int) - 1) = false := by simp; omega
        clear s2 s3 ho hx hk HJ HG
        go_wp2
        have hk := HK.out
        go_roundg (gk - 1)
        case measure => omega
        case rel => exact ⟨j + 1, by simp, by omega, H5⟩
      · have hle : j + 1 = G.length := by omega
        have s4 := s3 hle
        have t1 : ¬ (j : Int) < (G.length : Int) - 1 := by omega
        have t2 : ((j : Int) == (G.length : Int) - 1) = true := by simp; omega
        clear s2 s3 ho hx HJ HG hle
        cases f with
        | false =>
          rw [Bool.false_and] at s4
          subst s4
          clear hk
          go_wp2
          have hk := HK.out
          go_roundg (gk - 1)
          case measure => omega
          case rel => exact ⟨j + 1, by simp, by omega, H5⟩
        | true =>
          rw [Bool.true_and] at s4
          by_cases hz : (q : Int) = pd
          · rw [decide_eq_true hz] at s4
            have t3 : ((q : Int) == pd) = true := by simpa using hz
            subst s4
            clear hk hz
            go_wp2
            have hk := HK.out
            go_roundg (gk - 1)
            case measure => omega
            case rel => exact ⟨j + 1, by simp, by omega, H5⟩
          · rw [decide_eq_false hz] at s4
            have t3 : ((q : Int) == pd) = false := by simpa using hz
            subst s4
            clear hk hz
            go_wp2
            have hk := HK.out
            go_roundg (gk - 1)
            case measure => omega
            case rel => exact ⟨j + 1, by simp, by omega, H5⟩
    · clear HG hk
      go_wp2
      go_ret
      exact ⟨rfl, HJ.out.below⟩
theorem one_walk (left most : Int) (p : Pt) (w : World) (_ : -9223372036854775808 ≤ left) (hleft : left ≤ 9223372036854775807) (h : PtIn p) : Calls Try.prog 5 #[.int .i64 left, .int .i64 most, ptV p] w (Fine w) := by
  by_cases h1 : most < 1
  · exact one_off1 left most p w h1
  by_cases h2 : 1000 < most
  · exact one_off2 left most p w (by omega) h2
  by_cases h3 : p.pend < 1
  · exact one_off3 left most p w (by omega) (by omega) h3
  by_cases h4 : 3000 < p.pend
  · exact one_off4 left most p w (by omega) (by omega) (by omega) h4
  obtain ⟨m, rfl⟩ := Int.eq_ofNat_of_zero_le (show 0 ≤ most by omega)
  exact one_main left m p w h hleft (by omega) (by omega) (by omega) (by omega)
end Go.Proofs.Ytocpjajafocdaaa
