/-
  The law PumpEmpty as a walk.
-/
import Derived.Test.YtocpjajafocdaaaMAt
namespace Go.Proofs.Ytocpjajafocdaaa
open Go.RowKit

def endsL (l : List Pt) : List Sl := l.flatMap endL
theorem plan_ends (most : Int) (l : List Pt) : planL most 0 l = endsL l := by
  induction l with
  | nil => rfl
  | cons p l ih =>
    have h := go_zero most p.id p.fin 0 p.left p.pend (.inr rfl)
    rw [planL, h.1, h.2, Int.sub_zero, ih]
    simp [endsL]
theorem ends_snoc (l : List Pt) (j : Nat) (p : Pt) (h : l[j]? = some p) : endsL (l.take (j + 1)) = endsL (l.take j) ++ endL p := by
  rw [List.take_add_one, h]
  simp [endsL]
theorem ends_sum (l : List Pt) : sumL (endsL l) = 0 := by
  induction l with
  | nil => rfl
  | cons p l ih =>
    have : endsL (p :: l) = endL p ++ endsL l := by simp [endsL]
    rw [this, sumL_append, end_sum, ih]
    rfl
theorem ends_few (l : List Pt) (j : Nat) : (endsL (l.take j)).length ≤ j := by
  induction j with
  | zero => simp [endsL]
  | succ j ih =>
    by_cases hj : j < l.length
    · rw [ends_snoc l j _ (List.getElem?_eq_getElem hj), List.length_append]
      have := end_few l[j]
      omega
    · rw [List.take_of_length_le (by omega)]
      rw [List.take_of_length_le (by omega)] at ih
      omega
attribute [local irreducible] goL planL goes leastI endL sumL endsL

set_option maxRecDepth 100000 in
theorem empty_heavy (most : Int) (a : Option Addr) (cap : Nat) (l : List Pt) (w : World) (h : Partss w a l) (hL : ¬ LightL l) : Calls Try.prog 6 #[.int .i64 most, .slice a l.length cap] w (Fine w) := by
  have HA : Hid (∀ W, Calls Try.prog 9 #[] W fun e w' => e = .returned (.bool true) ∧ Keeps nobody W w') := alive_ok
  have HL := hid (light_no most cap h.1 h.2.1 hL)
  have hl := h.2.1
  clear h hL
  go_enter Try.func6, Try.ntmps6
  go_wp2_with fail
  refine Calls.mono HL.out ?_
  rintro e w1 ⟨rfl, k1⟩
  go_wp2_with fail
  refine Calls.mono (HA.out _) ?_
  rintro e w2 ⟨rfl, k2⟩
  go_wp2
  go_ret
  exact ⟨rfl, below_of_keeps (k1.then k2)⟩
set_option maxRecDepth 100000 in
set_option maxHeartbeats 4000000 in
theorem empty_main (most : Int) (a : Option Addr) (cap : Nat) (l : List Pt) (w : World) (h : Partss w a l) (hL : LightL l) : Calls Try.prog 6 #[.int .i64 most, .slice a l.length cap] w (Fine w) := by
  have HA : Hid (∀ W, Calls Try.prog 9 #[] W fun e w' => e = .returned (.bool true) ∧ Keeps nobody W w') := alive_ok
  have HL := hid (light_yes most cap h.1 h.2.1 hL)
  have HP : Hid (∀ W ts, Hold w W ts → Calls Try.prog 11 #[.int .i64 0, .int .i64 most, .slice a l.length cap] W fun e w' => ∃ x c, e = .returned (.slice x (endsL l).length c) ∧ Hid (Hold w w' (slT x (endsL l).length c (endsL l) :: ts))) := fun W ts hh => by
    have := t_plan hh 0 most cap (h.1.quiet (keeps_of_below hh.below)) hL h.2.2 (by decide)
    rwa [plan_ends] at this
  have HS : Hid (∀ W x c ts, slT x (endsL l).length c (endsL l) ∈ ts → Hold w W ts → Calls Try.prog 12 #[.slice x (endsL l).length c] W fun e w' => e = .returned (.int .i64 0) ∧ Hid (Hold w w' ts)) := fun W x c ts hm hh => by
    have h1 := fun s hs => (plan_each most 0 l s hs).1
    have h2 := plan_small most 0 l hL
    rw [plan_ends] at h1 h2
    have := t_sum hh hm h1 (by rw [ends_sum]; decide) (by omega)
    rwa [ends_sum] at this
  obtain ⟨b, off, ha, hA⟩ := lies_atP h.1
  have HC := hid hA
  have HI := hid ha
  have hl := hL.2
  have HE := hid fun j p => ends_snoc l j p
  have HF := hid fun j => ends_few l j
  clear h hA ha hL
  go_enter Try.func6, Try.ntmps6
  go_wp2_with fail
  refine Calls.mono HL.out ?_
  rintro e w1 ⟨rfl, k1⟩
  go_wp2_with fail
  refine Calls.mono (HA.out _) ?_
  rintro e w2 ⟨rfl, k2⟩
  have H2 := hid (((hold_start w).quiet k1).quiet k2)
  clear k1 k2 HA HL
  go_wp2_with fail
  go_loopg [5, 21] l.length (fun k tv iv wr => ∃ (j : Nat) (x : Option Addr) (n c : Nat), tv = .slice x n c ∧ iv = .int .i64 (j : Int) ∧ k + j = l.length ∧ Hid (n = (endsL (l.take j)).length ∧ Hold w wr [slT x n c (endsL (l.take j))]))
  case atStart => exact ⟨0, none, 0, 0, rfl, rfl, by omega, hid (by rw [List.take_zero]; unfold endsL; exact ⟨rfl, Recs.newrow H2.out _⟩)⟩
  case round =>
    clear H2
    obtain ⟨j, x, n, c, rfl, rfl, hk, HJ⟩ := hrel
    by_cases hj : j < l.length
    · obtain rfl : a = some ⟨b, off, none⟩ := by
        rcases HI.out with h | h
        · rw [h] at hj; simp at hj
        · exact h
      obtain ⟨⟨i, pl, pd, f⟩, hx⟩ : ∃ x, l[j]? = some x := ⟨_, List.getElem?_eq_getElem hj⟩
      obtain ⟨c0, c1, c2, c3⟩ := HC.out _ (keeps_of_below HJ.out.2.below) j _ hx
      simp only at c0 c1 c2 c3
      have HX := hid (HE.out j _ hx)
      have hn := HF.out j
      have H3 := hid (HJ.out.2.newrec2 #[.int .i64 i, .int .i64 pl, .int .i64 pd, .bool f] 26)
      have HN := hid HJ.out.1
      have HK := hid hk
      have Hn := hid hn
      clear hx hk HJ HC HP HS HE HF hn
      by_cases hE : pd = 0 ∧ f = true
      · obtain ⟨rfl, rfl⟩ := hE
        have HY : Hid (endsL (l.take (j + 1)) = endsL (l.take j) ++ [⟨i, 0, true⟩]) := by
          have e1 := HX.out
          rw [end_yes ⟨i, pl, 0, true⟩ rfl rfl] at e1
          exact e1
        obtain ⟨xa, na, ca, w4, a1, a2⟩ := sl_app (ts := []) H3.out (by have := Hn.out; omega) ⟨i, 0, true⟩
        have hsz : (wr.alloc (.cells #[.int .i64 i, .int .i64 pl, .int .i64 0, .bool true] 26)).heap.size = wr.heap.size + 1 := by simp
        rw [hsz] at a1
        have RA := hid a1
        clear a1 hsz HX
        go_wp2_with (at_builtin; refine wpList_append_run rfl _ _ 31 31 rfl (.slice x n c) (.slice (some ⟨wr.heap.size + 1, 0, none⟩) 1 1) rfl rfl RA.out ?_)
        go_wp2
        have hk := HK.out
        go_roundg (gk - 1)
        case measure => omega
        case rel => exact ⟨j + 1, xa, na, ca, rfl, by simp, by omega, hid (by rw [HY.out]; exact ⟨a2.out.1, a2.out.2.sub (by simp)⟩)⟩
      · have HY : Hid (endsL (l.take (j + 1)) = endsL (l.take j)) := by
          have e1 := HX.out
          rw [end_no ⟨i, pl, pd, f⟩ hE, List.append_nil] at e1
          exact e1
        clear HX
        by_cases h1 : pd = 0
        · subst h1
          have hf : f = false := by
            cases f with
            | true => exact (hE ⟨rfl, rfl⟩).elim
            | false => rfl
          subst hf
          clear hE
          go_wp2
          have hk := HK.out
          go_roundg (gk - 1)
          case measure => omega
          case rel => exact ⟨j + 1, x, n, c, rfl, by simp, by omega, hid (by rw [HY.out]; exact ⟨HN.out, H3.out.sub (by simp)⟩)⟩
        · have q1 : (pd == 0) = false := by simpa using h1
          clear hE h1
          go_wp2
          have hk := HK.out
          go_roundg (gk - 1)
          case measure => omega
          case rel => exact ⟨j + 1, x, n, c, rfl, by simp, by omega, hid (by rw [HY.out]; exact ⟨HN.out, H3.out.sub (by simp)⟩)⟩
    · obtain rfl : j = l.length := by omega
      rw [List.take_length] at HJ
      obtain ⟨rfl, h3⟩ := HJ.out
      have H3 := hid h3
      have hG : (endsL l).length ≤ 30 := by
        have := HF.out l.length
        rw [List.take_length] at this
        omega
      clear h3 HJ hk HC HE HF HI
      generalize endsL l = G at *
      go_wp2_with fail
      refine Calls.mono (HP.out _ _ H3.out) ?_
      rintro e w4 ⟨x2, c2, rfl, H4⟩
      clear HP H3
      go_wp2_with fail
      go_loopg [49] G.length (fun k iv wr => ∃ (j : Nat), iv = .int .i64 (j : Int) ∧ k + j = G.length ∧ Hid (Hold w wr [slT x2 G.length c2 G, slT x G.length c G]))
      case atStart => exact ⟨0, rfl, by omega, H4⟩
      case round =>
        clear H4
        obtain ⟨i, rfl, hk, HJ⟩ := hrel
        by_cases hi : i < G.length
        · obtain ⟨⟨si, sn, sf⟩, hx⟩ : ∃ s, G[i]? = some s := ⟨_, List.getElem?_eq_getElem hi⟩
          have ho1 : slR.Own 34 0 wr (.slice x2 G.length c2) G := HJ.out.inv (slT x2 G.length c2 G) (by simp)
          have ho2 : slR.Own 34 0 wr (.slice x G.length c) G := HJ.out.inv (slT x G.length c G) (by simp)
          obtain ⟨r1, rfl, _, b1, _, _⟩ := own_some ho1 (by omega)
          obtain ⟨r2, rfl, _, b2, _, _⟩ := own_some ho2 (by omega)
          obtain ⟨e0, e1, e2⟩ := own_slice ho1 i _ hx
          obtain ⟨d0, d1, d2⟩ := own_slice ho2 i _ hx
          simp only at e0 e1 e2 d0 d1 d2
          have HK := hid hk
          clear ho1 ho2 hx hk HS
          go_wp2_with fail
          go_quiet (fail)
          go_wp2
          have hk := HK.out
          go_roundg (gk - 1)
          case measure => omega
          case rel => exact ⟨i + 1, by simp, by omega, hid (HJ.out.quiet ((Keeps.refl _ _).drewN _))⟩
        · clear hk
          go_wp2_with fail
          refine Calls.mono (HS.out _ _ _ _ (by simp) HJ.out) ?_
          rintro e w5 ⟨rfl, H5⟩
          go_wp2
          go_ret
          exact ⟨rfl, H5.out.below⟩
theorem empty_walk (most : Int) (a : Option Addr) (cap : Nat) (l : List Pt) (w : World) (h : Partss w a l) : Calls Try.prog 6 #[.int .i64 most, .slice a l.length cap] w (Fine w) := by
  by_cases hL : LightL l
  · exact empty_main most a cap l w h hL
  · exact empty_heavy most a cap l w h hL
end Go.Proofs.Ytocpjajafocdaaa
