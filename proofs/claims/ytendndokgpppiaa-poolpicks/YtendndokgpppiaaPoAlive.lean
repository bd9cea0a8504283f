/-
  Package pool: live, Wants where no connection is there; the statements' first call of all.
-/
import Derived.Test.YtendndokgpppiaaPoDial
namespace Go.Proofs.Ytendndokgpppiaa
open Go.RowKit
attribute [local irreducible] cnT cnW

section
variable {W w : World} {p : Po} {ts : List Thing}
theorem live_none (H : Hold W w (poTs p ts)) (hL : p.L = []) : Calls Try.prog 27 #[.pointer (some ⟨p.g, 0, none⟩)] w fun e w' => e = .returned (.int .i64 0) ∧ w = w' := by
  have HL := hid (plines_ok H)
  have hlen := H.len
  rw [hL] at hlen
  clear H
  obtain ⟨g, ev, wa, mo, la, di, x, n, c, L⟩ := p
  simp only [List.length_nil] at hlen HL hL ⊢
  subst hlen hL
  go_enter Try.func27, Try.ntmps27
  go_wp2_with fail
  refine Calls.mono HL.out ?_
  rintro e w1 ⟨rfl, rfl⟩
  go_wp2
  go_loopg [3, 9] 0 (fun k v i wr => v = .int .i64 0 ∧ i = .int .i64 0 ∧ wr = w)
  case atStart => exact ⟨rfl, rfl, rfl⟩
  case round =>
    obtain ⟨rfl, rfl, rfl⟩ := hrel
    go_wp2
    go_ret
    exact ⟨rfl, rfl⟩
theorem wants_no (H : Hold W w (poTs p ts)) (F : PFit p) (n : Int) (hn : n < 1) : Calls Try.prog 18 #[.pointer (some ⟨p.g, 0, none⟩), .int .i64 n] w fun e w' => e = .returned (.bool false) ∧ w = w' := by
  have HM := hid (pmade_ok H F)
  clear H
  go_enter Try.func18, Try.ntmps18
  go_wp2_with fail
  refine Calls.mono HM.out ?_
  rintro e w1 ⟨rfl, rfl⟩
  go_wp2
  go_ret
  exact ⟨rfl, rfl⟩
theorem wants_yes (H : Hold W w (poTs p ts)) (F : PFit p) (hL : p.L = []) (hd : p.dialing = false) (n : Int) (hn : 1 ≤ n) : Calls Try.prog 18 #[.pointer (some ⟨p.g, 0, none⟩), .int .i64 n] w fun e w' => e = .returned (.bool true) ∧ Keeps nobody w w' := by
  have HM := hid (pmade_ok H F)
  have HP : Hid (Calls Try.prog 19 #[.pointer (some ⟨p.g, 0, none⟩)] w fun e w' => e = .returned (.tuple #[.int .i64 0, .bool false]) ∧ Keeps nobody w w') := by
    have := pick_ok H F
    rw [hL] at this
    exact this
  obtain ⟨_, _, _, _, c4, _, c6, _, _, hlt⟩ := H.po
  rw [hd] at c6
  have hm : (0 : Int) < (p.most : Int) := by have := F.most1; omega
  have HV : Hid (∀ W2, Keeps nobody w W2 → W2.cell? ⟨p.g, 4, none⟩ = some (.int .i64 (p.most : Int)) ∧ ∀ k, Calls Try.prog 27 #[.pointer (some ⟨p.g, 0, none⟩)] (W2.drewN k) fun e w' => e = .returned (.int .i64 0) ∧ w' = W2.drewN k) := fun W2 hk => ⟨(H.quiet hk).po.2.2.2.2.1, fun k => (live_none ((H.quiet hk).quiet ((Keeps.refl _ _).drewN k)) hL).mono fun _ _ h => ⟨h.1, h.2.symm⟩⟩
  clear H hd
  go_enter Try.func18, Try.ntmps18
  go_wp2_with fail
  refine Calls.mono HM.out ?_
  rintro e w1 ⟨rfl, rfl⟩
  go_wp2_with fail
  refine Calls.mono HP.out ?_
  rintro e w2 ⟨rfl, k2⟩
  obtain ⟨d4, hv⟩ := HV.out w2 k2
  have HB := hid hv
  have KK := hid k2
  clear HV hv k2
  go_wp2_with fail
  go_quiet (first | (go_at_call 27; exact Calls.quiet_of_same (HB.out _)))
  go_wp2
  go_ret
  refine ⟨?_, KK.out.drewN _⟩
  show Ending.returned (.bool (decide (0 < p.most))) = _
  rw [decide_eq_true (by have := F.most1; omega)]
end
theorem fit_5 {g most last : Nat} {d : Bool} {x : Option Addr} {n c : Nat} {L : List (Nat × Cn)} (h1 : 1 ≤ most) (h2 : most ≤ 3) (h3 : last ≤ 1000000) (h4 : L.length ≤ 1000000) : PFit ⟨g, 5, 5, most, last, d, x, n, c, L⟩ :=
  ⟨by simp, by simp, by simp, by simp, h1, h2, h3, h4⟩
set_option maxRecDepth 100000 in
set_option maxHeartbeats 1000000 in
theorem alive_ok (w : World) : Calls Try.prog 6 #[] w fun e w' => e = .returned (.bool true) ∧ Keeps nobody w w' := by
  have HN := hid (pnew_ok 5 5 2 (by decide) (by decide) (by decide) w)
  have H1 : Hid (∀ W g, Hold w W (poTs ⟨g, 5, 5, 2, 0, false, none, 0, 0, []⟩ []) → Calls Try.prog 18 #[.pointer (some ⟨g, 0, none⟩), .int .i64 1] W fun e w' => e = .returned (.bool true) ∧ Hid (Hold w w' (poTs ⟨g, 5, 5, 2, 0, false, none, 0, 0, []⟩ []))) := fun W g H => (wants_yes H (fit_5 (by decide) (by decide) (by decide) (by decide)) rfl rfl 1 (by decide)).mono fun e w' h => ⟨h.1, H.quiet h.2⟩
  have H2 : Hid (∀ W g, Hold w W (poTs ⟨g, 5, 5, 2, 0, false, none, 0, 0, []⟩ []) → Calls Try.prog 18 #[.pointer (some ⟨g, 0, none⟩), .int .i64 0] W fun e w' => e = .returned (.bool false) ∧ W = w') := fun W g H => wants_no H (fit_5 (by decide) (by decide) (by decide) (by decide)) 0 (by decide)
  have H3 : Hid (∀ W g, Hold w W (poTs ⟨g, 5, 5, 2, 0, false, none, 0, 0, []⟩ []) → Calls Try.prog 8 #[.pointer (some ⟨g, 0, none⟩)] W fun e w' => e = .returned (.bool true) ∧ Hid (Hold w w' (poTs ⟨g, 5, 5, 2, 0, true, none, 0, 0, []⟩ []))) := fun W g H => dial_ok H (fit_5 (by decide) (by decide) (by decide) (by decide))
  have H4 : Hid (∀ W g, Hold w W (poTs ⟨g, 5, 5, 2, 0, true, none, 0, 0, []⟩ []) → Calls Try.prog 8 #[.pointer (some ⟨g, 0, none⟩)] W fun e w' => e = .returned (.bool false) ∧ Hid (Hold w w' (poTs ⟨g, 5, 5, 2, 0, true, none, 0, 0, []⟩ []))) := fun W g H => dial_ok H (fit_5 (by decide) (by decide) (by decide) (by decide))
  have H5 : Hid (∀ W g, Hold w W (poTs ⟨g, 5, 5, 2, 0, true, none, 0, 0, []⟩ []) → Calls Try.prog 16 #[.pointer (some ⟨g, 0, none⟩)] W fun e w' => e = .returned (.int .i64 1) ∧ W = w') := fun W g H => dialing_ok H (fit_5 (by decide) (by decide) (by decide) (by decide))
  have H6 : Hid (∀ W g, Hold w W (poTs ⟨g, 5, 5, 2, 0, true, none, 0, 0, []⟩ []) → Calls Try.prog 9 #[.pointer (some ⟨g, 0, none⟩), .bool true] W fun e w' => e = .returned (.tuple #[.int .i64 1, .bool true]) ∧ ∃ x n c s, Hid (Fresh s 5 5) ∧ Hid (Hold w w' (poTs ⟨g, 5, 5, 2, 1, false, x, n, c, [(1, s)]⟩ []))) := fun W g H => dialed_yes H (fit_5 (by decide) (by decide) (by decide) (by decide)) rfl
  have H7 : Hid (∀ W g x n c s, Fresh s 5 5 → Hold w W (poTs ⟨g, 5, 5, 2, 1, false, x, n, c, [(1, s)]⟩ []) → Calls Try.prog 19 #[.pointer (some ⟨g, 0, none⟩)] W fun e w' => e = .returned (.tuple #[.int .i64 1, .bool true]) ∧ Hid (Hold w w' (poTs ⟨g, 5, 5, 2, 1, false, x, n, c, [(1, s)]⟩ []))) := fun W g x n c s hF H => by
    refine (pick_ok H (fit_5 (by decide) (by decide) (by decide) (by simp))).mono fun e w' h => ⟨?_, H.quiet h.2⟩
    have e1 : pickL [(1, s)] = (1, true) := by simp [pickL, hF.dead]
    rw [h.1]
    simp only [e1]
  have H8 : Hid (∀ W g x n c s, Hold w W (poTs ⟨g, 5, 5, 2, 1, false, x, n, c, [(1, s)]⟩ []) → Calls Try.prog 10 #[.pointer (some ⟨g, 0, none⟩), .int .i64 1] W fun e w' => e = .returned (.pointer (some ⟨s.g, 0, none⟩)) ∧ Hid (Hold w w' (poTs ⟨g, 5, 5, 2, 1, false, x, n, c, [(1, s)]⟩ []))) := fun W g x n c s H => by
    refine (at_ok H (fit_5 (by decide) (by decide) (by decide) (by simp)) 1).mono fun e w' h => ⟨?_, H.quiet h.2⟩
    have e1 : atV [(1, s)] 1 = .pointer (some ⟨s.g, 0, none⟩) := by simp [atV]
    rw [h.1]
    simp only [e1]
  have H9 : Hid (∀ W g x n c s, Hold w W (poTs ⟨g, 5, 5, 2, 1, false, x, n, c, [(1, s)]⟩ []) → Calls Try.prog 10 #[.pointer (some ⟨g, 0, none⟩), .int .i64 2] W fun e w' => e = .returned (.pointer none) ∧ Keeps nobody w w') := fun W g x n c s H => by
    refine (at_ok H (fit_5 (by decide) (by decide) (by decide) (by simp)) 2).mono fun e w' h => ⟨?_, keeps_of_below (H.quiet h.2).below⟩
    have e1 : atV [(1, s)] 2 = .pointer none := by simp [atV]
    rw [h.1]
    simp only [e1]
  go_enter Try.func6, Try.ntmps6
  go_wp2_with fail
  refine Calls.mono HN.out ?_
  rintro e w1 ⟨g, rfl, K1⟩
  clear HN
  go_wp2_with fail
  refine Calls.mono (H1.out _ _ K1.out) ?_
  rintro e w2 ⟨rfl, K2⟩
  clear H1 K1
  go_wp2_with fail
  refine Calls.mono (H2.out _ _ K2.out) ?_
  rintro e w3 ⟨rfl, rfl⟩
  go_wp2_with fail
  refine Calls.mono (H3.out _ _ K2.out) ?_
  rintro e w3 ⟨rfl, K3⟩
  clear H2 H3 K2
  go_wp2_with fail
  refine Calls.mono (H4.out _ _ K3.out) ?_
  rintro e w4 ⟨rfl, K4⟩
  clear H4 K3
  go_wp2_with fail
  refine Calls.mono (H5.out _ _ K4.out) ?_
  rintro e w5 ⟨rfl, rfl⟩
  go_wp2_with fail
  refine Calls.mono (H6.out _ _ K4.out) ?_
  rintro e w5 ⟨rfl, x, n, c, s, hF, K5⟩
  clear H5 H6 K4
  go_wp2_with fail
  refine Calls.mono (H7.out _ _ _ _ _ _ hF.out K5.out) ?_
  rintro e w6 ⟨rfl, K6⟩
  clear H7 K5
  go_wp2_with fail
  refine Calls.mono (H8.out _ _ _ _ _ _ K6.out) ?_
  rintro e w7 ⟨rfl, K7⟩
  clear H8 K6
  go_wp2_with fail
  refine Calls.mono (H9.out _ _ _ _ _ _ K7.out) ?_
  rintro e w8 ⟨rfl, k8⟩
  go_wp2
  go_ret
  exact ⟨rfl, k8⟩
end Go.Proofs.Ytendndokgpppiaa
