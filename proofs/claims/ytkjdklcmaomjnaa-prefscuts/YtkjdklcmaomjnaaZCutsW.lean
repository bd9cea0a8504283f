/-
  The law PrefsCuts, walked.
-/
import Derived.Test.YtkjdklcmaomjnaaZPushW
import Derived.Test.YtkjdklcmaomjnaaZLent
import Derived.Test.YtkjdklcmaomjnaaZOpen
namespace Go.Proofs.Ytkjdklcmaomjnaa
open Go.RowKit
attribute [local irreducible] numL nums str sixes putP getP applyG

theorem slice_to (a : Option Addr) (n cap q : Nat) (h : q ≤ cap) (w : World) : (Instr.slice 22 (.slice a n cap) none (some (.int .i64 (q : Int))) none).run Try.prog w = .ok (.slice a q cap) w := by
  have h1 : (0 : Int) ≤ (q : Int) := by omega
  have h2 : (q : Int) ≤ (cap : Int) := by omega
  cases a with
  | none => go_simp
  | some a =>
    obtain ⟨b, off, s⟩ := a
    cases s with
    | none => go_simp
    | some s => go_simp
/-- The first bytes of settings' bytes, read. -/
theorem cut_get (l : List Pf) (hin : allIn l) (hl : l.length ≤ 30) (j : Nat) (hj : j ≤ 6 * l.length) (w : World) : Calls Try.prog 13 #[.string ((putP l).extract 0 j)] w fun e w' => ∃ x c, e = .returned (.tuple #[.slice x (if j % 6 = 0 then j / 6 else 0) c, .bool (decide (j % 6 = 0))]) ∧ Keeps nobody w w' ∧ (j % 6 = 0 → PLies w' x (l.take (j / 6)) nobody) := by
  have hs : (putP l).size = 6 * l.length := by unfold putP; rw [if_pos hin, str_size, sixes_length]
  have hz : ((putP l).extract 0 j).size = j := by rw [extract_size _ _ _ (by omega)]; omega
  refine (pget_ok ((putP l).extract 0 j) w (by omega)).mono ?_
  rintro e w' ⟨x, c, rfl, h1, h2⟩
  by_cases h6 : j % 6 = 0
  · have e1 := getP_take l hin j h6 hj
    have e2 : (l.take (j / 6)).length = j / 6 := by rw [List.length_take]; omega
    rw [e1] at h1
    rw [e1, e2, hz, if_pos h6]
    exact ⟨x, c, rfl, h2, fun _ => prow_lies h1 fun _ _ => id⟩
  · have e1 : getP ((putP l).extract 0 j) = [] := by unfold getP; rw [hz, if_neg h6]
    rw [e1, hz, if_neg h6]
    exact ⟨x, c, rfl, h2, fun h => absurd h h6⟩
theorem size_rem (k : Int) (L : Nat) : ∃ j : Nat, (k.tmod ((L : Int) + 1) + (L : Int) + 1) % ((L : Int) + 1) = (j : Int) ∧ j ≤ L := by
  have ht1 := Int.lt_tmod_of_pos k (show (0 : Int) < (L : Int) + 1 by omega)
  have ht2 := Int.tmod_lt_of_pos k (show (0 : Int) < (L : Int) + 1 by omega)
  obtain ⟨j, hj⟩ : ∃ j : Nat, (k.tmod ((L : Int) + 1) + (L : Int) + 1) % ((L : Int) + 1) = (j : Int) := Int.eq_ofNat_of_zero_le (Int.emod_nonneg _ (by omega))
  have := Int.emod_lt_of_pos (k.tmod ((L : Int) + 1) + (L : Int) + 1) (show (0 : Int) < (L : Int) + 1 by omega)
  exact ⟨j, hj, by omega⟩
set_option maxRecDepth 100000 in
set_option maxHeartbeats 2000000 in
theorem cuts_walk (a : Option Addr) (cap : Nat) (l : List Pf) (k : Int) (w : World) (h : Prs w a cap l) : Calls Try.prog 7 #[.slice a l.length cap, .int .i64 k] w (Fine w) := by
  have HL := hid alive_ok
  obtain ⟨hp, hc1, hc2⟩ := h
  unfold maxLen at hc2
  by_cases hl : l.length > 30
  · clear hp
    go_enter Try.func7, Try.ntmps7
    go_wp2_with fail
    refine Calls.mono (HL.out _) ?_
    rintro e w1 ⟨rfl, k1⟩
    go_wp2
    go_ret
    exact ⟨rfl, below_of_keeps k1⟩
  have HP : Hid (∀ W, Keeps nobody w W → Calls Try.prog 11 #[.slice a l.length cap] W fun e w' => e = .returned (.tuple #[.string (putP l), .bool (decide (allIn l))]) ∧ Keeps nobody W w') := fun W hW => put_ok cap (hp.quiet hW) (by omega)
  by_cases hin : allIn l
  · have hs : (putP l).size = 6 * l.length := by unfold putP; rw [if_pos hin, str_size, sixes_length]
    rw [decide_eq_true hin] at HP
    obtain ⟨j, hj1, hj2⟩ := size_rem k (putP l).size
    have HG := hid (cut_get l hin (by omega) j (by omega))
    have HQ := hid hp
    have t1 := Int.lt_tmod_of_pos k (show (0 : Int) < ((putP l).size : Int) + 1 by omega)
    have t2 := Int.tmod_lt_of_pos k (show (0 : Int) < ((putP l).size : Int) + 1 by omega)
    clear hin hp
    generalize hB : putP l = B at *
    have hb : B.size ≤ 180 := by omega
    have HZ := hid hs
    clear hB hs
    generalize hkt : k.tmod ((B.size : Int) + 1) = t at *
    have hL0 : ((B.size : Int) + 1 == 0) = false := beq_eq_false_iff_ne.2 (by omega)
    have s1 : ∀ w, (Instr.slice 9 (.string B) none (some (.int .i64 (j : Int))) none).run Try.prog w = .ok (.string (B.extract 0 j)) w := by
      intro w
      rw [run_slice_string_h w 9 B Try.underlying9 .i64 (j : Int) (by omega) (by omega)]
      rfl
    go_enter Try.func7, Try.ntmps7
    go_wp2_with fail
    refine Calls.mono (HL.out _) ?_
    rintro e w1 ⟨rfl, k1⟩
    go_wp2_with fail
    refine Calls.mono (HP.out _ k1) ?_
    rintro e w2 ⟨rfl, k2⟩
    go_wp2_with fail
    refine Calls.mono (HG.out _) ?_
    rintro e w3 ⟨x, c, rfl, k3, o3⟩
    simp only [hj1]
    have hzz := HZ.out
    by_cases h6 : j % 6 = 0
    · rw [if_pos h6, decide_eq_true h6]
      have hq : (l.take (j / 6)).length = j / 6 := by rw [List.length_take]; omega
      have hpl : PLies w3 a (l.take (j / 6)) nobody := PLies.prefix (m := l.drop (j / 6)) (by rw [List.take_append_drop]; exact HQ.out.quiet ((k1.then k2).then k3))
      have HS := hid (psame_lies c cap (o3 h6) hpl (by omega))
      rw [hq] at HS
      have hst := slice_to a l.length cap (j / 6) (by omega)
      have h6' : (j : Int) % 6 = 0 := by omega
      have hq6 : ((j / 6 : Nat) : Int) = (j : Int) / 6 := by omega
      rw [hq6] at hst
      have HK := hid ((k1.then k2).then k3)
      have hs : (B.size : Int) = 6 * (l.length : Int) := by have := HZ.out; omega
      clear k1 k2 k3 o3 hpl hq HG HP HQ h6 hq6 t1 t2 hkt hj1 hzz
      go_wp2_with fail
      refine Calls.mono HS.out ?_
      rintro e w4 ⟨rfl, k4⟩
      go_wp2
      go_ret
      exact ⟨rfl, below_of_keeps (HK.out.then k4)⟩
    · rw [if_neg h6, decide_eq_false h6]
      have h6' : ((j : Int) % 6 == 0) = false := beq_eq_false_iff_ne.2 (by omega)
      have HK := hid ((k1.then k2).then k3)
      have hs : (B.size : Int) = 6 * (l.length : Int) := by have := HZ.out; omega
      clear k1 k2 k3 o3 HG HP HQ h6 t1 t2 hkt hj1 hzz
      go_wp2
      go_ret
      exact ⟨rfl, below_of_keeps HK.out⟩
  · have he : putP l = ⟨#[]⟩ := by unfold putP; rw [if_neg hin]
    rw [decide_eq_false hin, he] at HP
    clear he hin hp
    go_enter Try.func7, Try.ntmps7
    go_wp2_with fail
    refine Calls.mono (HL.out _) ?_
    rintro e w1 ⟨rfl, k1⟩
    go_wp2_with fail
    refine Calls.mono (HP.out _ k1) ?_
    rintro e w2 ⟨rfl, k2⟩
    go_wp2
    go_ret
    exact ⟨rfl, below_of_keeps (k1.then k2)⟩
end Go.Proofs.Ytkjdklcmaomjnaa
