/-
  The program's Health and the reference's, side by side.
-/
import Derived.Test.YtfgbijhmhanpeaaORef
import Derived.Test.YtfgbijhmhanpeaaOLive
import Derived.Test.YtfgbijhmhanpeaaOOpen
namespace Go.Proofs.Ytfgbijhmhanpeaa
open Go.RowKit
attribute [local irreducible] nums str bodyB

/-- They know the same, behind j things that were done. -/
structure Pair (j : Nat) (h : He) (r : Rh) : Prop where
  every : r.every = h.every
  wait : r.wait = h.wait
  sent : r.sent = h.sent
  n : r.n = if h.waits = true then h.sent else 0
  gone : r.gone = (h.waits && h.left == 0)
  since : r.since ≤ j
  few : h.sent ≤ j
  under : h.waits = true → 1 ≤ h.sent
  there : r.gone = false → 1 ≤ h.left ∧ h.left + r.since = if h.waits = true then h.wait else h.every
  every1 : 1 ≤ h.every
  wait1 : 1 ≤ h.wait
  every2 : h.every ≤ 9223372036854775807
  wait2 : h.wait ≤ 9223372036854775807
theorem pair_start (every wait : Nat) (h1 : 1 ≤ every) (h2 : every ≤ 9223372036854775807) (h3 : 1 ≤ wait) (h4 : wait ≤ 9223372036854775807) : Pair 0 (newH every wait) ⟨every, wait, 0, 0, 0, false⟩ :=
  ⟨rfl, rfl, rfl, rfl, rfl, Nat.le_refl _, Nat.le_refl _, (fun h => (by cases h)), fun _ => ⟨h1, rfl⟩, h1, h3, h2, h4⟩
theorem Pair.fit {j : Nat} {h : He} {r : Rh} (p : Pair j h r) (hj : j ≤ 1000) : Fit h := by
  refine ⟨p.every1, p.every2, p.wait2, ?_, Nat.le_trans p.few (by omega)⟩
  cases hg : r.gone with
  | false =>
    have := (p.there hg).2
    have := p.every2
    have := p.wait2
    split at * <;> omega
  | true =>
    have h0 := p.gone
    rw [hg] at h0
    have : h.left = 0 := by
      cases hw : h.waits <;> simp [hw] at h0
      exact h0
    omega
theorem Pair.rfit {j : Nat} {h : He} {r : Rh} (p : Pair j h r) (hj : j ≤ 1000) : RFit r := by
  have h1 := p.every
  have h2 := p.wait
  have h3 := p.sent
  have h4 := p.n
  have h5 := p.since
  have h6 := p.few
  refine ⟨by have := p.every2; omega, by have := p.wait2; omega, ?_, by omega, by omega⟩
  split at h4 <;> omega
theorem Pair.mono {j k : Nat} {h : He} {r : Rh} (p : Pair j h r) (hk : j ≤ k) : Pair k h r :=
  ⟨p.every, p.wait, p.sent, p.n, p.gone, Nat.le_trans p.since hk, Nat.le_trans p.few hk, p.under, p.there, p.every1, p.wait1, p.every2, p.wait2⟩
theorem Pair.tick {j : Nat} {h : He} {r : Rh} (p : Pair j h r) : (rtick r).2 = (tickH h).2 ∧ Pair (j + 1) (tickH h).1 (rtick r).1 := by
  obtain ⟨every, wait, left, sent, waits⟩ := h
  obtain ⟨rev, rwait, n, since, rsent, gone⟩ := r
  obtain ⟨a1, a2, a3, a4, a5, a6, a7, a8, a9, b1, b2, b3, b4⟩ := p
  simp only at a1 a2 a3 a4 a5 a6 a7 a8 a9 b1 b2 b3 b4
  subst a1 a2 a3
  cases waits with
  | false =>
    simp at a4 a5
    subst a4 a5
    obtain ⟨c1, c2⟩ := a9 rfl
    simp at c2
    by_cases hl : 0 < left - 1
    · have hs : since + 1 < rev := by omega
      have e1 : tickH ⟨rev, rwait, left, rsent, false⟩ = (⟨rev, rwait, left - 1, rsent, false⟩, ⟨#[]⟩, false) := by simp [tickH, hl]
      have e2 : rtick ⟨rev, rwait, 0, since, rsent, false⟩ = (⟨rev, rwait, 0, since + 1, rsent, false⟩, ⟨#[]⟩, false) := by simp [rtick, hs]
      rw [e1, e2]
      exact ⟨rfl, rfl, rfl, rfl, rfl, rfl, by show since + 1 ≤ _; omega, by show rsent ≤ _; omega, fun h => (by cases h), fun _ => ⟨by show 1 ≤ left - 1; omega, by show left - 1 + (since + 1) = rev; omega⟩, b1, b2, b3, b4⟩
    · have hs : ¬ since + 1 < rev := by omega
      have e1 : tickH ⟨rev, rwait, left, rsent, false⟩ = (⟨rev, rwait, rwait, rsent + 1, true⟩, bodyB (rsent + 1), false) := by simp [tickH, hl]
      have e2 : rtick ⟨rev, rwait, 0, since, rsent, false⟩ = (⟨rev, rwait, rsent + 1, 0, rsent + 1, false⟩, bodyB (rsent + 1), false) := by simp [rtick, hs]
      rw [e1, e2]
      exact ⟨rfl, rfl, rfl, rfl, rfl, by show false = (true && rwait == 0); simp; omega, Nat.zero_le _, by show rsent + 1 ≤ _; omega, fun _ => (by show 1 ≤ rsent + 1; omega), fun _ => ⟨b2, rfl⟩, b1, b2, b3, b4⟩
  | true =>
    simp at a4
    subst a4
    have hn : 0 < n := a8 rfl
    by_cases h0 : left = 0
    · subst h0
      simp at a5
      subst a5
      have e1 : tickH ⟨rev, rwait, 0, n, true⟩ = (⟨rev, rwait, 0, n, true⟩, ⟨#[]⟩, true) := by simp [tickH]
      have e2 : rtick ⟨rev, rwait, n, since, n, true⟩ = (⟨rev, rwait, n, since + 1, n, true⟩, ⟨#[]⟩, true) := by simp [rtick]
      rw [e1, e2]
      exact ⟨rfl, rfl, rfl, rfl, rfl, rfl, by show since + 1 ≤ _; omega, by show n ≤ _; omega, fun _ => hn, fun h => (by cases h), b1, b2, b3, b4⟩
    · have hz : (left == 0) = false := by simpa using h0
      rw [hz, Bool.and_false] at a5
      subst a5
      obtain ⟨c1, c2⟩ := a9 rfl
      simp at c2
      by_cases hl : 0 < left - 1
      · have hs : ¬ rwait ≤ since + 1 := by omega
        have e1 : tickH ⟨rev, rwait, left, n, true⟩ = (⟨rev, rwait, left - 1, n, true⟩, ⟨#[]⟩, false) := by simp [tickH, hl]
        have e2 : rtick ⟨rev, rwait, n, since, n, false⟩ = (⟨rev, rwait, n, since + 1, n, false⟩, ⟨#[]⟩, false) := by simp [rtick, hn, hs]
        rw [e1, e2]
        exact ⟨rfl, rfl, rfl, rfl, rfl, by show false = (true && left - 1 == 0); simp; omega, by show since + 1 ≤ _; omega, by show n ≤ _; omega, fun _ => hn, fun _ => ⟨by show 1 ≤ left - 1; omega, by show left - 1 + (since + 1) = rwait; omega⟩, b1, b2, b3, b4⟩
      · have hs : rwait ≤ since + 1 := by omega
        have e1 : tickH ⟨rev, rwait, left, n, true⟩ = (⟨rev, rwait, 0, n, true⟩, ⟨#[]⟩, true) := by simp [tickH, hl]
        have e2 : rtick ⟨rev, rwait, n, since, n, false⟩ = (⟨rev, rwait, n, since + 1, n, true⟩, ⟨#[]⟩, true) := by simp [rtick, hn, hs]
        rw [e1, e2]
        exact ⟨rfl, rfl, rfl, rfl, rfl, rfl, by show since + 1 ≤ _; omega, by show n ≤ _; omega, fun _ => hn, fun h => (by cases h), b1, b2, b3, b4⟩
theorem Pair.got {j : Nat} {h : He} {r : Rh} (p : Pair j h r) (b : ByteArray) : (rgot r b).2 = (gotH h b).2 ∧ Pair (j + 1) (gotH h b).1 (rgot r b).1 := by
  have q := p.mono (Nat.le_succ j)
  obtain ⟨every, wait, left, sent, waits⟩ := h
  obtain ⟨rev, rwait, n, since, rsent, gone⟩ := r
  obtain ⟨a1, a2, a3, a4, a5, a6, a7, a8, a9, b1, b2, b3, b4⟩ := p
  simp only at a1 a2 a3 a4 a5 a6 a7 a8 a9 b1 b2 b3 b4
  subst a1 a2 a3
  cases waits with
  | false =>
    simp at a4 a5
    subst a4 a5
    have e1 : gotH ⟨rev, rwait, left, rsent, false⟩ b = (⟨rev, rwait, left, rsent, false⟩, false) := by simp [gotH]
    have e2 : rgot ⟨rev, rwait, 0, since, rsent, false⟩ b = (⟨rev, rwait, 0, since, rsent, false⟩, false) := by simp [rgot]
    rw [e1, e2]
    exact ⟨rfl, q⟩
  | true =>
    simp at a4
    subst a4
    have hn : 0 < n := a8 rfl
    by_cases h0 : left = 0
    · subst h0
      simp at a5
      subst a5
      have e1 : gotH ⟨rev, rwait, 0, n, true⟩ b = (⟨rev, rwait, 0, n, true⟩, false) := by simp [gotH]
      have e2 : rgot ⟨rev, rwait, n, since, n, true⟩ b = (⟨rev, rwait, n, since, n, true⟩, false) := by simp [rgot]
      rw [e1, e2]
      exact ⟨rfl, q⟩
    · have hz : (left == 0) = false := by simpa using h0
      rw [hz, Bool.and_false] at a5
      subst a5
      by_cases hb : b = bodyB n
      · have e1 : gotH ⟨rev, rwait, left, n, true⟩ b = (⟨rev, rwait, rev, n, false⟩, true) := by simp [gotH, h0, hb]
        have e2 : rgot ⟨rev, rwait, n, since, n, false⟩ b = (⟨rev, rwait, 0, 0, n, false⟩, true) := by simp [rgot, hb]; omega
        rw [e1, e2]
        exact ⟨rfl, rfl, rfl, rfl, rfl, rfl, Nat.zero_le _, by show n ≤ _; omega, fun h => (by cases h), fun _ => ⟨b1, rfl⟩, b1, b2, b3, b4⟩
      · have e1 : gotH ⟨rev, rwait, left, n, true⟩ b = (⟨rev, rwait, left, n, true⟩, false) := by simp [gotH, hb]
        have e2 : rgot ⟨rev, rwait, n, since, n, false⟩ b = (⟨rev, rwait, n, since, n, false⟩, false) := by simp [rgot, hb]
        rw [e1, e2]
        exact ⟨rfl, q⟩

section
variable {W w : World} {g : Nat} {h : He} {r : Rh} {t : Thing} {ts : List Thing}
theorem Hold.rh (H : Hold W w (t :: rhT g r :: ts)) : Rl w g r := H.inv (rhT g r) (by simp)
theorem t_rtick (H : Hold W w (t :: rhT g r :: ts)) (F : RFit r) {x : Rh} {s : ByteArray} {o : Bool} (hr : rtick r = (x, s, o)) : Calls Try.prog 14 #[.pointer (some ⟨g, 0, none⟩)] w fun e w' => e = .returned (.tuple #[.string s, .bool o]) ∧ Hid (Hold W w' (t :: rhT g x :: ts)) := by
  refine (rtick_ok H.rh F).mono ?_
  rintro e w' ⟨he, hd⟩
  rw [hr] at he hd
  exact ⟨he, H.act (a := [t]) hd⟩
theorem t_rgot (H : Hold W w (t :: rhT g r :: ts)) (F : RFit r) (b : ByteArray) {x : Rh} {o : Bool} (hr : rgot r b = (x, o)) : Calls Try.prog 15 #[.pointer (some ⟨g, 0, none⟩), .string b] w fun e w' => e = .returned (.bool o) ∧ Hid (Hold W w' (t :: rhT g x :: ts)) := by
  refine (rgot_ok H.rh F b).mono ?_
  rintro e w' ⟨he, hd⟩
  rw [hr] at he hd
  exact ⟨he, H.act (a := [t]) hd⟩
/-- What lies there within a round. -/
abbrev opT (g : Nat) (k : Int) (s : ByteArray) : Thing := recT g #[.int .i64 k, .string s] 34
theorem Hold.op {k : Int} {s : ByteArray} {t u : Thing} (h : Hold W w [t, u, opT g k s]) : w.cell? ⟨g, 0, none⟩ = some (.int .i64 k) ∧ w.cell? ⟨g, 1, none⟩ = some (.string s) := by
  obtain ⟨h1, _, _⟩ := h.cellsOf (g := g) (cs := #[.int .i64 k, .string s]) (T := 34) (by simp)
  exact ⟨h1 0, h1 1⟩
end
end Go.Proofs.Ytfgbijhmhanpeaa
