/-
  Healths whose server never answers, tick by tick; lists of the numbers from one on; the pool's calls beside a list.
-/
import Derived.Test.YtendndokgpppiaaPoTick
import Derived.Test.YtendndokgpppiaaPoSweep
import Derived.Test.YtendndokgpppiaaPoSame
import Derived.Test.YtendndokgpppiaaPoAlive
namespace Go.Proofs.Ytendndokgpppiaa
open Go.RowKit
attribute [local irreducible] cnT cnW

/-- Behind so many ticks. -/
def hAt (e w t : Nat) : Pi.He := if t < e then ⟨e, w, e - t, 0, false⟩ else if t < e + w then ⟨e, w, w - (t - e), 1, true⟩ else ⟨e, w, 0, 1, true⟩
theorem hAt_zero {e w : Nat} (h : 1 ≤ e) : hAt e w 0 = Pi.newH e w := by
  unfold hAt Pi.newH
  rw [if_pos (by omega)]
  rfl
theorem hAt_fit {e w t : Nat} (h1 : 1 ≤ e) (h2 : e ≤ 10) (h3 : w ≤ 10) : Pi.Fit (hAt e w t) := by
  unfold hAt
  split
  · exact ⟨h1, by simp only; omega, by simp only; omega, by simp only; omega, by simp⟩
  · split
    · exact ⟨h1, by simp only; omega, by simp only; omega, by simp only; omega, by simp⟩
    · exact ⟨h1, by simp only; omega, by simp only; omega, by simp, by simp⟩
theorem hAt_go {e w t : Nat} (h : t + 1 < e + w) : (Pi.tickH (hAt e w t)).1 = hAt e w (t + 1) ∧ lateE (hAt e w t) = 0 := by
  unfold lateE Pi.tickH hAt
  by_cases h1 : t + 1 < e
  · simp only [show t < e by omega, h1, if_true, show 0 < e - t - 1 by omega]
    exact ⟨by rw [show e - t - 1 = e - (t + 1) by omega], by simp⟩
  · by_cases h3 : t + 1 = e
    · simp only [show t < e by omega, if_true, show ¬ 0 < e - t - 1 by omega, if_false, h1, h, show t + 1 - e = 0 by omega]
      simp
    · simp only [show ¬ t < e by omega, if_false, show t < e + w by omega, if_true, show 0 < w - (t - e) - 1 by omega, h1, h]
      exact ⟨by rw [show w - (t - e) - 1 = w - (t + 1 - e) by omega], by simp⟩
theorem hAt_end {e w t : Nat} (h2 : 1 ≤ w) (h : t + 1 = e + w) : lateE (hAt e w t) = 18 := by
  unfold lateE Pi.tickH hAt
  simp only [show ¬ t < e by omega, if_false, show t < e + w by omega, if_true, show ¬ 0 < w - (t - e) - 1 by omega]
/-- The numbers from one on. -/
def upL (k : Nat) : List Int := (List.range k).map fun (i : Nat) => (i : Int) + 1
theorem upL_length (k : Nat) : (upL k).length = k := by simp [upL]
theorem upL_succ (k : Nat) : upL (k + 1) = upL k ++ [(k : Int) + 1] := by simp [upL, List.range_succ]
theorem nums_of_ls (L : List (Nat × Cn)) : numsOf L = (lsOf L).map fun x => (x.1 : Int) := by simp [numsOf, lsOf]
theorem nums_same {L L2 : List (Nat × Cn)} (h : lsOf L2 = lsOf L) : numsOf L2 = numsOf L ∧ L2.length = L.length := by
  refine ⟨by rw [nums_of_ls, nums_of_ls, h], ?_⟩
  have := congrArg List.length h
  simpa [lsOf_length] using this
theorem Hold.inn {W w : World} {t : Thing} {p : Po} {ts : List Thing} (H : Hold W w (t :: poTs p ts)) : Hold W w (poTs p (t :: ts)) := by
  refine H.perm ?_
  unfold poTs
  exact (List.Perm.swap _ _ _).trans (List.Perm.cons _ ((List.Perm.swap _ _ _).trans (List.Perm.cons _ List.perm_middle.symm)))
theorem Hold.outt {W w : World} {t : Thing} {p : Po} {ts : List Thing} (H : Hold W w (poTs p (t :: ts))) : Hold W w (t :: poTs p ts) := by
  refine H.perm ?_
  unfold poTs
  exact ((List.Perm.swap _ _ _).trans (List.Perm.cons _ ((List.Perm.swap _ _ _).trans (List.Perm.cons _ List.perm_middle.symm)))).symm
theorem gone_all {L : List (Nat × Cn)} (h : ∀ q ∈ L, q.2.dead ≠ 0) : goneL L = numsOf L ∧ stayL L = [] := by
  constructor
  · unfold goneL
    rw [List.filter_eq_self.2 (fun q hq => by simpa using h q hq)]
  · unfold stayL
    rw [List.filter_eq_nil_iff.2 (fun q hq => by simpa using h q hq)]
/-- A pool whose servers say nothing. -/
abbrev poN (g e wa k : Nat) (d : Bool) (x : Option Addr) (n c : Nat) (L : List (Nat × Cn)) : Po := ⟨g, e, wa, 3, k, d, x, n, c, L⟩
theorem fit_n {g e wa k : Nat} {d : Bool} {x : Option Addr} {n c : Nat} {L : List (Nat × Cn)} (h1 : (1 ≤ e ∧ e ≤ 10) ∧ 1 ≤ wa ∧ wa ≤ 10) (h3 : L.length = k ∧ k ≤ 3) : PFit (poN g e wa k d x n c L) :=
  ⟨h1.1.1, by simp only; omega, h1.2.1, by simp only; omega, by simp, by simp, by simp only; omega, by simp only; omega⟩
section
variable {W0 W : World} {g e wa k : Nat} {x : Option Addr} {n c : Nat} {L : List (Nat × Cn)} {t : Thing} {j : Nat}
theorem n_dial (hb : (1 ≤ e ∧ e ≤ 10) ∧ 1 ≤ wa ∧ wa ≤ 10) (hk : L.length = k ∧ k ≤ 3) (H : Hold W0 W (t :: poTs (poN g e wa k false x n c L) [])) : Calls Try.prog 8 #[.pointer (some ⟨g, 0, none⟩)] W fun e1 w' => e1 = .returned (.bool true) ∧ Hid (Hold W0 w' (t :: poTs (poN g e wa k true x n c L) [])) :=
  (dial_ok H.inn (fit_n hb hk)).mono fun _ _ h => ⟨h.1, h.2.out.outt⟩
theorem n_dialed (hb : (1 ≤ e ∧ e ≤ 10) ∧ 1 ≤ wa ∧ wa ≤ 10) (hk : L.length = k ∧ k ≤ 3) (H : Hold W0 W (t :: poTs (poN g e wa k true x n c L) [])) : Calls Try.prog 9 #[.pointer (some ⟨g, 0, none⟩), .bool true] W fun e1 w' => e1 = .returned (.tuple #[.int .i64 ((k : Int) + 1), .bool true]) ∧ ∃ x2 n2 c2 s, Hid (Fresh s e wa ∧ Hold W0 w' (t :: poTs (poN g e wa (k + 1) false x2 n2 c2 (L ++ [(k + 1, s)])) [])) := by
  refine (dialed_yes H.inn (fit_n hb hk) rfl).mono ?_
  rintro e1 w' ⟨he, x2, n2, c2, s, hF, hh⟩
  exact ⟨he, x2, n2, c2, s, hF.out, hh.out.outt⟩
theorem n_tick (hb : (1 ≤ e ∧ e ≤ 10) ∧ 1 ≤ wa ∧ wa ≤ 10) (hk : L.length = k ∧ k ≤ 3) (hn : numsOf L = upL k) (hj : j + 1 < e + wa) (hA : Alike L (hAt e wa j) 0 (100 + 20 * j)) (H : Hold W0 W (t :: poTs (poN g e wa k false x n c L) [])) :
    Calls Try.prog 17 #[.pointer (some ⟨g, 0, none⟩)] W fun e1 w' => ∃ x1 c1, e1 = .returned (.slice x1 0 c1) ∧ ∃ L2, Hid (L2.length = k ∧ numsOf L2 = upL k ∧ Alike L2 (hAt e wa (j + 1)) 0 (100 + 20 * (j + 1)) ∧ Hold W0 w' (t :: poTs (poN g e wa k false x n c L2) [])) := by
  obtain ⟨a1, a2⟩ := hAt_go hj
  refine (ptick_live H.inn (fit_n hb hk) hA (hAt_fit hb.1.1 hb.1.2 hb.2.2) (by omega)).mono ?_
  have hB : brokeL L (hAt e wa j) = [] := if_pos a2
  simp only [hB, a1, a2]
  rintro e1 w' ⟨x1, c1, he, L2, hh⟩
  obtain ⟨b1, b2, b3⟩ := hh.out
  obtain ⟨b4, b5⟩ := nums_same b1
  exact ⟨x1, c1, he, L2, b5.trans hk.1, b4.trans hn, by rw [show 100 + 20 * (j + 1) = 100 + 20 * j + 20 by omega]; exact b2, b3.tail.outt⟩
theorem n_last (hb : (1 ≤ e ∧ e ≤ 10) ∧ 1 ≤ wa ∧ wa ≤ 10) (hk : L.length = k ∧ k ≤ 3) (hn : numsOf L = upL k) (hj : j + 1 = e + wa) (hA : Alike L (hAt e wa j) 0 (100 + 20 * j)) (H : Hold W0 W (t :: poTs (poN g e wa k false x n c L) [])) :
    Calls Try.prog 17 #[.pointer (some ⟨g, 0, none⟩)] W fun e1 w' => ∃ x1 c1, e1 = .returned (.slice x1 k c1) ∧ ∃ L2, Hid (L2.length = k ∧ numsOf L2 = upL k ∧ (∀ q ∈ L2, q.2.dead ≠ 0) ∧ Hold W0 w' (numT x1 k c1 (upL k) :: t :: poTs (poN g e wa k false x n c L2) [])) := by
  have a2 := hAt_end hb.2.1 hj
  refine (ptick_live H.inn (fit_n hb hk) hA (hAt_fit hb.1.1 hb.1.2 hb.2.2) (by omega)).mono ?_
  have hB : brokeL L (hAt e wa j) = upL k := by
    unfold brokeL
    rw [if_neg (by rw [a2]; decide)]
    exact hn
  simp only [hB, a2, upL_length]
  rintro e1 w' ⟨x1, c1, he, L2, hh⟩
  obtain ⟨b1, b2, b3⟩ := hh.out
  obtain ⟨b4, b5⟩ := nums_same b1
  refine ⟨x1, c1, he, L2, b5.trans hk.1, b4.trans hn, fun q hq => by rw [(b2 q hq).2.1]; decide, ?_⟩
  refine b3.perm (List.Perm.cons _ ?_)
  unfold poTs
  exact ((List.Perm.swap _ _ _).trans (List.Perm.cons _ ((List.Perm.swap _ _ _).trans (List.Perm.cons _ List.perm_middle.symm)))).symm
theorem n_same {x1 x2 : Option Addr} {c1 c2 : Nat} {l : List Int} {ts : List Thing} (hl : l.length = k) (hk : k ≤ 1000) (H : Hold W0 W (numT x1 k c1 l :: numT x2 k c2 l :: ts)) : Calls Try.prog 13 #[.slice x1 k c1, .slice x2 k c2] W fun e1 w' => e1 = .returned (.bool true) ∧ Hid (Hold W0 w' (numT x2 k c2 l :: ts)) := by
  subst hl
  have h1 := (numT_lies H (.head _)).1
  have h2 := (numT_lies H (.tail _ (.head _))).1
  exact (same_nums c1 c2 h1 h2 (by omega)).mono fun _ _ h => ⟨h.1, (H.quiet h.2).tail⟩
theorem n_dead (hb : (1 ≤ e ∧ e ≤ 10) ∧ 1 ≤ wa ∧ wa ≤ 10) (hk : L.length = k ∧ k ≤ 3) (hd : ∀ q ∈ L, q.2.dead ≠ 0) (H : Hold W0 W (t :: poTs (poN g e wa k false x n c L) [])) : Calls Try.prog 17 #[.pointer (some ⟨g, 0, none⟩)] W fun e1 w' => e1 = .returned (.slice none 0 0) ∧ Hid (Hold W0 w' (t :: poTs (poN g e wa k false x n c L) [])) :=
  (ptick_dead H.inn (fit_n hb hk) hd).mono fun _ _ h => ⟨h.1, H.quiet h.2⟩
theorem n_picked (hb : (1 ≤ e ∧ e ≤ 10) ∧ 1 ≤ wa ∧ wa ≤ 10) (hk : L.length = k ∧ k ≤ 3) (hd : ∀ q ∈ L, q.2.dead ≠ 0) (H : Hold W0 W (t :: poTs (poN g e wa k false x n c L) [])) : Calls Try.prog 12 #[.pointer (some ⟨g, 0, none⟩)] W fun e1 w' => e1 = .returned (.int .i64 0) ∧ Hid (Hold W0 w' (t :: poTs (poN g e wa k false x n c L) [])) := by
  refine (picked_ok H.inn (fit_n hb hk)).mono fun _ _ h => ⟨?_, H.quiet h.2⟩
  have e1 : pickL L = (0, false) := pick_none hd
  rw [h.1]
  simp only [e1]
theorem n_sweep (hb : (1 ≤ e ∧ e ≤ 10) ∧ 1 ≤ wa ∧ wa ≤ 10) (hk : L.length = k ∧ k ≤ 3) (hn : numsOf L = upL k) (hd : ∀ q ∈ L, q.2.dead ≠ 0) (H : Hold W0 W (t :: poTs (poN g e wa k false x n c L) [])) : Calls Try.prog 14 #[.pointer (some ⟨g, 0, none⟩)] W fun e1 w' => ∃ x1 c1, e1 = .returned (.slice x1 k c1) ∧ ∃ x2 n2 c2, Hid (Hold W0 w' (numT x1 k c1 (upL k) :: t :: poTs (poN g e wa k false x2 n2 c2 []) [])) := by
  obtain ⟨g1, g2⟩ := gone_all hd
  refine (sweep_ok H.inn (fit_n hb hk)).mono ?_
  simp only [g1, g2, hn, upL_length]
  rintro e1 w' ⟨x1, c1, he, x2, n2, c2, hh⟩
  refine ⟨x1, c1, he, x2, n2, c2, ?_⟩
  refine hh.out.perm (List.Perm.cons _ ?_)
  unfold poTs
  exact ((List.Perm.swap _ _ _).trans (List.Perm.cons _ ((List.Perm.swap _ _ _).trans (List.Perm.cons _ List.perm_middle.symm)))).symm
end
theorem fit_e {g e wa k : Nat} {d : Bool} {x : Option Addr} {n c : Nat} (h1 : (1 ≤ e ∧ e ≤ 10) ∧ 1 ≤ wa ∧ wa ≤ 10) (h3 : k ≤ 3) : PFit (poN g e wa k d x n c []) :=
  ⟨h1.1.1, by simp only; omega, h1.2.1, by simp only; omega, by simp, by simp, by simp only; omega, by simp⟩
section
variable {W0 W : World} {g e wa k : Nat} {x : Option Addr} {n c : Nat} {t : Thing}
theorem n_all (hb : (1 ≤ e ∧ e ≤ 10) ∧ 1 ≤ wa ∧ wa ≤ 10) (hk : k ≤ 3) (H : Hold W0 W (t :: poTs (poN g e wa k false x n c []) [])) : Calls Try.prog 15 #[.pointer (some ⟨g, 0, none⟩)] W fun e1 w' => ∃ x1 c1, e1 = .returned (.slice x1 0 c1) ∧ Hid (Hold W0 w' (t :: poTs (poN g e wa k false x n c []) [])) := by
  refine (all_ok H.inn (fit_e hb hk)).mono ?_
  rintro e1 w' ⟨x1, c1, he, hh⟩
  exact ⟨x1, c1, he, hh.out.tail.outt⟩
theorem n_wants (hb : (1 ≤ e ∧ e ≤ 10) ∧ 1 ≤ wa ∧ wa ≤ 10) (hk : k ≤ 3) (H : Hold W0 W (t :: poTs (poN g e wa k false x n c []) [])) : Calls Try.prog 18 #[.pointer (some ⟨g, 0, none⟩), .int .i64 1] W fun e1 w' => e1 = .returned (.bool true) ∧ Keeps nobody W0 w' :=
  (wants_yes H.inn (fit_e hb hk) rfl rfl 1 (by decide)).mono fun _ _ h => ⟨h.1, keeps_of_below (H.quiet h.2).below⟩
end
end Go.Proofs.Ytendndokgpppiaa
