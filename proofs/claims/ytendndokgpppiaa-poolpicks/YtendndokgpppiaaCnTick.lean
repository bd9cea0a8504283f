/-
  Package conn: Tick.
-/
import Derived.Test.YtendndokgpppiaaCnClose
namespace Go.Proofs.Ytendndokgpppiaa
open Go.RowKit
attribute [local irreducible] nums str putA cnT cnW Pi.bodyB

/-- What a tick's end tells. -/
def lateE (h : Pi.He) : Int := if (Pi.tickH h).2.2 = true then 18 else 0
theorem tick_some (h : Pi.He) : ((Pi.tickH h).2.2 = false ∧ (Pi.tickH h).2.1 = ⟨#[]⟩) ∨ ((Pi.tickH h).2.2 = true) ∨ ((Pi.tickH h).2.2 = false ∧ (Pi.tickH h).2.1 ≠ ⟨#[]⟩ ∧ (Pi.tickH h).2.1.size = 8) := by
  unfold Pi.tickH
  split
  · exact .inl ⟨rfl, rfl⟩
  · split
    · exact .inr (.inl rfl)
    · exact .inr (.inr ⟨rfl, Pi.bodyB_ne _, Pi.bodyB_size _⟩)
set_option maxRecDepth 100000 in
theorem ctick_ok {w : World} {s : Cn} (H : (cnT s).inv w) (h0 : s.dead = 0) (F : Pi.Fit s.h) (hB : s.B.size ≤ 900000) (hs : s.sent ≤ 900000) :
    Calls Try.prog 26 #[.pointer (some ⟨s.g, 0, none⟩)] w fun e w' => e = .returned (.int .i64 (lateE s.h)) ∧ ∃ s', Did (cnT s) (cnT s') w w' ∧ Turned s s' (Pi.tickH s.h).1 (lateE s.h) := by
  have HD := hid (cdead_ok H)
  rw [h0] at HD
  have HP : Hid (Calls Try.prog 46 #[.pointer (some ⟨s.gh, 0, none⟩)] w fun e w' => e = .returned (.tuple #[.string (Pi.tickH s.h).2.1, .bool (Pi.tickH s.h).2.2]) ∧ Did (cnT s) (cnT { s with h := (Pi.tickH s.h).1 }) w w') := by
    have hh : Pi.Hl w s.gh s.h := by
      have h1 := cnT_of H
      unfold cnW at h1
      exact h1.1.2.1
    refine (Pi.tick_ok hh F).mono ?_
    rintro e w' ⟨he, hd⟩
    refine ⟨he, ?_⟩
    unfold cnT
    exact cn_hea (cnT_of H) hd
  obtain ⟨_, _, _, c7, _, _, _, _, _, _⟩ := cnT_cells H
  have HB : Hid (∀ w1, Did (cnT s) (cnT { s with h := (Pi.tickH s.h).1 }) w w1 → Calls Try.prog 24 #[.pointer (some ⟨s.g, 0, none⟩), .int .i64 0, .int .i64 18] w1 fun e w' => e = .returned (.int .i64 18) ∧ ∃ s', Did (cnT s) (cnT s') w w' ∧ Turned s s' (Pi.tickH s.h).1 18) := fun w1 hd => by
    refine (break_ok hd.inv h0 18 hB hs).mono ?_
    rintro e w' ⟨he, s', hd2, ht⟩
    exact ⟨he, s', hd.trans hd2, ⟨ht.g, ht.h, ht.dead, ht.size, ht.sent⟩⟩
  have HS : Hid (∀ w1 b, b.size = 8 → Did (cnT s) (cnT { s with h := (Pi.tickH s.h).1 }) w w1 → Calls Try.prog 40 #[.pointer (some ⟨s.g, 0, none⟩), .slice (some ⟨w1.heap.size, 0, none⟩) 1 1] (w1.alloc (.cells #[.int .i64 6, .int .i64 0, .int .i64 0, .string b] 82)) fun e w' => e = .returned (.tuple #[]) ∧ ∃ s', Did (cnT s) (cnT s') w w' ∧ Turned s s' (Pi.tickH s.h).1 0) := fun w1 b hb hd => by
    have hm := putA_most ⟨6, 0, 0, b⟩
    simp only at hm
    refine (sendone_ok hd.inv h0 6 0 0 b (by simp only; omega) (by simp only; omega)).mono ?_
    rintro e w' ⟨he, v', hd2⟩
    exact ⟨he, _, hd.trans hd2, ⟨rfl, rfl, h0, by simp only [ByteArray.size_append]; omega, by simp only; omega⟩⟩
  have HQ : Hid (∀ w1, Did (cnT s) (cnT { s with h := (Pi.tickH s.h).1 }) w w1 → ∃ s', Did (cnT s) (cnT s') w w1 ∧ Turned s s' (Pi.tickH s.h).1 0) := fun w1 hd => ⟨_, hd, ⟨rfl, rfl, h0, by simp only; omega, by simp only; omega⟩⟩
  clear H hB hs F
  generalize (fun h => cnT { s with h := h }) = T at *
  rcases tick_some s.h with ⟨h1, h2⟩ | h1 | ⟨h1, h2, h3⟩
  · have hl : lateE s.h = 0 := by simp [lateE, h1]
    rw [hl]
    rw [h1, h2] at HP
    clear h1 h2 hl HB HS
    generalize (Pi.tickH s.h).1 = h' at *
    go_enter Try.func26, Try.ntmps26
    go_wp2_with fail
    refine Calls.mono HD.out ?_
    rintro e w1 ⟨rfl, rfl⟩
    go_wp2_with fail
    refine Calls.mono HP.out ?_
    rintro e w1 ⟨rfl, hd⟩
    have HX := hid (HQ.out _ hd)
    clear hd HQ HP HD
    go_wp2
    go_ret
    exact ⟨rfl, HX.out⟩
  · have hl : lateE s.h = 18 := by simp [lateE, h1]
    rw [hl]
    rw [h1] at HP
    clear h1 hl HQ HS
    generalize (Pi.tickH s.h).1 = h' at *
    generalize (Pi.tickH s.h).2.1 = b' at *
    go_enter Try.func26, Try.ntmps26
    go_wp2_with fail
    refine Calls.mono HD.out ?_
    rintro e w1 ⟨rfl, rfl⟩
    go_wp2_with fail
    refine Calls.mono HP.out ?_
    rintro e w1 ⟨rfl, hd⟩
    have HX := hid (HB.out _ hd)
    clear hd HB HP HD
    go_wp2_with fail
    refine Calls.mono HX.out ?_
    rintro e w2 ⟨rfl, hx⟩
    have HY := hid hx
    clear hx HX
    go_wp2
    go_ret
    exact ⟨rfl, HY.out⟩
  · have hl : lateE s.h = 0 := by simp [lateE, h1]
    rw [hl]
    rw [h1] at HP
    clear h1 hl HQ HB h2
    generalize (Pi.tickH s.h).1 = h' at *
    generalize (Pi.tickH s.h).2.1 = b' at *
    have hn := isEmpty_of_size b' (by omega)
    go_enter Try.func26, Try.ntmps26
    go_wp2_with fail
    refine Calls.mono HD.out ?_
    rintro e w1 ⟨rfl, rfl⟩
    go_wp2_with fail
    refine Calls.mono HP.out ?_
    rintro e w1 ⟨rfl, hd⟩
    have HX := hid (HS.out _ b' h3 hd)
    clear hd HS HP HD
    go_wp2_with fail
    refine Calls.mono HX.out ?_
    rintro e w2 ⟨rfl, hx⟩
    have HY := hid hx
    clear hx HX
    go_wp2
    go_ret
    exact ⟨rfl, HY.out⟩
end Go.Proofs.Ytendndokgpppiaa
