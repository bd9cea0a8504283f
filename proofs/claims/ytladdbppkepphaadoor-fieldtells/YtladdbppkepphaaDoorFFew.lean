/-
  How many headers are few.
-/
import Derived.Test.YtladdbppkepphaaDoorFOpen
import Derived.Test.YtladdbppkepphaaDoorGAdd
namespace Go.Proofs.YtladdbppkepphaaDoor
open Go.RowKit

def bytesL : List Fld → Nat
  | [] => 0
  | f :: l => f.1.size + f.2.size + bytesL l
theorem bytesL_append (l m : List Fld) : bytesL (l ++ m) = bytesL l + bytesL m := by
  induction l with
  | nil => simp [bytesL]
  | cons f l ih => simp only [List.cons_append, bytesL, ih]; omega
theorem bytesL_at (l : List Fld) (j : Nat) (hj : j < l.length) : bytesL (l.take (j + 1)) = bytesL (l.take j) + ((l[j]'hj).1.size + (l[j]'hj).2.size) := by
  rw [List.take_succ_eq_append_getElem hj, bytesL_append]
  simp [bytesL]
theorem bytesL_most {l : List Fld} (h : Sized l) : bytesL l ≤ l.length * 281474976710656 := by
  induction l with
  | nil => simp [bytesL]
  | cons f l ih =>
    have h1 := h f (by simp)
    have h2 := ih fun g hg => h g (by simp [hg])
    simp only [bytesL, List.length_cons]
    omega
def fewB (l : List Fld) : Bool := decide (l.length ≤ 40) && decide (bytesL l ≤ 4000)
theorem fewB_len {l : List Fld} (h : fewB l = true) : l.length ≤ 40 ∧ bytesL l ≤ 4000 := by
  unfold fewB at h
  simpa using h

attribute [local irreducible] bytesL
set_option maxRecDepth 100000 in
set_option maxHeartbeats 1000000 in
theorem few_ok {w : World} {a : Option Addr} {l : List Fld} {S : Nat → Prop} (c : Nat) (h : Lies w a l S) (hl : l.length ≤ 140737488355328) (hz : Sized l) : Calls Tryd.prog 9 #[.slice a l.length c] w fun e w' => e = .returned (.bool (fewB l)) ∧ Keeps nobody w w' := by
  by_cases h40 : l.length ≤ 40
  · have hB : fewB l = decide (bytesL l ≤ 4000) := by unfold fewB; rw [decide_eq_true h40, Bool.true_and]
    rw [hB]
    generalize hZ : decide (bytesL l ≤ 4000) = Z
    have HZ : Hid (decide (bytesL (l.take l.length) ≤ 4000) = Z) := by rw [List.take_length]; exact hZ
    clear hZ hB
    go_enter Tryd.func9, Tryd.ntmps9
    go_wp2
    go_loopg [3, 8] l.length (fun k s i wr => ∃ j : Nat, i = .int .i64 j ∧ s = .int .i64 (bytesL (l.take j) : Int) ∧ k + j = l.length ∧ Keeps nobody w wr)
    case atStart => exact ⟨0, rfl, by simp [bytesL], rfl, Keeps.refl _ _⟩
    case round =>
      obtain ⟨j, rfl, rfl, hk, hK⟩ := hrel
      by_cases hj : j < l.length
      · obtain ⟨b, off, rfl, hb, _, c0, c1⟩ := (h.quiet hK).at j hj
        have e := bytesL_at l j hj
        have hm := bytesL_most (hz.take j)
        rw [List.length_take] at hm
        have hs := hz.at j hj
        generalize l[j]'hj = f at *
        obtain ⟨x, y⟩ := f
        simp only at c0 c1 e hs
        have HE := hid (And.intro e hk)
        clear e hk HZ
        have hm2 : bytesL (l.take j) ≤ 11258999068426240 := by omega
        generalize bytesL (l.take j) = n at *
        clear hm
        go_wp2
        obtain ⟨e, hk⟩ := HE.out
        go_roundg (gk - 1)
        case measure => omega
        case rel => exact ⟨j + 1, by simp, by rw [e]; simp, by omega, hK.then (keeps_alloc _ _)⟩
      · obtain rfl : j = l.length := by omega
        have hm := bytesL_most (hz.take l.length)
        rw [List.take_length] at hm
        rw [List.take_length]
        have HZ2 : Hid (decide (bytesL l ≤ 4000) = Z) := by have := HZ.out; rw [List.take_length] at this; exact this
        clear HZ
        have hm2 : bytesL l ≤ 11258999068426240 := by omega
        generalize bytesL l = n at *
        clear hm
        go_wp2
        go_ret
        refine ⟨?_, hK⟩
        rw [← HZ2.out]
        simp
        omega
  · have hB : fewB l = false := by unfold fewB; rw [decide_eq_false h40, Bool.false_and]
    rw [hB]
    clear hB
    go_enter Tryd.func9, Tryd.ntmps9
    go_wp2
    go_loopg [3, 8] l.length (fun k s i wr => ∃ (j : Nat) (m : Int), i = .int .i64 j ∧ s = .int .i64 m ∧ k + j = l.length ∧ Keeps nobody w wr)
    case atStart => exact ⟨0, 0, rfl, rfl, rfl, Keeps.refl _ _⟩
    case round =>
      obtain ⟨j, m, rfl, rfl, hk, hK⟩ := hrel
      by_cases hj : j < l.length
      · obtain ⟨b, off, rfl, hb, _, c0, c1⟩ := (h.quiet hK).at j hj
        generalize l[j]'hj = f at *
        obtain ⟨x, y⟩ := f
        simp only at c0 c1
        have HE := hid hk
        clear hk
        go_wp2
        have hk := HE.out
        go_roundg (gk - 1)
        case measure => omega
        case rel => exact ⟨j + 1, _, by simp, rfl, by omega, hK.then (keeps_alloc _ _)⟩
      · go_wp2
        go_ret
        exact ⟨rfl, hK⟩
end Go.Proofs.YtladdbppkepphaaDoor
