/-
  Package buffer: Put, Get.
-/
import Derived.Test.YtendndokgpppiaaYMem
namespace Go.Proofs.Ytendndokgpppiaa.Bu
open Go.RowKit
attribute [local irreducible] nums str

theorem put_nil (b : ByteArray) (w : World) : Calls Try.prog 53 #[.pointer none, .string b] w fun e w' => e = .returned (.bool false) ∧ Keeps nobody w w' := by
  have HE : Hid (∀ n, Calls Try.prog 61 #[.pointer none] (w.drewN n) fun e w' => e = .returned (.bool true) ∧ w' = w.drewN n) := fun n => (ended_nil _).mono fun _ _ h => ⟨h.1, h.2.symm⟩
  go_enter Try.func53, Try.ntmps53
  go_wp2_with fail
  go_quiet (first | (go_at_call 61; exact Calls.quiet_of_same (HE.out _)))
  go_wp2
  go_ret
  exact ⟨rfl, (Keeps.refl _ _).drewN _⟩
/-- Whether bytes may go in. -/
def mayB (most : Nat) (o : Bool) (B b : ByteArray) : Bool := !o && decide (B.size + b.size ≤ most)
def putB (most : Nat) (o : Bool) (B b : ByteArray) : ByteArray := if mayB most o B b then B ++ b else B
section
variable {w : World} {g : Nat} {v : Value} {most : Nat} {o : Bool} {B : ByteArray}
theorem put_over (h : Bf w g v most true B) (b : ByteArray) : Calls Try.prog 53 #[.pointer (some ⟨g, 0, none⟩), .string b] w fun e w' => e = .returned (.bool false) ∧ Keeps nobody w w' := by
  have HE : Hid (∀ n, Calls Try.prog 61 #[.pointer (some ⟨g, 0, none⟩)] (w.drewN n) fun e w' => e = .returned (.bool true) ∧ w' = w.drewN n) := fun n => (ended_ok (h.quiet ((Keeps.refl _ _).drewN n))).mono fun _ _ h => ⟨h.1, h.2.symm⟩
  clear h
  go_enter Try.func53, Try.ntmps53
  go_wp2_with fail
  go_quiet (first | (go_at_call 61; exact Calls.quiet_of_same (HE.out _)))
  go_wp2
  go_ret
  exact ⟨rfl, (Keeps.refl _ _).drewN _⟩
theorem put_no (h : Bf w g v most false B) (b : ByteArray) (hb : most < B.size + b.size) : Calls Try.prog 53 #[.pointer (some ⟨g, 0, none⟩), .string b] w fun e w' => e = .returned (.bool false) ∧ Keeps nobody w w' := by
  have HE : Hid (∀ n, Calls Try.prog 61 #[.pointer (some ⟨g, 0, none⟩)] (w.drewN n) fun e w' => e = .returned (.bool false) ∧ w' = w.drewN n) := fun n => (ended_ok (h.quiet ((Keeps.refl _ _).drewN n))).mono fun _ _ h => ⟨h.1, h.2.symm⟩
  obtain ⟨h0, _, h2, _⟩ := h.cells
  obtain ⟨a, c, rfl, _⟩ := h.held.slice
  have h5 := h.bound
  have hd : (most : Int) - (B.size : Int) = ((most - B.size : Nat) : Int) := by have := h.fits; omega
  have hr : most - B.size ≤ 9223372036854775807 := by omega
  have hl : most - B.size < b.size := by have := h.fits; omega
  clear h h5 hb
  generalize most - B.size = r at *
  generalize B.size = n at *
  go_enter Try.func53, Try.ntmps53
  go_wp2_with fail
  go_quiet (first | (go_at_call 61; exact Calls.quiet_of_same (HE.out _)))
  go_wp2
  go_ret
  exact ⟨rfl, (Keeps.refl _ _).drewN _⟩
theorem put_yes (h : Bf w g v most false B) (b : ByteArray) (hb : B.size + b.size ≤ most) (hs : B.size + b.size ≤ 140737488355328) : Calls Try.prog 53 #[.pointer (some ⟨g, 0, none⟩), .string b] w fun e w' => e = .returned (.bool true) ∧ ∃ v', Did (bfT g v most false B) (bfT g v' most false (B ++ b)) w w' := by
  have HE : Hid (∀ n, Calls Try.prog 61 #[.pointer (some ⟨g, 0, none⟩)] (w.drewN n) fun e w' => e = .returned (.bool false) ∧ w' = w.drewN n) := fun n => (ended_ok (h.quiet ((Keeps.refl _ _).drewN n))).mono fun _ _ h => ⟨h.1, h.2.symm⟩
  obtain ⟨h0, _, h2, _⟩ := h.cells
  obtain ⟨a, c, rfl, _⟩ := h.held.slice
  have hF : Hid (∀ n, ∃ a' c' w1, (Builtin.append_ #[99, 9] 99 #[.slice a B.size c, .string b]).run Try.prog (w.drewN n) = .ok (.slice a' (B.size + b.size) c') w1 ∧ w1.cell? ⟨g, 2, none⟩ = some (.slice a B.size c) ∧ w1.frozen? ⟨g, 2, none⟩ = false ∧ Hid (Did (bfT g (.slice a B.size c) most false B) (bfT g (.slice a' (B.size + b.size) c') most false (B ++ b)) w (w1.setCell ⟨g, 2, none⟩ (.slice a' (B.size + b.size) c')))) := by
    intro n
    have hq := h.quiet ((Keeps.refl nobody w).drewN n)
    obtain ⟨a', c', w1, hr, hv, hg, hn⟩ := hb_append hq.held b hs 99
    have hb1 : w1.heap[g]? = some (.cells #[.int .i64 (most : Int), .bool false, .slice a B.size c] 105 (0, 0)) := by
      rw [hg.block g hq.lt fun e => hq.apart e.symm]; exact hq.blk
    refine ⟨a', c', w1, hr, by simp [World.cell?, hb1], by simp [World.frozen?, hb1], ?_⟩
    refine Did.before ((Keeps.refl nobody w).drewN n) (hq.relay hg ?_ ((Keeps.refl (fun k => k = g) w1).setCell (p := ⟨g, 2, none⟩) (.inl rfl) _) hv hn (by simpa using hb))
    simp [World.setCell, hb1, Array.getElem?_modify]
  have h5 := h.bound
  have hd : (most : Int) - (B.size : Int) = ((most - B.size : Nat) : Int) := by have := h.fits; omega
  have hr : most - B.size ≤ 9223372036854775807 := by omega
  have hl : ¬ most - B.size < b.size := by have := h.fits; omega
  clear h h5 hb hs
  generalize most - B.size = r at *
  generalize B.size + b.size = m at *
  generalize B.size = n at *
  go_enter Try.func53, Try.ntmps53
  go_wp2_with fail
  go_quiet (first | (go_at_call 61; exact Calls.quiet_of_same (HE.out _)))
  obtain ⟨a', c', w1, hx, c1, f1, HD⟩ := hF.out nq
  have HR := hid hx
  clear hx hF HE
  go_wp2_with (at_builtin; refine wpList_append_run rfl _ _ 99 9 rfl (.slice a n c) (.string b) rfl rfl HR.out ?_)
  go_ret
  exact ⟨rfl, _, HD.out⟩
theorem put_ok (h : Bf w g v most o B) (b : ByteArray) (hs : B.size + b.size ≤ 140737488355328) : Calls Try.prog 53 #[.pointer (some ⟨g, 0, none⟩), .string b] w fun e w' => e = .returned (.bool (mayB most o B b)) ∧ ∃ v', Did (bfT g v most o B) (bfT g v' most o (putB most o B b)) w w' := by
  cases o with
  | true => exact (put_over h b).mono fun e w' ⟨he, hk⟩ => ⟨he, v, h.did hk⟩
  | false =>
    by_cases hb : B.size + b.size ≤ most
    · have e : mayB most false B b = true := by simp [mayB, hb]
      rw [putB, e, if_pos rfl]
      exact put_yes h b hb hs
    · have e : mayB most false B b = false := by simp [mayB, hb]
      rw [putB, e, if_neg (by decide)]
      exact (put_no h b (by omega)).mono fun e w' ⟨he, hk⟩ => ⟨he, v, h.did hk⟩

/-- How many bytes come out. -/
def getK (n : Int) (B : ByteArray) : Nat := min n.toNat B.size
end
end Go.Proofs.Ytendndokgpppiaa.Bu
