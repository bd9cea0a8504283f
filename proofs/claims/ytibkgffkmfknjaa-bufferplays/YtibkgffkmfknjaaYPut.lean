/-
  Package buffer: Put, Get.
-/
import Derived.Test.YtibkgffkmfknjaaYMem
namespace Go.Proofs.Ytibkgffkmfknjaa
open Go.RowKit
attribute [local irreducible] nums str

theorem put_nil (b : ByteArray) (w : World) : Calls Try.prog 9 #[.pointer none, .string b] w fun e w' => e = .returned (.bool false) ∧ Keeps nobody w w' := by
  have HE : Hid (∀ n, Calls Try.prog 14 #[.pointer none] (w.drewN n) fun e w' => e = .returned (.bool true) ∧ w' = w.drewN n) := fun n => (ended_nil _).mono fun _ _ h => ⟨h.1, h.2.symm⟩
  go_enter Try.func9, Try.ntmps9
  go_wp2_with fail
  go_quiet (first | (go_at_call 14; exact Calls.quiet_of_same (HE.out _)))
  go_wp2
  go_ret
  exact ⟨rfl, (Keeps.refl _ _).drewN _⟩
/-- Whether bytes may go in. -/
def mayB (most : Nat) (o : Bool) (B b : ByteArray) : Bool := !o && decide (B.size + b.size ≤ most)
def putB (most : Nat) (o : Bool) (B b : ByteArray) : ByteArray := if mayB most o B b then B ++ b else B
section
variable {w : World} {g : Nat} {v : Value} {most : Nat} {o : Bool} {B : ByteArray}
theorem put_over (h : Bf w g v most true B) (b : ByteArray) : Calls Try.prog 9 #[.pointer (some ⟨g, 0, none⟩), .string b] w fun e w' => e = .returned (.bool false) ∧ Keeps nobody w w' := by
  have HE : Hid (∀ n, Calls Try.prog 14 #[.pointer (some ⟨g, 0, none⟩)] (w.drewN n) fun e w' => e = .returned (.bool true) ∧ w' = w.drewN n) := fun n => (ended_ok (h.quiet ((Keeps.refl _ _).drewN n))).mono fun _ _ h => ⟨h.1, h.2.symm⟩
  clear h
  go_enter Try.func9, Try.ntmps9
  go_wp2_with fail
  go_quiet (first | (go_at_call 14; exact Calls.quiet_of_same (HE.out _)))
  go_wp2
  go_ret
  exact ⟨rfl, (Keeps.refl _ _).drewN _⟩
theorem put_no (h : Bf w g v most false B) (b : ByteArray) (hb : most < B.size + b.size) : Calls Try.prog 9 #[.pointer (some ⟨g, 0, none⟩), .string b] w fun e w' => e = .returned (.bool false) ∧ Keeps nobody w w' := by
  have HE : Hid (∀ n, Calls Try.prog 14 #[.pointer (some ⟨g, 0, none⟩)] (w.drewN n) fun e w' => e = .returned (.bool false) ∧ w' = w.drewN n) := fun n => (ended_ok (h.quiet ((Keeps.refl _ _).drewN n))).mono fun _ _ h => ⟨h.1, h.2.symm⟩
  obtain ⟨h0, _, h2, _⟩ := h.cells
  obtain ⟨a, c, rfl, _⟩ := h.held.slice
  have h5 := h.bound
  have hd : (most : Int) - (B.size : Int) = ((most - B.size : Nat) : Int) := by have := h.fits; omega
  have hr : most - B.size ≤ 9223372036854775807 := by omega
  have hl : most - B.size < b.size := by have := h.fits; omega
  clear h h5 hb
  generalize most - B.size = r at *
  generalize B.size = n at *
  go_enter Try.func9, Try.ntmps9
  go_wp2_with fail
  go_quiet (first | (go_at_call 14; exact Calls.quiet_of_same (HE.out _)))
  go_wp2
  go_ret
  exact ⟨rfl, (Keeps.refl _ _).drewN _⟩
theorem put_yes (h : Bf w g v most false B) (b : ByteArray) (hb : B.size + b.size ≤ most) (hs : B.size + b.size ≤ 140737488355328) : Calls Try.prog 9 #[.pointer (some ⟨g, 0, none⟩), .string b] w fun e w' => e = .returned (.bool true) ∧ ∃ v', Did (bfT g v most false B) (bfT g v' most false (B ++ b)) w w' := by
  have HE : Hid (∀ n, Calls Try.prog 14 #[.pointer (some ⟨g, 0, none⟩)] (w.drewN n) fun e w' => e = .returned (.bool false) ∧ w' = w.drewN n) := fun n => (ended_ok (h.quiet ((Keeps.refl _ _).drewN n))).mono fun _ _ h => ⟨h.1, h.2.symm⟩
  obtain ⟨h0, _, h2, _⟩ := h.cells
  obtain ⟨a, c, rfl, _⟩ := h.held.slice
  have hF : Hid (∀ n, ∃ a' c' w1, (Builtin.append_ #[37, 9] 37 #[.slice a B.size c, .string b]).run Try.prog (w.drewN n) = .ok (.slice a' (B.size + b.size) c') w1 ∧ w1.cell? ⟨g, 2, none⟩ = some (.slice a B.size c) ∧ w1.frozen? ⟨g, 2, none⟩ = false ∧ Hid (Did (bfT g (.slice a B.size c) most false B) (bfT g (.slice a' (B.size + b.size) c') most false (B ++ b)) w (w1.setCell ⟨g, 2, none⟩ (.slice a' (B.size + b.size) c')))) := by
    intro n
    have hq := h.quiet ((Keeps.refl nobody w).drewN n)
    obtain ⟨a', c', w1, hr, hv, hg, hn⟩ := hb_append hq.held b hs 37
    have hb1 : w1.heap[g]? = some (.cells #[.int .i64 (most : Int), .bool false, .slice a B.size c] 39 (0, 0)) := by
      rw [hg.block g hq.lt fun e => hq.apart e.symm]; exact hq.blk
    refine ⟨a', c', w1, hr, by simp [World.cell?, hb1], by simp [World.frozen?, hb1], ?_⟩
    refine Did.before ((Keeps.refl nobody w).drewN n) (hq.relay hg ?_ ((Keeps.refl (fun k => k = g) w1).setCell (p := ⟨g, 2, none⟩) (.inl rfl) _) hv hn (by simpa using hb))
    simp [World.setCell, hb1, Array.getElem?_modify]
  have h5 := h.bound
  have hd : (most : Int) - (B.size : Int) = ((most - B.size : Nat) : Int) := by have := h.fits; omega
  have hr : most - B.size ≤ 9223372036854775807 := by omega
  have hl : ¬ most - B.size < b.size := by have := h.fits; omega
  clear h h5 hb hs
  generalize most - B.size = r at *
  generalize B.size + b.size = m at *
  generalize B.size = n at *
  go_enter Try.func9, Try.ntmps9
  go_wp2_with fail
  go_quiet (first | (go_at_call 14; exact Calls.quiet_of_same (HE.out _)))
  obtain ⟨a', c', w1, hx, c1, f1, HD⟩ := hF.out nq
  have HR := hid hx
  clear hx hF HE
  go_wp2_with (at_builtin; refine wpList_append_run rfl _ _ 37 9 rfl (.slice a n c) (.string b) rfl rfl HR.out ?_)
  go_ret
  exact ⟨rfl, _, HD.out⟩
theorem put_ok (h : Bf w g v most o B) (b : ByteArray) (hs : B.size + b.size ≤ 140737488355328) : Calls Try.prog 9 #[.pointer (some ⟨g, 0, none⟩), .string b] w fun e w' => e = .returned (.bool (mayB most o B b)) ∧ ∃ v', Did (bfT g v most o B) (bfT g v' most o (putB most o B b)) w w' := by
  cases o with
  | true => exact (put_over h b).mono fun e w' ⟨he, hk⟩ => ⟨he, v, h.did hk⟩
  | false =>
    by_cases hb : B.size + b.size ≤ most
    · have e : mayB most false B b = true := by simp [mayB, hb]
      rw [putB, e, if_pos rfl]
      exact put_yes h b hb hs
    · have e : mayB most false B b = false := by simp [mayB, hb]
      rw [putB, e, if_neg (by decide)]
      exact (put_no h b (by omega)).mono fun e w' ⟨he, hk⟩ => ⟨he, v, h.did hk⟩

theorem get_nil (n : Int) (w : World) : Calls Try.prog 11 #[.pointer none, .int .i64 n] w fun e w' => e = .returned (.string ⟨#[]⟩) ∧ w = w' := by
  have HL : Hid (∀ W, Calls Try.prog 12 #[.pointer none] W fun e w' => e = .returned (.int .i64 0) ∧ W = w') := len_nil
  have hm : ∀ W ts t, (Builtin.min_ ts t #[.int .i64 n, .int .i64 0]).run Try.prog W = .ok (.int .i64 (if (0 : Int) < n then 0 else n)) W := fun W ts t => run_min_int2 ..
  have hc : (if (0 : Int) < n then 0 else n) < 1 := by split <;> omega
  generalize (if (0 : Int) < n then 0 else n) = c at *
  go_enter Try.func11, Try.ntmps11
  go_wp2_with fail
  refine Calls.mono (HL.out _) ?_
  rintro e w1 ⟨rfl, rfl⟩
  go_wp2
  go_ret
  exact ⟨rfl, rfl⟩
/-- How many bytes come out. -/
def getK (n : Int) (B : ByteArray) : Nat := min n.toNat B.size
theorem get_none (h : Bf w g v most o B) (n : Int) (hn : getK n B = 0) : Calls Try.prog 11 #[.pointer (some ⟨g, 0, none⟩), .int .i64 n] w fun e w' => e = .returned (.string ⟨#[]⟩) ∧ w = w' := by
  have HL : Hid (Calls Try.prog 12 #[.pointer (some ⟨g, 0, none⟩)] w fun e w' => e = .returned (.int .i64 (B.size : Int)) ∧ w = w') := len_ok h
  have hm : ∀ W ts t, (Builtin.min_ ts t #[.int .i64 n, .int .i64 (B.size : Int)]).run Try.prog W = .ok (.int .i64 (if (B.size : Int) < n then (B.size : Int) else n)) W := fun W ts t => run_min_int2 ..
  have hc : (if (B.size : Int) < n then (B.size : Int) else n) < 1 := by
    unfold getK at hn
    split <;> omega
  generalize (if (B.size : Int) < n then (B.size : Int) else n) = c at *
  clear hn h
  go_enter Try.func11, Try.ntmps11
  go_wp2_with fail
  refine Calls.mono HL.out ?_
  rintro e w1 ⟨rfl, rfl⟩
  go_wp2
  go_ret
  exact ⟨rfl, rfl⟩
theorem get_some (h : Bf w g v most o B) (n : Int) (k : Nat) (hn : getK n B = k) (hk : 0 < k) : Calls Try.prog 11 #[.pointer (some ⟨g, 0, none⟩), .int .i64 n] w fun e w' => e = .returned (.string (B.extract 0 k)) ∧ ∃ v', Did (bfT g v most o B) (bfT g v' most o (B.extract k B.size)) w w' := by
  have HL : Hid (Calls Try.prog 12 #[.pointer (some ⟨g, 0, none⟩)] w fun e w' => e = .returned (.int .i64 (B.size : Int)) ∧ w = w') := len_ok h
  have hkB : k ≤ B.size := by unfold getK at hn; omega
  have hm : ∀ W ts t, (Builtin.min_ ts t #[.int .i64 n, .int .i64 (B.size : Int)]).run Try.prog W = .ok (.int .i64 (k : Int)) W := fun W ts t => by
    have e : (if (B.size : Int) < n then (B.size : Int) else n) = (k : Int) := by
      unfold getK at hn
      split <;> omega
    rw [← e]
    exact run_min_int2 ..
  obtain ⟨h0, _, h2, hf⟩ := h.cells
  rcases h.held with ⟨rfl, rfl⟩ | ⟨rb, off, cap, rfl, hcap, hr, ht, hlt⟩
  · have h0 : (⟨#[]⟩ : ByteArray).size = 0 := rfl
    omega
  have hsl := slice_to rb off B.size cap k (by omega)
  have hcv := conv_to (cap := cap) hr hlt k hkB w (Keeps.refl _ _)
  obtain ⟨off2, hsd, hbd⟩ := hb_drop hcap hr ht hlt k hkB
  have HD : Hid (Did (bfT g (.slice (some ⟨rb, off, none⟩) B.size cap) most o B) (bfT g (.slice (some ⟨rb, off2, none⟩) (B.size - k) (cap - k)) most o (B.extract k B.size)) w (w.setCell ⟨g, 2, none⟩ (.slice (some ⟨rb, off2, none⟩) (B.size - k) (cap - k)))) := by
    refine h.relay (World.grownBy.refl _ _) ?_ ((Keeps.refl (fun k => k = g) w).setCell (p := ⟨g, 2, none⟩) (.inl rfl) _) hbd (fun k e => .inl e) ?_
    · simp [World.setCell, h.blk, Array.getElem?_modify]
    · rw [extract_size _ _ _ (Nat.le_refl _)]
      have := h.fits
      omega
  have hk1 : ¬ ((k : Int) < 1) := by omega
  clear h hn hbd hr ht hcap hkB
  generalize B.extract 0 k = F at *
  generalize B.extract k B.size = R at *
  generalize B.size - k = n2 at *
  generalize cap - k = cap2 at *
  generalize B.size = m at *
  go_enter Try.func11, Try.ntmps11
  go_wp2_with fail
  refine Calls.mono HL.out ?_
  rintro e w1 ⟨rfl, rfl⟩
  go_wp2
  go_ret
  exact ⟨rfl, _, HD.out⟩
theorem get_ok (h : Bf w g v most o B) (n : Int) : Calls Try.prog 11 #[.pointer (some ⟨g, 0, none⟩), .int .i64 n] w fun e w' => e = .returned (.string (B.extract 0 (getK n B))) ∧ ∃ v', Did (bfT g v most o B) (bfT g v' most o (B.extract (getK n B) B.size)) w w' := by
  by_cases h0 : getK n B = 0
  · rw [h0, extract_all B B.size (Nat.le_refl _)]
    have e : B.extract 0 0 = ⟨#[]⟩ := eq_empty_of_size _ (by rw [extract_size _ _ _ (Nat.zero_le _)]; omega)
    rw [e]
    exact (get_none h n h0).mono fun e w' ⟨he, hk⟩ => ⟨he, v, hk ▸ h.did (Keeps.refl _ _)⟩
  · exact get_some h n _ rfl (by omega)
end
end Go.Proofs.Ytibkgffkmfknjaa
