/-
  The law BlockOthers as a walk.
-/
import Derived.Test.YtdpbnlamdgdljabJLive
import Derived.Test.YtdpbnlamdgdljabURef2
namespace Go.Proofs.Ytdpbnlamdgdljab
open Go.RowKit

theorem others_step (f : Frm) (h : f.kind ≠ 1) : takeA 1000 noO f = ((noO, false, if (checkA f).2 ≠ 0 then 1 else if f.kind = 9 then 11 else 0), noO) := by
  have hE : addE 1000 noO f = if (checkA f).2 ≠ 0 then 1 else if f.kind = 9 then 11 else 0 := by
    unfold addE followA
    by_cases hc : (checkA f).2 = 0
    · by_cases h9 : f.kind = 9
      · simp [noO, hc, h9]
      · simp [noO, hc, h9, h]
    · simp [hc]
  rw [takeA, hE]
  by_cases hc : (checkA f).2 = 0
  · rw [if_neg (c := (checkA f).2 ≠ 0) (fun g => g hc)]
    by_cases h9 : f.kind = 9
    · rw [if_pos h9, if_pos (by decide)]
    · have hO : addO noO f = noO := by rw [addO, if_neg h, if_neg h9]
      rw [if_neg h9, if_neg (by decide), hO, if_pos (.inl rfl)]
  · rw [if_pos (c := (checkA f).2 ≠ 0) hc, if_pos (by decide)]
attribute [local irreducible] nums str pieceN cutAt takeA opnK cutA zerosB checkA

set_option maxRecDepth 100000 in
theorem others_off (f : Frm) (w : World) (h : 600 < f.body.size ∨ f.kind = 1) : Calls Try.prog 3 #[frval f] w (Fine w) := by
  have HA : Hid (∀ W, Calls Try.prog 4 #[] W fun e w' => e = .returned (.bool true) ∧ Keeps nobody W w') := alive_ok
  obtain ⟨k, fl, id, b⟩ := f
  simp only at h
  have kb := keeps_alloc w (frobj k fl id b)
  by_cases h1 : 600 < b.size
  · clear h
    go_enter Try.func3, Try.ntmps3
    go_wp2_with fail
    refine Calls.mono (HA.out _) ?_
    rintro e w1 ⟨rfl, k1⟩
    go_wp2
    go_ret
    exact ⟨rfl, below_of_keeps (kb.then k1)⟩
  · obtain rfl : k = 1 := by rcases h with h | h; exact absurd h h1; exact h
    clear h
    go_enter Try.func3, Try.ntmps3
    go_wp2_with fail
    refine Calls.mono (HA.out _) ?_
    rintro e w1 ⟨rfl, k1⟩
    go_wp2
    go_ret
    exact ⟨rfl, below_of_keeps (kb.then k1)⟩

set_option maxRecDepth 100000 in
set_option maxHeartbeats 1000000 in
theorem others_main (f : Frm) (w : World) (h6 : ¬ 600 < f.body.size) (h1 : f.kind ≠ 1) : Calls Try.prog 3 #[frval f] w (Fine w) := by
  have HA : Hid (∀ W, Calls Try.prog 4 #[] W fun e w' => e = .returned (.bool true) ∧ Keeps nobody W w') := alive_ok
  have HN : Hid (∀ W ts, Hold w W ts → Calls Try.prog 5 #[.int .i64 1000] W fun e w' => ∃ g v, e = .returned (.pointer (some ⟨g, 0, none⟩)) ∧ Hid (Hold w w' (blT g v 1000 noO :: ts))) := fun W ts h => t_bnew h 1000 (by decide) (by decide)
  have HT : Hid (∀ W g v ts, Hold w W (blT g v 1000 noO :: ts) → Calls Try.prog 6 #[.pointer (some ⟨g, 0, none⟩), frval f] W fun r w' => r = .returned (.tuple #[.agg #[.int .i64 0, .string ⟨#[]⟩, .bool false], .bool false, .int .i64 (if (checkA f).2 ≠ 0 then 1 else if f.kind = 9 then 11 else 0)]) ∧ ∃ v', Hid (Hold w w' (blT g v' 1000 noO :: ts))) := fun W g v ts h => by
    have := t_take h f (by show 0 + _ ≤ _; omega)
    rwa [others_step f h1] at this
  have HR : Hid (∀ W, Calls Try.prog 7 #[frval f] W fun e w' => e = .returned (checkV (checkA f)) ∧ Keeps nobody W w') := fun W => rcheck_ok f W (by omega)
  have HO : Hid (∀ W g v ts, Hold w W (blT g v 1000 noO :: ts) → Calls Try.prog 8 #[.pointer (some ⟨g, 0, none⟩)] W fun e w' => e = .returned (.int .i64 0) ∧ W = w') := fun W g v ts h => t_bopen h
  have H00 := hid ((hold_start w).box f)
  generalize checkA f = c at *
  obtain ⟨c1, c2⟩ := c
  obtain ⟨k, fl, id, b⟩ := f
  simp only at h6 h1
  have g1 : (k == 1) = false := by simpa using h1
  generalize hw : (if c2 ≠ 0 then (1 : Int) else if k = 9 then 11 else 0) = want at HT
  by_cases hc : c2 = 0
  · subst hc
    by_cases h9 : k = 9
    · subst h9
      obtain rfl : want = 11 := by rw [← hw]; rfl
      have HT' : Hid (∀ W g v ts, Hold w W (blT g v 1000 noO :: ts) → Calls Try.prog 6 #[.pointer (some ⟨g, 0, none⟩), frval ⟨9, fl, id, b⟩] W fun r w' => r = .returned (.tuple #[.agg #[.int .i64 0, .string ⟨#[]⟩, .bool false], .bool false, .int .i64 11]) ∧ ∃ v', Hid (Hold w w' (blT g v' 1000 noO :: ts))) := HT.out
      clear HT
      go_enter Try.func3, Try.ntmps3
      go_wp2_with fail
      refine Calls.mono (HA.out _) ?_
      rintro r w0 ⟨rfl, k0⟩
      have H0 := hid (H00.out.quiet k0)
      obtain ⟨b0, b1, b2, b3, _⟩ := H0.out.bx (g := w.heap.size) (f := ⟨9, fl, id, b⟩) (by simp)
      simp only at b0 b1 b2 b3
      clear HA k0 H00
      go_wp2_with fail
      refine Calls.mono (HN.out _ _ H0.out) ?_
      rintro r w2 ⟨g, v, rfl, H2⟩
      obtain ⟨b0, b1, b2, b3, _⟩ := H2.out.bx (g := w.heap.size) (f := ⟨9, fl, id, b⟩) (by simp)
      simp only at b0 b1 b2 b3
      clear H0 HN
      go_wp2_with fail
      refine Calls.mono (HT'.out _ _ _ _ H2.out) ?_
      rintro r w3 ⟨rfl, v3, H3⟩
      have HX := hid (rs_new w3 noO)
      have H4 := hid (H3.out.quiet (keeps_alloc w3 (.cells #[.int .i64 0, .string ⟨#[]⟩, .bool false] 28)))
      obtain ⟨b0, b1, b2, b3, _⟩ := H4.out.bx (g := w.heap.size) (f := ⟨9, fl, id, b⟩) (by simp)
      simp only at b0 b1 b2 b3
      clear H2 H3 HT'
      go_wp2_with fail
      refine Calls.mono (HR.out _) ?_
      rintro r w5 ⟨rfl, k5⟩
      have H5 := hid (H4.out.quiet k5)
      obtain ⟨x0, x1, x2, _⟩ := HX.out.keeps k5 (fun h => h)
      obtain ⟨b0, b1, b2, b3, _⟩ := H5.out.bx (g := w.heap.size) (f := ⟨9, fl, id, b⟩) (by simp)
      simp only [noO] at b0 b1 b2 b3 x0 x1 x2
      clear H4 HX k5 HR
      go_wp2_with fail
      refine Calls.mono (HO.out _ _ _ _ H5.out) ?_
      rintro r w7 ⟨rfl, rfl⟩
      go_wp2
      go_ret
      exact ⟨rfl, H5.out.below⟩
    · have g9 : (k == 9) = false := by simpa using h9
      obtain rfl : want = 0 := by rw [← hw, if_neg (fun g => g rfl), if_neg h9]
      have HT' : Hid (∀ W g v ts, Hold w W (blT g v 1000 noO :: ts) → Calls Try.prog 6 #[.pointer (some ⟨g, 0, none⟩), frval ⟨k, fl, id, b⟩] W fun r w' => r = .returned (.tuple #[.agg #[.int .i64 0, .string ⟨#[]⟩, .bool false], .bool false, .int .i64 0]) ∧ ∃ v', Hid (Hold w w' (blT g v' 1000 noO :: ts))) := HT.out
      clear HT
      go_enter Try.func3, Try.ntmps3
      go_wp2_with fail
      refine Calls.mono (HA.out _) ?_
      rintro r w0 ⟨rfl, k0⟩
      have H0 := hid (H00.out.quiet k0)
      obtain ⟨b0, b1, b2, b3, _⟩ := H0.out.bx (g := w.heap.size) (f := ⟨k, fl, id, b⟩) (by simp)
      simp only at b0 b1 b2 b3
      clear HA k0 H00
      go_wp2_with fail
      refine Calls.mono (HN.out _ _ H0.out) ?_
      rintro r w2 ⟨g, v, rfl, H2⟩
      obtain ⟨b0, b1, b2, b3, _⟩ := H2.out.bx (g := w.heap.size) (f := ⟨k, fl, id, b⟩) (by simp)
      simp only at b0 b1 b2 b3
      clear H0 HN
      go_wp2_with fail
      refine Calls.mono (HT'.out _ _ _ _ H2.out) ?_
      rintro r w3 ⟨rfl, v3, H3⟩
      have HX := hid (rs_new w3 noO)
      have H4 := hid (H3.out.quiet (keeps_alloc w3 (.cells #[.int .i64 0, .string ⟨#[]⟩, .bool false] 28)))
      obtain ⟨b0, b1, b2, b3, _⟩ := H4.out.bx (g := w.heap.size) (f := ⟨k, fl, id, b⟩) (by simp)
      simp only at b0 b1 b2 b3
      clear H2 H3 HT'
      go_wp2_with fail
      refine Calls.mono (HR.out _) ?_
      rintro r w5 ⟨rfl, k5⟩
      have H5 := hid (H4.out.quiet k5)
      obtain ⟨x0, x1, x2, _⟩ := HX.out.keeps k5 (fun h => h)
      obtain ⟨b0, b1, b2, b3, _⟩ := H5.out.bx (g := w.heap.size) (f := ⟨k, fl, id, b⟩) (by simp)
      simp only [noO] at b0 b1 b2 b3 x0 x1 x2
      clear H4 HX k5 HR
      go_wp2_with fail
      refine Calls.mono (HO.out _ _ _ _ H5.out) ?_
      rintro r w7 ⟨rfl, rfl⟩
      go_wp2
      go_ret
      exact ⟨rfl, H5.out.below⟩
  · have gc : (c2 != 0) = true := by simpa using hc
    obtain rfl : want = 1 := by rw [← hw, if_pos hc]
    have HT' : Hid (∀ W g v ts, Hold w W (blT g v 1000 noO :: ts) → Calls Try.prog 6 #[.pointer (some ⟨g, 0, none⟩), frval ⟨k, fl, id, b⟩] W fun r w' => r = .returned (.tuple #[.agg #[.int .i64 0, .string ⟨#[]⟩, .bool false], .bool false, .int .i64 1]) ∧ ∃ v', Hid (Hold w w' (blT g v' 1000 noO :: ts))) := HT.out
    clear HT
    go_enter Try.func3, Try.ntmps3
    go_wp2_with fail
    refine Calls.mono (HA.out _) ?_
    rintro r w0 ⟨rfl, k0⟩
    have H0 := hid (H00.out.quiet k0)
    obtain ⟨b0, b1, b2, b3, _⟩ := H0.out.bx (g := w.heap.size) (f := ⟨k, fl, id, b⟩) (by simp)
    simp only at b0 b1 b2 b3
    clear HA k0 H00
    go_wp2_with fail
    refine Calls.mono (HN.out _ _ H0.out) ?_
    rintro r w2 ⟨g, v, rfl, H2⟩
    obtain ⟨b0, b1, b2, b3, _⟩ := H2.out.bx (g := w.heap.size) (f := ⟨k, fl, id, b⟩) (by simp)
    simp only at b0 b1 b2 b3
    clear H0 HN
    go_wp2_with fail
    refine Calls.mono (HT'.out _ _ _ _ H2.out) ?_
    rintro r w3 ⟨rfl, v3, H3⟩
    have HX := hid (rs_new w3 noO)
    have H4 := hid (H3.out.quiet (keeps_alloc w3 (.cells #[.int .i64 0, .string ⟨#[]⟩, .bool false] 28)))
    obtain ⟨b0, b1, b2, b3, _⟩ := H4.out.bx (g := w.heap.size) (f := ⟨k, fl, id, b⟩) (by simp)
    simp only at b0 b1 b2 b3
    clear H2 H3 HT'
    go_wp2_with fail
    refine Calls.mono (HR.out _) ?_
    rintro r w5 ⟨rfl, k5⟩
    have H5 := hid (H4.out.quiet k5)
    obtain ⟨x0, x1, x2, _⟩ := HX.out.keeps k5 (fun h => h)
    obtain ⟨b0, b1, b2, b3, _⟩ := H5.out.bx (g := w.heap.size) (f := ⟨k, fl, id, b⟩) (by simp)
    simp only [noO] at b0 b1 b2 b3 x0 x1 x2
    clear H4 HX k5 HR
    go_wp2_with fail
    refine Calls.mono (HO.out _ _ _ _ H5.out) ?_
    rintro r w7 ⟨rfl, rfl⟩
    go_wp2
    go_ret
    exact ⟨rfl, H5.out.below⟩
theorem others_true (f : Frm) (w : World) (_ : f.body.size ≤ 140737488355328) : Calls Try.prog 3 #[frval f] w (Fine w) := by
  by_cases h : 600 < f.body.size ∨ f.kind = 1
  · exact others_off f w h
  · exact others_main f w (fun e => h (.inl e)) (fun e => h (.inr e))
end Go.Proofs.Ytdpbnlamdgdljab
