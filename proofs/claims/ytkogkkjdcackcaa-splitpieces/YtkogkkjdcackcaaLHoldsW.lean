/-
  The law SplitHolds as a walk.
-/
import Derived.Test.YtkogkkjdcackcaaLEmptyW
namespace Go.Proofs.Ytkogkkjdcackcaa
open Go.RowKit

theorem parts_join (P : ByteArray) (j : Nat) : P.extract 0 j ++ P.extract j P.size = P := by
  apply nums_inj
  rw [nums_append, nums_extract, nums_extract, List.drop_zero]
  have : (nums P).take P.size = nums P := nums_all P _ (by omega)
  rw [this, List.take_append_drop]
theorem half_next (f : Frm) (most j : Nat) (hf : right f) (hm : f.body.size ≤ most) (hj : j < (putA f).size) : nextR most false ((putA f).extract 0 j) = ((noF, false, 0), false, (putA f).extract 0 j) := by
  have e : (putA f).extract 0 j ++ (putA f).extract j (putA f).size = putA f ++ ⟨#[]⟩ := by rw [parts_join, append_none']
  refine nextR_none _ _ (not_great most hf hm e) (not_whole hf e ?_)
  rw [extract_size _ _ _ (by omega), ← put_size f hf]
  omega
theorem full_next (f : Frm) (most j : Nat) (hf : right f) (hm : f.body.size ≤ most) : nextR most false ((putA f).extract 0 j ++ (putA f).extract j (putA f).size) = ((f, true, 0), false, ⟨#[]⟩) := by
  rw [parts_join, ← append_none' (putA f)]
  exact next_put most hf hm
attribute [local irreducible] putA right nums str nextR

set_option maxRecDepth 100000 in
theorem holds_off (f : Frm) (k : Int) (w : World) (hz : f.body.size ≤ 140737488355328) (h : ¬ right f ∨ 512 < f.body.size) : Calls Try.prog 6 #[frval f, .int .i64 k] w (Fine w) := by
  have HA : Hid (∀ W, Calls Try.prog 9 #[] W fun e w' => e = .returned (.bool true) ∧ Keeps nobody W w') := alive_ok
  have HP : Hid (∀ W, Calls Try.prog 16 #[frval f] W fun e w' => e = .returned (.tuple #[.string (putA f), .bool (decide (right f))]) ∧ Keeps nobody W w') := fput_ok f
  have hk := keeps_alloc w (frobj f.kind f.flags f.id f.body)
  have hbx := bx_new w f
  by_cases hr : right f
  · have h2 : 512 < f.body.size := by
      rcases h with h | h
      · exact absurd hr h
      · exact h
    rw [decide_eq_true hr] at HP
    generalize putA f = P at *
    clear h hr
    obtain ⟨fk, ff, fi, fb⟩ := f
    simp only at h2 hz
    go_enter Try.func6, Try.ntmps6
    go_wp2_with fail
    refine Calls.mono (HP.out _) ?_
    rintro e w1 ⟨rfl, k1⟩
    obtain ⟨b0, b1, b2, b3, _⟩ := hbx.keeps k1 (fun h => h)
    go_wp2_with fail
    refine Calls.mono (HA.out _) ?_
    rintro e w2 ⟨rfl, k2⟩
    go_wp2
    go_ret
    exact ⟨rfl, below_of_keeps ((hk.then k1).then k2)⟩
  · rw [decide_eq_false hr] at HP
    generalize putA f = P at *
    clear h hr
    obtain ⟨fk, ff, fi, fb⟩ := f
    go_enter Try.func6, Try.ntmps6
    go_wp2_with fail
    refine Calls.mono (HP.out _) ?_
    rintro e w1 ⟨rfl, k1⟩
    go_wp2_with fail
    refine Calls.mono (HA.out _) ?_
    rintro e w2 ⟨rfl, k2⟩
    go_wp2
    go_ret
    exact ⟨rfl, below_of_keeps ((hk.then k1).then k2)⟩

set_option maxRecDepth 100000 in
set_option maxHeartbeats 1000000 in
theorem holds_main (f : Frm) (k : Int) (w : World) (hr : right f) (hm : f.body.size ≤ 512) : Calls Try.prog 6 #[frval f, .int .i64 k] w (Fine w) := by
  have HA : Hid (∀ W, Calls Try.prog 9 #[] W fun e w' => e = .returned (.bool true) ∧ Keeps nobody W w') := alive_ok
  have HP : Hid (∀ W, Calls Try.prog 16 #[frval f] W fun e w' => e = .returned (.tuple #[.string (putA f), .bool true]) ∧ Keeps nobody W w') := fun W => by
    have := fput_ok f W
    rwa [decide_eq_true hr] at this
  have hbx := bx_new w f
  have hps := put_size f hr
  have hS9 : 9 ≤ (putA f).size := by omega
  have hS2 : (putA f).size ≤ 521 := by omega
  have ht1 := Int.lt_tmod_of_pos k (show (0 : Int) < (putA f).size by omega)
  have ht2 := Int.tmod_lt_of_pos k (show (0 : Int) < (putA f).size by omega)
  generalize hkt : k.tmod ((putA f).size : Int) = t at *
  obtain ⟨j, hj⟩ : ∃ j : Nat, (t + ((putA f).size : Int)) % ((putA f).size : Int) = (j : Int) := Int.eq_ofNat_of_zero_le (Int.emod_nonneg _ (by omega))
  have hjl : j < (putA f).size := by have := Int.emod_lt_of_pos (t + ((putA f).size : Int)) (show (0 : Int) < (putA f).size by omega); omega
  have hn1 := half_next f 512 j hr hm hjl
  have hn2 := full_next f 512 j hr hm
  have z1 : ((putA f).extract 0 j).size = j := by rw [extract_size _ _ _ (by omega)]; omega
  have z2 : ((putA f).extract j (putA f).size).size = (putA f).size - j := by rw [extract_size _ _ _ (Nat.le_refl _)]
  have hsub : ((putA f).size : Int) - (j : Int) = (((putA f).size - j : Nat) : Int) := by omega
  have s1 : ∀ W, (Instr.slice 9 (.string (putA f)) none (some (.int .i64 (j : Int))) none).run Try.prog W = .ok (.string ((putA f).extract 0 j)) W := fun W => by
    rw [run_slice_string_h W 9 (putA f) Try.underlying9 .i64 (j : Int) (by omega) (by omega)]
    simp
  have s2 := slice_from (putA f) j (by omega)
  have HF1 : Hid (∀ W g v ts, Hold w W (spT g v 512 false ⟨#[]⟩ :: ts) → Calls Try.prog 12 #[.pointer (some ⟨g, 0, none⟩), .string ((putA f).extract 0 j)] W fun e w' => e = .returned (.int .i64 (j : Int)) ∧ ∃ v', Hid (Hold w w' (spT g v' 512 false ((putA f).extract 0 j) :: ts))) := fun W g v ts h => by
    have := t_feed h ((putA f).extract 0 j) (by rw [z1]; show 0 + j ≤ _; omega)
    rwa [none_append, z1] at this
  have HX1 : Hid (∀ W g v ts, Hold w W (spT g v 512 false ((putA f).extract 0 j) :: ts) → Calls Try.prog 11 #[.pointer (some ⟨g, 0, none⟩)] W fun e w' => e = .returned (.tuple #[.agg #[.int .i64 0, .int .i64 0, .int .i64 0, .string ⟨#[]⟩], .bool false, .int .i64 0]) ∧ ∃ v', Hid (Hold w w' (spT g v' 512 false ((putA f).extract 0 j) :: ts))) := fun W g v ts h => by
    have := t_next h
    rwa [hn1] at this
  have HH1 : Hid (∀ W g v ts, Hold w W (spT g v 512 false ((putA f).extract 0 j) :: ts) → Calls Try.prog 13 #[.pointer (some ⟨g, 0, none⟩)] W fun e w' => e = .returned (.int .i64 (j : Int)) ∧ W = w') := fun W g v ts h => by
    have := t_held h
    rwa [z1] at this
  have HF2 : Hid (∀ W g v ts, Hold w W (spT g v 512 false ((putA f).extract 0 j) :: ts) → Calls Try.prog 12 #[.pointer (some ⟨g, 0, none⟩), .string ((putA f).extract j (putA f).size)] W fun e w' => e = .returned (.int .i64 (((putA f).size - j : Nat) : Int)) ∧ ∃ v', Hid (Hold w w' (spT g v' 512 false ((putA f).extract 0 j ++ (putA f).extract j (putA f).size) :: ts))) := fun W g v ts h => by
    have := t_feed h ((putA f).extract j (putA f).size) (by rw [z1, z2]; omega)
    rwa [z2] at this
  have HX2 : Hid (∀ W g v ts, Hold w W (spT g v 512 false ((putA f).extract 0 j ++ (putA f).extract j (putA f).size) :: ts) → Calls Try.prog 11 #[.pointer (some ⟨g, 0, none⟩)] W fun e w' => e = .returned (.tuple #[frval f, .bool true, .int .i64 0]) ∧ ∃ v', Hid (Hold w w' (spT g v' 512 false ⟨#[]⟩ :: ts))) := fun W g v ts h => by
    have := t_next h
    rwa [hn2] at this
  have HN : Hid (∀ W ts, Hold w W ts → Calls Try.prog 10 #[.int .i64 512] W fun e w' => ∃ g v, e = .returned (.pointer (some ⟨g, 0, none⟩)) ∧ Hid (Hold w w' (spT g v 512 false ⟨#[]⟩ :: ts))) := fun W ts h => t_new h 512 (by decide) (by decide)
  have HH2 : Hid (∀ W g v ts, Hold w W (spT g v 512 false ⟨#[]⟩ :: ts) → Calls Try.prog 13 #[.pointer (some ⟨g, 0, none⟩)] W fun e w' => e = .returned (.int .i64 0) ∧ W = w') := fun W g v ts h => t_held h
  have H0 := hid ((hold_start w).box f)
  clear hn1 hn2 z1 z2 hr hps
  generalize (putA f).extract 0 j ++ (putA f).extract j (putA f).size = P12 at *
  generalize (putA f).extract 0 j = P1 at *
  generalize (putA f).extract j (putA f).size = P2 at *
  generalize putA f = P at *
  generalize P.size - j = r at *
  obtain ⟨fk, ff, fi, fb⟩ := f
  simp only at hm
  go_enter Try.func6, Try.ntmps6
  go_wp2_with fail
  refine Calls.mono (HP.out _) ?_
  rintro e w1 ⟨rfl, k1⟩
  obtain ⟨b0, b1, b2, b3, _⟩ := hbx.keeps k1 (fun h => h)
  have H1 := hid (H0.out.quiet k1)
  clear H0 k1 HP hbx
  go_wp2_with fail
  refine Calls.mono (HA.out _) ?_
  rintro e w2 ⟨rfl, k2⟩
  have H2 := hid (H1.out.quiet k2)
  clear H1 k2 HA b0 b1 b2 b3
  go_wp2_with fail
  refine Calls.mono (HN.out _ _ H2.out) ?_
  rintro e w3 ⟨g, v, rfl, H3⟩
  clear H2 HN
  go_wp2_with fail
  refine Calls.mono (HF1.out _ _ _ _ H3.out) ?_
  rintro e w4 ⟨rfl, v4, H4⟩
  clear H3 HF1
  go_wp2_with fail
  refine Calls.mono (HH1.out _ _ _ _ H4.out) ?_
  rintro e w5 ⟨rfl, rfl⟩
  go_wp2_with fail
  refine Calls.mono (HX1.out _ _ _ _ H4.out) ?_
  rintro e w5 ⟨rfl, v5, H5⟩
  have H6 := hid (H5.out.quiet (keeps_alloc w5 (frobj 0 0 0 ⟨#[]⟩)))
  clear H4 H5 HX1
  go_wp2_with fail
  refine Calls.mono (HH1.out _ _ _ _ H6.out) ?_
  rintro e w6 ⟨rfl, rfl⟩
  go_wp2_with fail
  refine Calls.mono (HF2.out _ _ _ _ H6.out) ?_
  rintro e w7 ⟨rfl, v7, H7⟩
  clear H6 HF2 HH1
  go_wp2_with fail
  refine Calls.mono (HX2.out _ _ _ _ H7.out) ?_
  rintro e w8 ⟨rfl, v8, H8⟩
  have H9 := hid (H8.out.quiet (keeps_alloc w8 (frobj fk ff fi fb)))
  obtain ⟨b0, b1, b2, b3, _⟩ := H9.out.bx (g := w.heap.size) (f := ⟨fk, ff, fi, fb⟩) (by simp)
  simp only at b0 b1 b2 b3
  clear H7 H8 HX2
  go_wp2_with fail
  refine Calls.mono (HH2.out _ _ _ _ H9.out) ?_
  rintro e w9 ⟨rfl, rfl⟩
  go_wp2
  go_ret
  exact ⟨rfl, H9.out.below⟩
theorem holds_true (f : Frm) (k : Int) (w : World) (hz : f.body.size ≤ 140737488355328) : Calls Try.prog 6 #[frval f, .int .i64 k] w (Fine w) := by
  by_cases hr : right f
  · by_cases hm : f.body.size ≤ 512
    · exact holds_main f k w hr hm
    · exact holds_off f k w hz (.inr (by omega))
  · exact holds_off f k w hz (.inl hr)
end Go.Proofs.Ytkogkkjdcackcaa
