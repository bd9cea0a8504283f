/-
  The statements' first call of all.
-/
import Derived.Test.YtdpbnlamdgdljaaJAlive
import Derived.Deep.OwnRows
namespace Go.Proofs.Ytdpbnlamdgdljaa
open Go.RowKit
attribute [local irreducible] nums str pieceN cutAt takeA opnK cutA zerosB

theorem alive_steps : cutA 3 (zerosB 100) true 64 = [cutAt 3 (zerosB 100) true 64 0, cutAt 3 (zerosB 100) true 64 1] ∧ pieceN (zerosB 100).size 64 = 2 ∧
    takeA 200 noO (cutAt 3 (zerosB 100) true 64 0) = ((noO, false, 0), opnK 3 (zerosB 100) true 64 1) ∧ takeA 200 (opnK 3 (zerosB 100) true 64 1) (cutAt 3 (zerosB 100) true 64 1) = ((⟨3, true, zerosB 100⟩, true, 0), noO) := by
  have hz := zerosB_size 100
  have hp : pieceN (zerosB 100).size 64 = 2 := by rw [hz]; decide +kernel
  have hc : cuts 3 64 := by decide
  have h0 := cut_take 200 3 (zerosB 100) true 64 0 hc (by rw [hp]; decide)
  have h1 := cut_take 200 3 (zerosB 100) true 64 1 hc (by rw [hp]; decide)
  rw [hp, hz] at h0 h1
  refine ⟨?_, hp, ?_, ?_⟩
  · unfold cutA
    rw [hp]
    rfl
  · have e : opnK 3 (zerosB 100) true 64 0 = noO := by unfold opnK; rfl
    rw [e] at h0
    simpa using h0
  · simpa using h1
set_option maxRecDepth 100000 in
set_option maxHeartbeats 1000000 in
theorem alive_ok (w : World) : Calls Try.prog 9 #[] w fun e w' => e = .returned (.bool true) ∧ Keeps nobody w w' := by
  obtain ⟨hl, hp, ht0, ht1⟩ := alive_steps
  have hz := zerosB_size 100
  have HC : Hid (∀ W ts, Hold w W ts → Calls Try.prog 10 #[.int .i64 3, .string (zerosB 100), .bool true, .int .i64 64] W fun r w' => ∃ rb c, r = .returned (.tuple #[.slice (some ⟨rb, 0, none⟩) 2 c, .bool true]) ∧ Hid (Hold w w' (rowT (.slice (some ⟨rb, 0, none⟩) 2 c) [cutAt 3 (zerosB 100) true 64 0, cutAt 3 (zerosB 100) true 64 1] :: ts))) := fun W ts h => by
    have := t_cut h 3 64 (zerosB 100) true (by decide) (by rw [hz]; decide)
    rwa [hp, hl] at this
  have hs0 : (cutAt 3 (zerosB 100) true 64 0).body.size ≤ 64 := by rw [cutAt_size _ _ _ _ _ (by decide) (by rw [hp]; decide)]; omega
  have hs1 : (cutAt 3 (zerosB 100) true 64 1).body.size ≤ 64 := by rw [cutAt_size _ _ _ _ _ (by decide) (by rw [hp]; decide)]; omega
  have hso : (opnK 3 (zerosB 100) true 64 1).bytes.size ≤ 100 := by
    rw [opnK_bytes, ByteArray.size_extract]
    omega
  have HN : Hid (∀ W ts, Hold w W ts → Calls Try.prog 14 #[.int .i64 200] W fun e w' => ∃ g v, e = .returned (.pointer (some ⟨g, 0, none⟩)) ∧ Hid (Hold w w' (blT g v 200 noO :: ts))) := fun W ts h => t_bnew h 200 (by decide) (by decide)
  have HT0 : Hid (∀ W g v ts, Hold w W (blT g v 200 noO :: ts) → Calls Try.prog 15 #[.pointer (some ⟨g, 0, none⟩), frval (cutAt 3 (zerosB 100) true 64 0)] W fun e w' => e = .returned (.tuple #[.agg #[.int .i64 0, .string ⟨#[]⟩, .bool false], .bool false, .int .i64 0]) ∧ ∃ v', Hid (Hold w w' (blT g v' 200 (opnK 3 (zerosB 100) true 64 1) :: ts))) := fun W g v ts h => by
    have := t_take h (cutAt 3 (zerosB 100) true 64 0) (by show 0 + _ ≤ _; omega)
    rwa [ht0] at this
  have HT1 : Hid (∀ W g v ts, Hold w W (blT g v 200 (opnK 3 (zerosB 100) true 64 1) :: ts) → Calls Try.prog 15 #[.pointer (some ⟨g, 0, none⟩), frval (cutAt 3 (zerosB 100) true 64 1)] W fun e w' => e = .returned (.tuple #[.agg #[.int .i64 3, .string (zerosB 100), .bool true], .bool true, .int .i64 0]) ∧ ∃ v', Hid (Hold w w' (blT g v' 200 noO :: ts))) := fun W g v ts h => by
    have := t_take h (cutAt 3 (zerosB 100) true 64 1) (by omega)
    rwa [ht1] at this
  have HO : Hid (∀ W g v ts, Hold w W (blT g v 200 noO :: ts) → Calls Try.prog 16 #[.pointer (some ⟨g, 0, none⟩)] W fun e w' => e = .returned (.int .i64 0) ∧ W = w') := fun W g v ts h => t_bopen h
  have hcv := conv_zerosB 100 (by decide)
  have hmk := run_make_row' (P := Try.prog) 59 5 (.int .u8 0) 1 Try.underlying59 info5 rfl .i64 .i64 100 (by decide) (by decide)
  have hmk' : ∀ W, (Instr.makeSlice 59 (.int .i64 100) (.int .i64 100)).run Try.prog W = .ok (.slice (some ⟨W.heap.size, 0, none⟩) 100 100) (W.alloc (.cells (madeCells #[.int .u8 0] 100) 5)) := fun W => hmk W
  generalize madeCells #[.int .u8 0] 100 = Z at *
  clear hl hp ht0 ht1 hs0 hs1 hso hmk
  generalize cutAt 3 (zerosB 100) true 64 0 = f0 at *
  generalize cutAt 3 (zerosB 100) true 64 1 = f1 at *
  generalize opnK 3 (zerosB 100) true 64 1 = o1 at *
  generalize zerosB 100 = B at *
  go_enter Try.func9, Try.ntmps9
  have H0 := hid ((hold_nil (Below.refl w.heap.size w)).quiet (keeps_alloc w (.cells Z 5)))
  go_wp2_with fail
  refine Calls.mono (HC.out _ _ H0.out) ?_
  rintro e w1 ⟨rb, c, rfl, H1⟩
  clear H0 HC
  go_wp2_with fail
  refine Calls.mono (HN.out _ _ H1.out) ?_
  rintro e w2 ⟨g, v, rfl, H2⟩
  obtain ⟨r0, r1, r2, r3⟩ := H2.out.row (rb := rb) (n := 2) (c := c) (l := [f0, f1]) (by simp) 0 f0 rfl
  have hrb := H2.out.rowLt (rb := rb) (n := 2) (c := c) (l := [f0, f1]) (by simp)
  clear H1 HN
  go_wp2_with fail
  refine Calls.mono (HT0.out _ _ _ _ H2.out) ?_
  rintro e w3 ⟨rfl, v3, H3⟩
  have H4 := hid (H3.out.quiet (keeps_alloc w3 (.cells #[.int .i64 0, .string ⟨#[]⟩, .bool false] 41)))
  obtain ⟨s0, s1, s2, s3⟩ := H4.out.row (rb := rb) (n := 2) (c := c) (l := [f0, f1]) (by simp) 1 f1 rfl
  have hrb := H4.out.rowLt (rb := rb) (n := 2) (c := c) (l := [f0, f1]) (by simp)
  clear H2 H3 HT0 r0 r1 r2 r3
  go_wp2_with fail
  refine Calls.mono (HT1.out _ _ _ _ H4.out) ?_
  rintro e w5 ⟨rfl, v5, H5⟩
  have H6 := hid (H5.out.quiet (keeps_alloc w5 (.cells #[.int .i64 3, .string B, .bool true] 41)))
  clear H4 H5 HT1 s0 s1 s2 s3
  go_wp2_with fail
  refine Calls.mono (HO.out _ _ _ _ H6.out) ?_
  rintro e w7 ⟨rfl, rfl⟩
  go_wp2
  go_ret
  exact ⟨rfl, keeps_of_below H6.out.below⟩
end Go.Proofs.Ytdpbnlamdgdljaa
