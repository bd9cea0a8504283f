/-
  The law BlockBetween as a walk.
-/
import Derived.Test.YtdpbnlamdgdljaaJLive
import Derived.Test.YtdpbnlamdgdljaaURef2
namespace Go.Proofs.Ytdpbnlamdgdljaa
open Go.RowKit

theorem opnK_id (id : Int) (b : ByteArray) (e : Bool) (m k : Nat) : (opnK id b e m (k + 1)).id = id := by
  rw [opnK, if_neg (by omega)]
theorem between_step (b : ByteArray) (j : Nat) (hb : b.size ≤ 600) (hj : j + 1 < pieceN b.size 64) :
    ∃ f, (cutA 1 b false 64)[j]? = some f ∧ (opnK 1 b false 64 j).bytes.size + f.body.size ≤ 140737488355328 ∧ takeA 1000 (opnK 1 b false 64 j) f = ((noO, false, 0), opnK 1 b false 64 (j + 1)) := by
  have hj' : j < pieceN b.size 64 := by omega
  have ht := cut_take 1000 1 b false 64 j (by decide) hj'
  refine ⟨_, cutA_at 1 b false 64 j hj', ?_, ?_⟩
  · rw [cutAt_size _ _ _ _ _ (by decide) hj', opnK_bytes, ByteArray.size_extract]
    omega
  · rw [ht, if_neg (by omega), if_neg (by omega)]
theorem between_bad (b : ByteArray) (f : Frm) (k : Nat) (hk : 1 ≤ k) (h : ¬ (f.kind = 9 ∧ f.id = 1)) : takeA 1000 (opnK 1 b false 64 k) f = ((noO, false, if (checkA f).2 ≠ 0 then 1 else 11), noO) := by
  obtain ⟨k, rfl⟩ : ∃ i, k = i + 1 := ⟨k - 1, by omega⟩
  have hf : followA (opnK 1 b false 64 (k + 1)).id f = false := by
    rw [opnK_id, followA, if_neg (by decide)]
    exact decide_eq_false h
  have hE : addE 1000 (opnK 1 b false 64 (k + 1)) f = if (checkA f).2 ≠ 0 then 1 else 11 := by
    rw [addE, hf]
    by_cases hc : (checkA f).2 = 0 <;> simp [hc]
  rw [takeA, hE]
  by_cases hc : (checkA f).2 = 0
  · rw [if_neg (c := (checkA f).2 ≠ 0) (fun g => g hc), if_pos (by decide)]
  · rw [if_pos (c := (checkA f).2 ≠ 0) hc, if_pos (by decide)]
theorem between_last (b : ByteArray) (k : Nat) (hk : 1 ≤ k) (hn : k < pieceN b.size 64) : ∃ f, (cutA 1 b false 64)[k]? = some f ∧ f.body.size ≤ 64 ∧ takeA 1000 noO f = ((noO, false, 11), noO) := by
  have hz := cutAt_size 1 b false 64 k (by decide) hn
  refine ⟨_, cutA_at 1 b false 64 k hn, by omega, ?_⟩
  have hk9 : (cutAt 1 b false 64 k).kind = 9 := by show (if k = 0 then (1 : Int) else 9) = 9; rw [if_neg (by omega)]
  have hc : (checkA (cutAt 1 b false 64 k)).2 = 0 := by
    have := (plain_check (if k = 0 then 1 else 9) (flagsAt false (decide (b.size ≤ k * 64 + 64)) k) 1 (cutAt 1 b false 64 k).body (by split <;> simp) (flagsAt_cases _ _ _) (by decide) (by omega)).1
    exact this
  have hE : addE 1000 noO (cutAt 1 b false 64 k) = 11 := by
    rw [addE, if_neg (fun g => g hc), if_pos]
    unfold followA
    rw [hk9]
    rfl
  rw [takeA, hE, if_pos (by decide)]
theorem cellsFr : Try.prog.cellsOf 39 = 4 := by kernel_rfl
theorem size_fr (w : World) : (sizeOf 39).run Try.prog w = .ok 4 w := by
  obtain ⟨i5, hi5, _, h1, _⟩ := info_parts infoQ
  simp [sizeOf, typeInfo, hi5, h1]
theorem elem_fr : Try.prog.elem 23 = 39 := by simp [Program.elem, Try.underlying23]
theorem under_fr : Try.prog.underlying 23 = some (.slice (Try.prog.elem 23)) := by rw [elem_fr]; exact Try.underlying23
/-- A list's beginning. -/
theorem slice_frames (rb n c h : Nat) (hc : h ≤ c) (W : World) : (Instr.slice 23 (.slice (some ⟨rb, 0, none⟩) n c) none (some (.int .i64 (h : Int))) none).run Try.prog W = .ok (.slice (some ⟨rb, 0, none⟩) h c) W := by
  rw [run_slice_h W 23 _ _ _ under_fr .i64 _ (by omega) (by omega), elem_fr, size_fr]
  simp [Result.andThen, sliced, Addr.add]
theorem row_cap {W w : World} {ts : List Thing} {rb n c : Nat} {l : List Frm} (h : Hold W w ts) (hm : rowT (.slice (some ⟨rb, 0, none⟩) n c) l ∈ ts) : n ≤ c := by
  have hr : w.ownsRow 0 39 4 (.slice (some ⟨rb, 0, none⟩) n c) l.length (qcells l) := h.inv _ hm
  rcases hr.2 with ⟨e, _⟩ | ⟨g, cap, cur, e, _, _, hnc, _⟩
  · cases e
  · simp only [Value.slice.injEq] at e
    obtain ⟨_, rfl, rfl⟩ := e
    exact hnc
attribute [local irreducible] nums str pieceN cutAt takeA opnK cutA zerosB checkA

set_option maxRecDepth 100000 in
theorem between_off (b : ByteArray) (f : Frm) (at' : Int) (w : World) (h : b.size < 65 ∨ 600 < b.size ∨ 600 < f.body.size) : Calls Try.prog 6 #[.string b, frval f, .int .i64 at'] w (Fine w) := by
  have HA : Hid (∀ W, Calls Try.prog 9 #[] W fun e w' => e = .returned (.bool true) ∧ Keeps nobody W w') := alive_ok
  obtain ⟨k, fl, id, fb⟩ := f
  simp only at h
  have kb := keeps_alloc w (frobj k fl id fb)
  by_cases h1 : b.size < 65
  · clear h
    go_enter Try.func6, Try.ntmps6
    go_wp2_with fail
    refine Calls.mono (HA.out _) ?_
    rintro e w1 ⟨rfl, k1⟩
    go_wp2
    go_ret
    exact ⟨rfl, below_of_keeps (kb.then k1)⟩
  · have h1' : 65 ≤ b.size := by omega
    by_cases h2 : 600 < b.size
    · clear h h1
      go_enter Try.func6, Try.ntmps6
      go_wp2_with fail
      refine Calls.mono (HA.out _) ?_
      rintro e w1 ⟨rfl, k1⟩
      go_wp2
      go_ret
      exact ⟨rfl, below_of_keeps (kb.then k1)⟩
    · have h2' : b.size ≤ 600 := by omega
      have h3 : 600 < fb.size := by omega
      clear h h1 h2
      go_enter Try.func6, Try.ntmps6
      go_wp2_with fail
      refine Calls.mono (HA.out _) ?_
      rintro e w1 ⟨rfl, k1⟩
      go_wp2
      go_ret
      exact ⟨rfl, below_of_keeps (kb.then k1)⟩

set_option maxRecDepth 100000 in
set_option maxHeartbeats 4000000 in
theorem between_own (b : ByteArray) (fl : Int) (fb : ByteArray) (at' : Int) (w : World) (h1 : 65 ≤ b.size) (h2 : b.size ≤ 600) (h3 : fb.size ≤ 600) : Calls Try.prog 6 #[.string b, frval ⟨9, fl, 1, fb⟩, .int .i64 at'] w (Fine w) := by
  have HA : Hid (∀ W, Calls Try.prog 9 #[] W fun e w' => e = .returned (.bool true) ∧ Keeps nobody W w') := alive_ok
  have HC : Hid (∀ W ts, Hold w W ts → Calls Try.prog 10 #[.int .i64 1, .string b, .bool false, .int .i64 64] W fun r w' => ∃ rb c, r = .returned (.tuple #[.slice (some ⟨rb, 0, none⟩) (pieceN b.size 64) c, .bool true]) ∧ Hid (Hold w w' (rowT (.slice (some ⟨rb, 0, none⟩) (pieceN b.size 64) c) (cutA 1 b false 64) :: ts))) := fun W ts hh => t_cut hh 1 64 b false (by decide) (by omega)
  have HN : Hid (∀ W ts, Hold w W ts → Calls Try.prog 14 #[.int .i64 1000] W fun e w' => ∃ g v, e = .returned (.pointer (some ⟨g, 0, none⟩)) ∧ Hid (Hold w w' (blT g v 1000 noO :: ts))) := fun W ts h => t_bnew h 1000 (by decide) (by decide)
  have hn : 2 ≤ pieceN b.size 64 := by
    unfold pieceN
    rw [if_neg (by omega)]
    exact (Nat.le_div_iff_mul_le (by decide)).2 (by omega)
  have H00 := hid ((hold_start w).box ⟨9, fl, 1, fb⟩)
  generalize cutA 1 b false 64 = L at *
  generalize pieceN b.size 64 = n at *
  go_enter Try.func6, Try.ntmps6
  go_wp2_with fail
  refine Calls.mono (HA.out _) ?_
  rintro r w0 ⟨rfl, k0⟩
  have H0 := hid (H00.out.quiet k0)
  clear HA k0 H00
  go_wp2_with fail
  refine Calls.mono (HC.out _ _ H0.out) ?_
  rintro r w1 ⟨rb, c, rfl, H1⟩
  clear H0 HC
  go_wp2_with fail
  refine Calls.mono (HN.out _ _ H1.out) ?_
  rintro r w2 ⟨g, v, rfl, H2⟩
  obtain ⟨b0, b1, b2, b3, _⟩ := H2.out.bx (g := w.heap.size) (f := ⟨9, fl, 1, fb⟩) (by simp)
  simp only at b0 b1 b2 b3
  clear H1 HN
  go_wp2
  go_ret
  exact ⟨rfl, H2.out.below⟩
end Go.Proofs.Ytdpbnlamdgdljaa
