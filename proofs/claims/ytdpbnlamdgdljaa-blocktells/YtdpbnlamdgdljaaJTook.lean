/-
  The frames of a block that is cut, taken one by one. As data. No program.
-/
import Derived.Test.YtdpbnlamdgdljaaJSpec
namespace Go.Proofs.Ytdpbnlamdgdljaa
open Go.RowKit

theorem plain_flags (fl : Int) (hf : fl = 0 ∨ fl = 1 ∨ fl = 4 ∨ fl = 5) : padB fl = false ∧ weighB fl = false ∧ (0 ≤ fl ∧ fl ≤ 255) ∧ wholeB fl = decide (4 ≤ fl) ∧ endB fl = decide (fl = 1 ∨ fl = 5) := by
  rcases hf with rfl | rfl | rfl | rfl <;> decide +kernel
theorem plain_check (k fl id : Int) (b : ByteArray) (hk : k = 1 ∨ k = 9) (hf : fl = 0 ∨ fl = 1 ∨ fl = 4 ∨ fl = 5) (hi : 1 ≤ id ∧ id ≤ 2147483647) (hb : b.size ≤ 512) : (checkA ⟨k, fl, id, b⟩).2 = 0 ∧ partA ⟨k, fl, id, b⟩ = b := by
  obtain ⟨hp, hw, h3, _, _⟩ := plain_flags fl hf
  have hs : stripA k (padB fl) (weighB fl) b = (b, 0, 0) := by
    rw [hp, hw]
    unfold stripA
    simp [pads, aheadN, behind]
  refine ⟨?_, ?_⟩
  · have hr : right ⟨k, fl, id, b⟩ := by
      simp only [right]
      omega
    have h1 : placed k id = true := by
      have hid : (id != 0) = true := by simp; omega
      rcases hk with rfl | rfl <;> simp [placed, streamed, hid]
    have h2 : sized k (ackB fl) b.size = true := by
      rcases hk with rfl | rfl <;> simp [sized]
    rw [checkA, if_neg (fun g => g hr), if_neg (by simp [h1]), if_neg (by simp [h2])]
    show (stripA k (padB fl) (weighB fl) b).2.2 = 0
    rw [hs]
  · show (stripA k (padB fl) (weighB fl) b).1 = b
    rw [hs]
theorem flagsAt_cases (e last : Bool) (k : Nat) : flagsAt e last k = 0 ∨ flagsAt e last k = 1 ∨ flagsAt e last k = 4 ∨ flagsAt e last k = 5 := by
  unfold flagsAt endF
  cases last <;> cases e <;> by_cases hk : k = 0 <;> simp [hk]
theorem flagsAt_whole (e last : Bool) (k : Nat) : decide (4 ≤ flagsAt e last k) = last := by
  unfold flagsAt endF
  cases last <;> cases e <;> by_cases hk : k = 0 <;> simp [hk]
theorem flagsAt_end (e last : Bool) : decide (flagsAt e last 0 = 1 ∨ flagsAt e last 0 = 5) = e := by
  unfold flagsAt endF
  cases last <;> cases e <;> simp
/-- What is open behind the first k frames. -/
def opnK (id : Int) (b : ByteArray) (e : Bool) (m k : Nat) : Opn := if k = 0 then noO else ⟨id, e, b.extract 0 (k * m)⟩
theorem join_parts (b : ByteArray) (i j : Nat) (h : i ≤ j) : b.extract 0 i ++ b.extract i j = b.extract 0 j := by
  apply nums_inj
  rw [nums_append, nums_extract, nums_extract, nums_extract, List.drop_zero, List.drop_zero]
  have : (nums b).take i = ((nums b).take j).take i := by rw [List.take_take, Nat.min_eq_left h]
  rw [this, List.take_append_drop]
theorem opnK_bytes (id : Int) (b : ByteArray) (e : Bool) (m k : Nat) : (opnK id b e m k).bytes = b.extract 0 (k * m) := by
  unfold opnK
  split
  · rename_i h
    subst h
    apply nums_inj
    simp [noO, nums]
  · rfl
theorem cut_take (most : Nat) (id : Int) (b : ByteArray) (e : Bool) (m k : Nat) (h : cuts id m) (hk : k < pieceN b.size m) :
    takeA most (opnK id b e m k) (cutAt id b e m k) = if most < min (k * m + m) b.size then ((noO, false, 5), noO) else if k + 1 = pieceN b.size m then ((⟨id, e, b⟩, true, 0), noO) else ((noO, false, 0), opnK id b e m (k + 1)) := by
  have hm : 0 < m := by have := h.2.1; omega
  have hm2 : m ≤ 512 := by have := h.2.2; omega
  have hp := piece_lt hm hk
  have hbz := cutAt_size id b e m k hm hk
  obtain ⟨hc, hpa⟩ := plain_check (if k = 0 then 1 else 9) (flagsAt e (decide (b.size ≤ k * m + m)) k) id (b.extract (k * m) (min (k * m + m) b.size)) (by split <;> simp) (flagsAt_cases _ _ _) h.1 (by
    have : (cutAt id b e m k).body.size ≤ 512 := by rw [hbz]; omega
    exact this)
  obtain ⟨_, _, _, hwh, hen⟩ := plain_flags _ (flagsAt_cases e (decide (b.size ≤ k * m + m)) k)
  rw [flagsAt_whole] at hwh
  have hb1 : (opnK id b e m k).bytes ++ partA (cutAt id b e m k) = b.extract 0 (min (k * m + m) b.size) := by
    rw [opnK_bytes]
    show _ ++ partA ⟨_, _, _, _⟩ = _
    rw [hpa, join_parts _ _ _ (by omega)]
  have hz : (opnK id b e m k).bytes.size + (partA (cutAt id b e m k)).size = min (k * m + m) b.size := by
    rw [← ByteArray.size_append, hb1, extract_size _ _ _ (by omega)]
    omega
  have hf : followA (opnK id b e m k).id (cutAt id b e m k) = true := by
    unfold opnK followA cutAt
    by_cases h0 : k = 0
    · simp [h0, noO]
    · have hi : id ≠ 0 := by have := h.1.1; omega
      simp [h0, hi]
  have hE : addE most (opnK id b e m k) (cutAt id b e m k) = if most < min (k * m + m) b.size then 5 else 0 := by
    rw [addE, if_neg (fun g => g hc), if_neg (by simp [hf]), if_pos ?_, hz]
    show (if k = 0 then (1 : Int) else 9) = 1 ∨ (if k = 0 then (1 : Int) else 9) = 9
    split <;> simp
  have hO : addO (opnK id b e m k) (cutAt id b e m k) = ⟨id, e, b.extract 0 (min (k * m + m) b.size)⟩ := by
    rw [← hb1]
    by_cases h0 : k = 0
    · have hk1 : (cutAt id b e m k).kind = 1 := by show (if k = 0 then (1 : Int) else 9) = 1; rw [if_pos h0]
      rw [addO, if_pos hk1]
      have : endB (cutAt id b e m k).flags = e := by
        show endB (flagsAt e _ k) = e
        rw [hen, h0, flagsAt_end]
      rw [this]
      rfl
    · have hk9 : (cutAt id b e m k).kind = 9 := by show (if k = 0 then (1 : Int) else 9) = 9; rw [if_neg h0]
      rw [addO, if_neg (by omega), if_pos hk9]
      have h1 : (opnK id b e m k).id = id := by rw [opnK, if_neg h0]
      have h2 : (opnK id b e m k).fin = e := by rw [opnK, if_neg h0]
      rw [h1, h2]
  have hl := piece_last hm hk
  rw [takeA, hE, hO]
  by_cases hbig : most < min (k * m + m) b.size
  · rw [if_pos hbig, if_pos hbig, if_pos (by decide)]
  · rw [if_neg hbig, if_neg hbig, if_neg (by simp)]
    have hi : id ≠ 0 := by have := h.1.1; omega
    by_cases hlast : k + 1 = pieceN b.size m
    · have hle := hl.2 hlast
      rw [if_pos hlast, if_neg ?_, Nat.min_eq_right hle]
      · have : b.extract 0 b.size = b := extract_all b _ (Nat.le_refl _)
        rw [this]
      · have hw2 : wholeB (cutAt id b e m k).flags = true := by
          show wholeB (flagsAt e _ k) = true
          rw [hwh]; simpa using hle
        simp [hi, hw2]
    · have hle : ¬ b.size ≤ k * m + m := fun g => hlast (hl.1 g)
      rw [if_neg hlast, if_pos ?_, Nat.min_eq_left (by omega)]
      · rw [opnK, if_neg (by omega), Nat.succ_mul]
      · right
        show wholeB (flagsAt e _ k) = false
        rw [hwh]; simpa using hle
end Go.Proofs.Ytdpbnlamdgdljaa
