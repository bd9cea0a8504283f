/-
  The law BlockParts as a walk.
-/
import Derived.Test.YtdpbnlamdgdljaaJLive
namespace Go.Proofs.Ytdpbnlamdgdljaa
open Go.RowKit

theorem piece_max (s m : Nat) (hm : 0 < m) : pieceN s m = max ((s + m - 1) / m) 1 := by
  unfold pieceN
  split
  · rename_i h
    subst h
    have : (0 + m - 1) / m = 0 := Nat.div_eq_of_lt (by omega)
    omega
  · have : 1 ≤ (s + m - 1) / m := (Nat.le_div_iff_mul_le hm).2 (by omega)
    omega
theorem max_one (a : Nat) (ts : Array TypeId) (t : TypeId) (W : World) : (Builtin.max_ ts t #[.int .i64 (a : Int), .int .i64 1]).run Try.prog W = .ok (.int .i64 ((max a 1 : Nat) : Int)) W := by
  rw [run_max_int2]
  have : (if (a : Int) < 1 then (1 : Int) else (a : Int)) = ((max a 1 : Nat) : Int) := by split <;> omega
  rw [this]
attribute [local irreducible] nums str pieceN cutAt takeA opnK cutA zerosB

set_option maxRecDepth 100000 in
theorem parts_off (id m : Int) (b : ByteArray) (e : Bool) (w : World) (h : 3000 < b.size) : Calls Try.prog 5 #[.int .i64 id, .string b, .bool e, .int .i64 m] w (Fine w) := by
  have HA : Hid (∀ W, Calls Try.prog 9 #[] W fun e w' => e = .returned (.bool true) ∧ Keeps nobody W w') := alive_ok
  go_enter Try.func5, Try.ntmps5
  go_wp2_with fail
  refine Calls.mono (HA.out _) ?_
  rintro e w1 ⟨rfl, k1⟩
  go_wp2
  go_ret
  exact ⟨rfl, below_of_keeps k1⟩

set_option maxRecDepth 100000 in
theorem parts_no (id m : Int) (b : ByteArray) (e : Bool) (w : World) (h : b.size ≤ 3000) (hc : ¬ cuts id m) : Calls Try.prog 5 #[.int .i64 id, .string b, .bool e, .int .i64 m] w (Fine w) := by
  have HA : Hid (∀ W, Calls Try.prog 9 #[] W fun e w' => e = .returned (.bool true) ∧ Keeps nobody W w') := alive_ok
  have HC : Hid (∀ W, Calls Try.prog 10 #[.int .i64 id, .string b, .bool e, .int .i64 m] W fun r w' => r = .returned (.tuple #[.slice none 0 0, .bool false]) ∧ W = w') := fun W => cut_no id m b e W hc
  unfold cuts at hc
  by_cases h1 : id < 1
  · clear hc
    go_enter Try.func5, Try.ntmps5
    go_wp2_with fail
    refine Calls.mono (HA.out _) ?_
    rintro r w1 ⟨rfl, k1⟩
    go_wp2_with fail
    refine Calls.mono (HC.out _) ?_
    rintro r w2 ⟨rfl, rfl⟩
    go_wp2
    go_ret
    exact ⟨rfl, below_of_keeps k1⟩
  · by_cases h2 : 2147483647 < id
    · have h1' : 1 ≤ id := by omega
      clear hc h1
      go_enter Try.func5, Try.ntmps5
      go_wp2_with fail
      refine Calls.mono (HA.out _) ?_
      rintro r w1 ⟨rfl, k1⟩
      go_wp2_with fail
      refine Calls.mono (HC.out _) ?_
      rintro r w2 ⟨rfl, rfl⟩
      go_wp2
      go_ret
      exact ⟨rfl, below_of_keeps k1⟩
    · by_cases h3 : m < 64
      · have h1' : 1 ≤ id := by omega
        have h2' : id ≤ 2147483647 := by omega
        clear hc h1 h2
        go_enter Try.func5, Try.ntmps5
        go_wp2_with fail
        refine Calls.mono (HA.out _) ?_
        rintro r w1 ⟨rfl, k1⟩
        go_wp2_with fail
        refine Calls.mono (HC.out _) ?_
        rintro r w2 ⟨rfl, rfl⟩
        go_wp2
        go_ret
        exact ⟨rfl, below_of_keeps k1⟩
      · have h1' : 1 ≤ id := by omega
        have h2' : id ≤ 2147483647 := by omega
        have h3' : 64 ≤ m := by omega
        have h4 : 512 < m := by omega
        clear hc h1 h2 h3
        go_enter Try.func5, Try.ntmps5
        go_wp2_with fail
        refine Calls.mono (HA.out _) ?_
        rintro r w1 ⟨rfl, k1⟩
        go_wp2_with fail
        refine Calls.mono (HC.out _) ?_
        rintro r w2 ⟨rfl, rfl⟩
        go_wp2
        go_ret
        exact ⟨rfl, below_of_keeps k1⟩

set_option maxRecDepth 100000 in
set_option maxHeartbeats 4000000 in
theorem parts_false (id : Int) (m : Nat) (b : ByteArray) (w : World) (h : b.size ≤ 3000) (hc : cuts id m) : Calls Try.prog 5 #[.int .i64 id, .string b, .bool false, .int .i64 (m : Int)] w (Fine w) := by
  have HA : Hid (∀ W, Calls Try.prog 9 #[] W fun e w' => e = .returned (.bool true) ∧ Keeps nobody W w') := alive_ok
  have HC : Hid (∀ W ts, Hold w W ts → Calls Try.prog 10 #[.int .i64 id, .string b, .bool false, .int .i64 (m : Int)] W fun r w' => ∃ rb c, r = .returned (.tuple #[.slice (some ⟨rb, 0, none⟩) (pieceN b.size m) c, .bool true]) ∧ Hid (Hold w w' (rowT (.slice (some ⟨rb, 0, none⟩) (pieceN b.size m) c) (cutA id b false m) :: ts))) := fun W ts hh => t_cut hh id m b false hc h
  have hm : 0 < m := by have := hc.2.1; omega
  have hm2 : m ≤ 512 := by have := hc.2.2; omega
  have hm1 : 64 ≤ m := by have := hc.2.1; omega
  have hmax := max_one ((b.size + m - 1) / m)
  have hpm := piece_max b.size m hm
  have hquo : ((b.size + m - 1 : Nat) : Int).tdiv (m : Int) = (((b.size + m - 1) / m : Nat) : Int) := rfl
  have hadd : (b.size : Int) + (m : Int) = ((b.size + m : Nat) : Int) := by omega
  have hsub : ((b.size + m : Nat) : Int) - 1 = ((b.size + m - 1 : Nat) : Int) := by omega
  have hsm1 : b.size + m ≤ 3512 := by omega
  have hsm2 : b.size + m - 1 ≤ 3512 := by omega
  have hqb : (b.size + m - 1) / m ≤ 3512 := Nat.le_trans (Nat.div_le_self _ _) hsm2
  rw [← hpm] at hmax
  have HF : Hid (∀ j, j < pieceN b.size m → ∃ (o : Nat) (B : ByteArray), (j = 0 → o = 0) ∧ o ≤ b.size ∧ (o + m < b.size → j + 1 < pieceN b.size m ∧ B.size = m ∧ (cutA id b false m)[j]? = some ⟨kindAt j, endF false j, id, B⟩) ∧ (b.size ≤ o + m → j + 1 = pieceN b.size m ∧ B.size ≤ m ∧ (B.size = 0 → b.size = 0) ∧ (cutA id b false m)[j]? = some ⟨kindAt j, endF false j + 4, id, B⟩)) := by
    intro j hj
    have hp := piece_lt hm hj
    have hat := cutA_at id b false m j hj
    have hbz := cutAt_size id b false m j hm hj
    have hl := piece_last hm hj
    refine ⟨j * m, (cutAt id b false m j).body, fun e => by rw [e, Nat.zero_mul], hp.1, fun hlt => ?_, fun hle => ?_⟩
    · refine ⟨?_, by rw [hbz]; omega, ?_⟩
      · by_cases hq : j + 1 = pieceN b.size m
        · have := hl.2 hq; omega
        · omega
      · rw [hat, cut_mid id b false m j _ rfl hlt]
    · refine ⟨hl.1 hle, by rw [hbz]; omega, fun e => by
        rw [hbz] at e
        rcases hp.2 with h0 | h0
        · rw [h0, Nat.zero_mul] at e; omega
        · omega, ?_⟩
      rw [hat, cut_end id b false m j _ rfl hle]
  have hn : 0 < pieceN b.size m := pieceN_pos _ _ hm
  have hn2 : pieceN b.size m ≤ 47 := piece_few hm1 h
  have HB : Hid (b.size = 0 → b = ⟨#[]⟩) := fun e => eq_empty_of_size b (by omega)
  clear hc hpm
  generalize (b.size + m - 1) / m = q at *
  generalize cutA id b false m = L at *
  generalize pieceN b.size m = n at *
  generalize hs1 : b.size + m = t1 at *
  generalize hs2 : t1 - 1 = t2 at *
  clear hs1 hs2
  go_enter Try.func5, Try.ntmps5
  go_wp2_with fail
  refine Calls.mono (HA.out _) ?_
  rintro r w0 ⟨rfl, k0⟩
  have H0 := hid ((hold_nil (Below.refl w.heap.size w)).quiet k0)
  clear HA k0
  go_wp2_with fail
  refine Calls.mono (HC.out _ _ H0.out) ?_
  rintro r w1 ⟨rb, c, rfl, H1⟩
  clear H0 HC
  go_wp2_with fail
  go_loopg [54] n (fun k iv wr => ∃ j : Nat, iv = .int .i64 (j : Int) ∧ k + j = n ∧ Hid (Hold w wr [rowT (.slice (some ⟨rb, 0, none⟩) n c) L]))
  case atStart => exact ⟨0, rfl, rfl, H1.out⟩
  case round =>
    clear H1
    obtain ⟨j, rfl, hk, H1⟩ := hrel
    by_cases hj : j < n
    · obtain ⟨o, B, ho0, hob, hA, hZ⟩ := HF.out j hj
      have HK := hid hk
      have hrb := H1.out.rowLt (rb := rb) (n := n) (c := c) (l := L) (by simp)
      clear hmax hquo hadd hsub hsm1 hsm2 hqb hn hk
      by_cases hlt : o + m < b.size
      · obtain ⟨hl, hB, hat⟩ := hA hlt
        obtain ⟨r0, r1, r2, r3⟩ := H1.out.row (rb := rb) (n := n) (c := c) (l := L) (by simp) j _ hat
        have hlast : ((j : Int) == (n : Int) - 1) = false := by simp; omega
        clear hA hZ HF hat hl hlt hob
        by_cases h0 : j = 0
        · subst h0
          have r0' : _ = some (Value.int .i64 1) := r0
          have r1' : _ = some (Value.int .i64 0) := r1
          clear r0 r1 ho0
          simp only at r2 r3
          go_wp2
          have hk := HK.out
          go_roundg (gk - 1)
          case measure => omega
          case rel => exact ⟨0 + 1, by simp, by omega, H1.out.quiet (keeps_alloc _ _)⟩
        · have hkd : kindAt j = 9 := by unfold kindAt; rw [if_neg h0]
          have hed : endF false j = 0 := by unfold endF; rw [if_neg (fun g => h0 g.1)]
          simp only [hkd, hed] at r0 r1 r2 r3
          have h0' : ((j : Int) == 0) = false := by simp; omega
          have h0'' : (0 : Int) < (j : Int) := by omega
          clear hkd hed ho0
          go_wp2
          have hk := HK.out
          go_roundg (gk - 1)
          case measure => omega
          case rel => exact ⟨j + 1, by simp, by omega, H1.out.quiet (keeps_alloc _ _)⟩
      · obtain ⟨hl, hB, hBe, hat⟩ := hZ (by omega)
        obtain ⟨r0, r1, r2, r3⟩ := H1.out.row (rb := rb) (n := n) (c := c) (l := L) (by simp) j _ hat
        have hlast : ((j : Int) == (n : Int) - 1) = true := by simp; omega
        have hor0 : bits .or .i64 0 4 = 4 := by decide +kernel
        have hor1 : bits .or .i64 1 4 = 5 := by decide +kernel
        clear hA hZ HF hat hl hlt hob
        by_cases hbe : B.size = 0
        · have hb0 := HB.out (hBe hbe)
          have hB0 := eq_empty_of_size B (by omega)
          subst hb0 hB0
          clear hBe hbe HB
          by_cases h0 : j = 0
          · subst h0
            have r0' : _ = some (Value.int .i64 1) := r0
            have r1' : _ = some (Value.int .i64 4) := r1
            clear r0 r1 ho0
            simp only at r2 r3
            go_wp2
            have hk := HK.out
            go_roundg (gk - 1)
            case measure => omega
            case rel => exact ⟨0 + 1, by simp, by omega, H1.out.quiet (keeps_alloc _ _)⟩
          · have hkd : kindAt j = 9 := by unfold kindAt; rw [if_neg h0]
            have hed : endF false j + 4 = 4 := by unfold endF; rw [if_neg (fun g => h0 g.1)]; rfl
            simp only [hkd, hed] at r0 r1 r2 r3
            have h0' : ((j : Int) == 0) = false := by simp; omega
            have h0'' : (0 : Int) < (j : Int) := by omega
            clear hkd hed ho0
            go_wp2
            have hk := HK.out
            go_roundg (gk - 1)
            case measure => omega
            case rel => exact ⟨j + 1, by simp, by omega, H1.out.quiet (keeps_alloc _ _)⟩
        · have hBE := isEmpty_of_size B (by omega)
          clear hBe hbe HB
          by_cases h0 : j = 0
          · subst h0
            have r0' : _ = some (Value.int .i64 1) := r0
            have r1' : _ = some (Value.int .i64 4) := r1
            clear r0 r1 ho0
            simp only at r2 r3
            go_wp2
            have hk := HK.out
            go_roundg (gk - 1)
            case measure => omega
            case rel => exact ⟨0 + 1, by simp, by omega, H1.out.quiet (keeps_alloc _ _)⟩
          · have hkd : kindAt j = 9 := by unfold kindAt; rw [if_neg h0]
            have hed : endF false j + 4 = 4 := by unfold endF; rw [if_neg (fun g => h0 g.1)]; rfl
            simp only [hkd, hed] at r0 r1 r2 r3
            have h0' : ((j : Int) == 0) = false := by simp; omega
            have h0'' : (0 : Int) < (j : Int) := by omega
            clear hkd hed ho0
            go_wp2
            have hk := HK.out
            go_roundg (gk - 1)
            case measure => omega
            case rel => exact ⟨j + 1, by simp, by omega, H1.out.quiet (keeps_alloc _ _)⟩
    · obtain rfl : j = n := by omega
      clear hk hj HF HB
      go_wp2
      go_ret
      exact ⟨by first | rfl | simp, H1.out.below⟩
set_option maxRecDepth 100000 in
set_option maxHeartbeats 4000000 in
theorem parts_true' (id : Int) (m : Nat) (b : ByteArray) (w : World) (h : b.size ≤ 3000) (hc : cuts id m) : Calls Try.prog 5 #[.int .i64 id, .string b, .bool true, .int .i64 (m : Int)] w (Fine w) := by
  have HA : Hid (∀ W, Calls Try.prog 9 #[] W fun e w' => e = .returned (.bool true) ∧ Keeps nobody W w') := alive_ok
  have HC : Hid (∀ W ts, Hold w W ts → Calls Try.prog 10 #[.int .i64 id, .string b, .bool true, .int .i64 (m : Int)] W fun r w' => ∃ rb c, r = .returned (.tuple #[.slice (some ⟨rb, 0, none⟩) (pieceN b.size m) c, .bool true]) ∧ Hid (Hold w w' (rowT (.slice (some ⟨rb, 0, none⟩) (pieceN b.size m) c) (cutA id b true m) :: ts))) := fun W ts hh => t_cut hh id m b true hc h
  have hm : 0 < m := by have := hc.2.1; omega
  have hm2 : m ≤ 512 := by have := hc.2.2; omega
  have hm1 : 64 ≤ m := by have := hc.2.1; omega
  have hmax := max_one ((b.size + m - 1) / m)
  have hpm := piece_max b.size m hm
  have hquo : ((b.size + m - 1 : Nat) : Int).tdiv (m : Int) = (((b.size + m - 1) / m : Nat) : Int) := rfl
  have hadd : (b.size : Int) + (m : Int) = ((b.size + m : Nat) : Int) := by omega
  have hsub : ((b.size + m : Nat) : Int) - 1 = ((b.size + m - 1 : Nat) : Int) := by omega
  have hsm1 : b.size + m ≤ 3512 := by omega
  have hsm2 : b.size + m - 1 ≤ 3512 := by omega
  have hqb : (b.size + m - 1) / m ≤ 3512 := Nat.le_trans (Nat.div_le_self _ _) hsm2
  rw [← hpm] at hmax
  have HF : Hid (∀ j, j < pieceN b.size m → ∃ (o : Nat) (B : ByteArray), (j = 0 → o = 0) ∧ o ≤ b.size ∧ (o + m < b.size → j + 1 < pieceN b.size m ∧ B.size = m ∧ (cutA id b true m)[j]? = some ⟨kindAt j, endF true j, id, B⟩) ∧ (b.size ≤ o + m → j + 1 = pieceN b.size m ∧ B.size ≤ m ∧ (B.size = 0 → b.size = 0) ∧ (cutA id b true m)[j]? = some ⟨kindAt j, endF true j + 4, id, B⟩)) := by
    intro j hj
    have hp := piece_lt hm hj
    have hat := cutA_at id b true m j hj
    have hbz := cutAt_size id b true m j hm hj
    have hl := piece_last hm hj
    refine ⟨j * m, (cutAt id b true m j).body, fun e => by rw [e, Nat.zero_mul], hp.1, fun hlt => ?_, fun hle => ?_⟩
    · refine ⟨?_, by rw [hbz]; omega, ?_⟩
      · by_cases hq : j + 1 = pieceN b.size m
        · have := hl.2 hq; omega
        · omega
      · rw [hat, cut_mid id b true m j _ rfl hlt]
    · refine ⟨hl.1 hle, by rw [hbz]; omega, fun e => by
        rw [hbz] at e
        rcases hp.2 with h0 | h0
        · rw [h0, Nat.zero_mul] at e; omega
        · omega, ?_⟩
      rw [hat, cut_end id b true m j _ rfl hle]
  have hn : 0 < pieceN b.size m := pieceN_pos _ _ hm
  have hn2 : pieceN b.size m ≤ 47 := piece_few hm1 h
  have HB : Hid (b.size = 0 → b = ⟨#[]⟩) := fun e => eq_empty_of_size b (by omega)
  clear hc hpm
  generalize (b.size + m - 1) / m = q at *
  generalize cutA id b true m = L at *
  generalize pieceN b.size m = n at *
  generalize hs1 : b.size + m = t1 at *
  generalize hs2 : t1 - 1 = t2 at *
  clear hs1 hs2
  go_enter Try.func5, Try.ntmps5
  go_wp2_with fail
  refine Calls.mono (HA.out _) ?_
  rintro r w0 ⟨rfl, k0⟩
  have H0 := hid ((hold_nil (Below.refl w.heap.size w)).quiet k0)
  clear HA k0
  go_wp2_with fail
  refine Calls.mono (HC.out _ _ H0.out) ?_
  rintro r w1 ⟨rb, c, rfl, H1⟩
  clear H0 HC
  go_wp2_with fail
  go_loopg [54] n (fun k iv wr => ∃ j : Nat, iv = .int .i64 (j : Int) ∧ k + j = n ∧ Hid (Hold w wr [rowT (.slice (some ⟨rb, 0, none⟩) n c) L]))
  case atStart => exact ⟨0, rfl, rfl, H1.out⟩
  case round =>
    clear H1
    obtain ⟨j, rfl, hk, H1⟩ := hrel
    by_cases hj : j < n
    · obtain ⟨o, B, ho0, hob, hA, hZ⟩ := HF.out j hj
      have HK := hid hk
      have hrb := H1.out.rowLt (rb := rb) (n := n) (c := c) (l := L) (by simp)
      clear hmax hquo hadd hsub hsm1 hsm2 hqb hn hk
      by_cases hlt : o + m < b.size
      · obtain ⟨hl, hB, hat⟩ := hA hlt
        obtain ⟨r0, r1, r2, r3⟩ := H1.out.row (rb := rb) (n := n) (c := c) (l := L) (by simp) j _ hat
        have hlast : ((j : Int) == (n : Int) - 1) = false := by simp; omega
        clear hA hZ HF hat hl hlt hob
        by_cases h0 : j = 0
        · subst h0
          have r0' : _ = some (Value.int .i64 1) := r0
          have r1' : _ = some (Value.int .i64 1) := r1
          clear r0 r1 ho0
          simp only at r2 r3
          go_wp2
          have hk := HK.out
          go_roundg (gk - 1)
          case measure => omega
          case rel => exact ⟨0 + 1, by simp, by omega, H1.out.quiet (keeps_alloc _ _)⟩
        · have hkd : kindAt j = 9 := by unfold kindAt; rw [if_neg h0]
          have hed : endF true j = 0 := by unfold endF; rw [if_neg (fun g => h0 g.1)]
          simp only [hkd, hed] at r0 r1 r2 r3
          have h0' : ((j : Int) == 0) = false := by simp; omega
          have h0'' : (0 : Int) < (j : Int) := by omega
          clear hkd hed ho0
          go_wp2
          have hk := HK.out
          go_roundg (gk - 1)
          case measure => omega
          case rel => exact ⟨j + 1, by simp, by omega, H1.out.quiet (keeps_alloc _ _)⟩
      · obtain ⟨hl, hB, hBe, hat⟩ := hZ (by omega)
        obtain ⟨r0, r1, r2, r3⟩ := H1.out.row (rb := rb) (n := n) (c := c) (l := L) (by simp) j _ hat
        have hlast : ((j : Int) == (n : Int) - 1) = true := by simp; omega
        have hor0 : bits .or .i64 0 4 = 4 := by decide +kernel
        have hor1 : bits .or .i64 1 4 = 5 := by decide +kernel
        clear hA hZ HF hat hl hlt hob
        by_cases hbe : B.size = 0
        · have hb0 := HB.out (hBe hbe)
          have hB0 := eq_empty_of_size B (by omega)
          subst hb0 hB0
          clear hBe hbe HB
          by_cases h0 : j = 0
          · subst h0
            have r0' : _ = some (Value.int .i64 1) := r0
            have r1' : _ = some (Value.int .i64 5) := r1
            clear r0 r1 ho0
            simp only at r2 r3
            go_wp2
            have hk := HK.out
            go_roundg (gk - 1)
            case measure => omega
            case rel => exact ⟨0 + 1, by simp, by omega, H1.out.quiet (keeps_alloc _ _)⟩
          · have hkd : kindAt j = 9 := by unfold kindAt; rw [if_neg h0]
            have hed : endF true j + 4 = 4 := by unfold endF; rw [if_neg (fun g => h0 g.1)]; rfl
            simp only [hkd, hed] at r0 r1 r2 r3
            have h0' : ((j : Int) == 0) = false := by simp; omega
            have h0'' : (0 : Int) < (j : Int) := by omega
            clear hkd hed ho0
            go_wp2
            have hk := HK.out
            go_roundg (gk - 1)
            case measure => omega
            case rel => exact ⟨j + 1, by simp, by omega, H1.out.quiet (keeps_alloc _ _)⟩
        · have hBE := isEmpty_of_size B (by omega)
          clear hBe hbe HB
          by_cases h0 : j = 0
          · subst h0
            have r0' : _ = some (Value.int .i64 1) := r0
            have r1' : _ = some (Value.int .i64 5) := r1
            clear r0 r1 ho0
            simp only at r2 r3
            go_wp2
            have hk := HK.out
            go_roundg (gk - 1)
            case measure => omega
            case rel => exact ⟨0 + 1, by simp, by omega, H1.out.quiet (keeps_alloc _ _)⟩
          · have hkd : kindAt j = 9 := by unfold kindAt; rw [if_neg h0]
            have hed : endF true j + 4 = 4 := by unfold endF; rw [if_neg (fun g => h0 g.1)]; rfl
            simp only [hkd, hed] at r0 r1 r2 r3
            have h0' : ((j : Int) == 0) = false := by simp; omega
            have h0'' : (0 : Int) < (j : Int) := by omega
            clear hkd hed ho0
            go_wp2
            have hk := HK.out
            go_roundg (gk - 1)
            case measure => omega
            case rel => exact ⟨j + 1, by simp, by omega, H1.out.quiet (keeps_alloc _ _)⟩
    · obtain rfl : j = n := by omega
      clear hk hj HF HB
      go_wp2
      go_ret
      exact ⟨by first | rfl | simp, H1.out.below⟩
theorem parts_true (id : Int) (b : ByteArray) (e : Bool) (m : Int) (w : World) (_ : b.size ≤ 140737488355328) : Calls Try.prog 5 #[.int .i64 id, .string b, .bool e, .int .i64 m] w (Fine w) := by
  by_cases h : 3000 < b.size
  · exact parts_off id m b e w h
  · by_cases hc : cuts id m
    · obtain ⟨m, rfl⟩ := Int.eq_ofNat_of_zero_le (show 0 ≤ m by have := hc.2.1; omega)
      cases e with
      | false => exact parts_false id m b w (by omega) hc
      | true => exact parts_true' id m b w (by omega) hc
    · exact parts_no id m b e w (by omega) hc
end Go.Proofs.Ytdpbnlamdgdljaa
