/-
  The law FrameShort as a walk.
-/
import Derived.Test.YtgfcllabhpioiaaDoorRBoundsW
namespace Go.Proofs.YtgfcllabhpioiaaDoor
open Go.RowKit
attribute [local irreducible] putA right numL byteAt endOf idOf nums str unpadA behind stripA

theorem conv_one (y : Nat) (w : World) : (convert 35 9 (.slice (some ⟨w.heap.size, 0, none⟩) 1 1)).run Tryd.prog (w.alloc (.cells #[.int .u8 (y : Int)] 5)) = .ok (.string (str [y])) (w.alloc (.cells #[.int .u8 (y : Int)] 5)) :=
  conv_lit w [y] (by simp)
theorem byteAt_head (y : Nat) (b : ByteArray) (hy : y < 256) : byteAt (str [y] ++ b) 0 = y := by
  unfold byteAt
  rw [nums_append, nums_str [y] (by simpa using hy)]
  rfl
theorem extract_head (y m : Nat) (b : ByteArray) : (str [y] ++ b).extract 1 (1 + m) = b.extract 0 m := by
  apply nums_inj
  rw [nums_extract, nums_extract, nums_append]
  have h : (nums (str [y])).length = 1 := by rw [nums_length, str_size]; rfl
  rw [List.take_append, h, List.take_of_length_le (by omega), List.drop_left' h]
  simp
theorem unpad_head (y : Nat) (b : ByteArray) (hy : y < 256) : unpadA (str [y] ++ b) = if b.size < y then none else some (b.extract 0 (b.size - y)) := by
  have hs : (str [y] ++ b).size = 1 + b.size := by simp [str_size]
  unfold unpadA
  rw [hs, byteAt_head y b hy]
  by_cases h : b.size < y
  · rw [if_pos (by omega), if_pos h]
  · rw [if_neg (by omega), if_neg h, show 1 + b.size - y = 1 + (b.size - y) by omega, extract_head]
theorem pad8 : padB 8 = true := by decide +kernel
theorem weigh8 : weighB 8 = false := by decide +kernel
theorem pad32 : padB 32 = false := by decide +kernel
theorem weigh32 : weighB 32 = true := by decide +kernel
theorem strip_pad (y : Nat) (b : ByteArray) (hy : y < 256) : stripA 0 true false (str [y] ++ b) = if b.size < y then (⟨#[]⟩, 0, 11) else (b.extract 0 (b.size - y), 1 + y, 0) := by
  unfold stripA
  rw [unpad_head y b hy]
  by_cases h : b.size < y
  · simp [pads, h]
  · have e : (b.extract 0 (b.size - y)).size = b.size - y := by rw [extract_size _ _ _ (by omega)]; omega
    simp [pads, aheadN, h, behind_zero, e, str_size]
    omega
theorem strip_weigh (b : ByteArray) : stripA 1 false true b = if b.size < 5 then (⟨#[]⟩, 0, 5) else (behind b 5, 5, 0) := by
  unfold stripA
  by_cases h : b.size < 5
  · simp [pads, aheadN, h]
  · simp [pads, aheadN, h]
    omega
theorem strip_none : stripA 0 true false ⟨#[]⟩ = (⟨#[]⟩, 0, 11) := by
  have e : unpadA ⟨#[]⟩ = none := by unfold unpadA; rw [if_pos (.inl rfl)]
  unfold stripA
  simp [pads, e]

theorem short_off0 (b : ByteArray) (pad : Int) (W : World) (HA : Hid (∀ w, Keeps nobody W w → Calls Tryd.prog 9 #[] w fun e w' => e = .returned (.bool true) ∧ Keeps nobody w w')) (h : 200 < b.size) : Calls Tryd.prog 8 #[.string b, .int .i64 pad] W (Fine W) := by
  go_enter Tryd.func8, Tryd.ntmps8
  go_wp2_with fail
  refine Calls.mono (HA.out _ (Keeps.refl _ _)) ?_
  rintro e w1 ⟨rfl, k1⟩
  go_wp2
  go_ret
  exact ⟨rfl, below_of_keeps k1⟩

theorem short_off1 (b : ByteArray) (pad : Int) (W : World) (HA : Hid (∀ w, Keeps nobody W w → Calls Tryd.prog 9 #[] w fun e w' => e = .returned (.bool true) ∧ Keeps nobody w w')) (h0 : b.size ≤ 200) (h : pad < 0) : Calls Tryd.prog 8 #[.string b, .int .i64 pad] W (Fine W) := by
  go_enter Tryd.func8, Tryd.ntmps8
  go_wp2_with fail
  refine Calls.mono (HA.out _ (Keeps.refl _ _)) ?_
  rintro e w1 ⟨rfl, k1⟩
  go_wp2
  go_ret
  exact ⟨rfl, below_of_keeps k1⟩

theorem short_off2 (b : ByteArray) (pad : Int) (W : World) (HA : Hid (∀ w, Keeps nobody W w → Calls Tryd.prog 9 #[] w fun e w' => e = .returned (.bool true) ∧ Keeps nobody w w')) (h0 : b.size ≤ 200) (h1 : 0 ≤ pad) (h : 255 < pad) : Calls Tryd.prog 8 #[.string b, .int .i64 pad] W (Fine W) := by
  go_enter Tryd.func8, Tryd.ntmps8
  go_wp2_with fail
  refine Calls.mono (HA.out _ (Keeps.refl _ _)) ?_
  rintro e w1 ⟨rfl, k1⟩
  go_wp2
  go_ret
  exact ⟨rfl, below_of_keeps k1⟩

set_option maxRecDepth 100000 in
set_option maxHeartbeats 1000000 in
theorem short_00 (b : ByteArray) (y : Nat) (W : World) (hs : b.size ≤ 200) (hy : y ≤ 255) (HA : Hid (∀ w, Keeps nobody W w → Calls Tryd.prog 9 #[] w fun e w' => e = .returned (.bool true) ∧ Keeps nobody w w')) (S X : ByteArray) (hS : S.size = 1) (hconv : ∀ w : World, (convert 35 9 (.slice (some ⟨w.heap.size, 0, none⟩) 1 1)).run Tryd.prog (w.alloc (.cells #[.int .u8 (y : Int)] 5)) = .ok (.string S) (w.alloc (.cells #[.int .u8 (y : Int)] 5))) (hX : S ++ b = X)
    (h1 : y ≤ b.size) (C : ByteArray) (r m : Nat) (hr : 1 + (y : Int) = (r : Int)) (hm : (b.size : Int) - (y : Int) = (m : Int)) (hC : b.extract 0 m = C)
    (h2 : 5 ≤ b.size) (D : ByteArray) (hD : b.extract 5 b.size = D)
    (H1 : Hid (∀ w, Calls Tryd.prog 14 #[.agg #[.int .i64 0, .int .i64 8, .int .i64 1, .string X]] w fun e w' => e = .returned (.tuple #[.string C, .int .i64 (r : Int), .int .i64 0]) ∧ Keeps nobody w w'))
    (H2 : Hid (∀ w, Calls Tryd.prog 14 #[.agg #[.int .i64 1, .int .i64 32, .int .i64 1, .string b]] w fun e w' => e = .returned (.tuple #[.string D, .int .i64 5, .int .i64 0]) ∧ Keeps nobody w w'))
    (H3 : Hid (∀ w, Calls Tryd.prog 14 #[.agg #[.int .i64 0, .int .i64 8, .int .i64 1, .string ⟨#[]⟩]] w fun e w' => e = .returned (.tuple #[.string ⟨#[]⟩, .int .i64 0, .int .i64 11]) ∧ Keeps nobody w w')) : Calls Tryd.prog 8 #[.string b, .int .i64 (y : Int)] W (Fine W) := by
  go_enter Tryd.func8, Tryd.ntmps8
  go_wp2_with fail
  refine Calls.mono (HA.out _ (Keeps.refl _ _)) ?_
  rintro e w1 ⟨rfl, k1⟩
  go_wp2_with fail
  refine Calls.mono (H1.out _) ?_
  rintro e w2 ⟨rfl, k2⟩
  go_wp2_with fail
  refine Calls.mono (H2.out _) ?_
  rintro e w3 ⟨rfl, k3⟩
  go_wp2_with fail
  refine Calls.mono (H3.out _) ?_
  rintro e w4 ⟨rfl, k4⟩
  have kk := (((k1.alloc _).then k2).then k3).then k4
  clear k1 k2 k3 k4 H1 H2 H3 HA hconv
  go_wp2
  go_ret
  exact ⟨rfl, below_of_keeps kk⟩

set_option maxRecDepth 100000 in
set_option maxHeartbeats 1000000 in
theorem short_01 (b : ByteArray) (y : Nat) (W : World) (hs : b.size ≤ 200) (hy : y ≤ 255) (HA : Hid (∀ w, Keeps nobody W w → Calls Tryd.prog 9 #[] w fun e w' => e = .returned (.bool true) ∧ Keeps nobody w w')) (S X : ByteArray) (hS : S.size = 1) (hconv : ∀ w : World, (convert 35 9 (.slice (some ⟨w.heap.size, 0, none⟩) 1 1)).run Tryd.prog (w.alloc (.cells #[.int .u8 (y : Int)] 5)) = .ok (.string S) (w.alloc (.cells #[.int .u8 (y : Int)] 5))) (hX : S ++ b = X)
    (h1 : y ≤ b.size) (C : ByteArray) (r m : Nat) (hr : 1 + (y : Int) = (r : Int)) (hm : (b.size : Int) - (y : Int) = (m : Int)) (hC : b.extract 0 m = C)
    (h2 : b.size < 5)
    (H1 : Hid (∀ w, Calls Tryd.prog 14 #[.agg #[.int .i64 0, .int .i64 8, .int .i64 1, .string X]] w fun e w' => e = .returned (.tuple #[.string C, .int .i64 (r : Int), .int .i64 0]) ∧ Keeps nobody w w'))
    (H2 : Hid (∀ w, Calls Tryd.prog 14 #[.agg #[.int .i64 1, .int .i64 32, .int .i64 1, .string b]] w fun e w' => e = .returned (.tuple #[.string ⟨#[]⟩, .int .i64 0, .int .i64 5]) ∧ Keeps nobody w w'))
    (H3 : Hid (∀ w, Calls Tryd.prog 14 #[.agg #[.int .i64 0, .int .i64 8, .int .i64 1, .string ⟨#[]⟩]] w fun e w' => e = .returned (.tuple #[.string ⟨#[]⟩, .int .i64 0, .int .i64 11]) ∧ Keeps nobody w w')) : Calls Tryd.prog 8 #[.string b, .int .i64 (y : Int)] W (Fine W) := by
  go_enter Tryd.func8, Tryd.ntmps8
  go_wp2_with fail
  refine Calls.mono (HA.out _ (Keeps.refl _ _)) ?_
  rintro e w1 ⟨rfl, k1⟩
  go_wp2_with fail
  refine Calls.mono (H1.out _) ?_
  rintro e w2 ⟨rfl, k2⟩
  go_wp2_with fail
  refine Calls.mono (H2.out _) ?_
  rintro e w3 ⟨rfl, k3⟩
  go_wp2_with fail
  refine Calls.mono (H3.out _) ?_
  rintro e w4 ⟨rfl, k4⟩
  have kk := (((k1.alloc _).then k2).then k3).then k4
  clear k1 k2 k3 k4 H1 H2 H3 HA hconv
  go_wp2
  go_ret
  exact ⟨rfl, below_of_keeps kk⟩

set_option maxRecDepth 100000 in
set_option maxHeartbeats 1000000 in
theorem short_10 (b : ByteArray) (y : Nat) (W : World) (hs : b.size ≤ 200) (hy : y ≤ 255) (HA : Hid (∀ w, Keeps nobody W w → Calls Tryd.prog 9 #[] w fun e w' => e = .returned (.bool true) ∧ Keeps nobody w w')) (S X : ByteArray) (hS : S.size = 1) (hconv : ∀ w : World, (convert 35 9 (.slice (some ⟨w.heap.size, 0, none⟩) 1 1)).run Tryd.prog (w.alloc (.cells #[.int .u8 (y : Int)] 5)) = .ok (.string S) (w.alloc (.cells #[.int .u8 (y : Int)] 5))) (hX : S ++ b = X)
    (h1 : b.size < y)
    (h2 : 5 ≤ b.size) (D : ByteArray) (hD : b.extract 5 b.size = D)
    (H1 : Hid (∀ w, Calls Tryd.prog 14 #[.agg #[.int .i64 0, .int .i64 8, .int .i64 1, .string X]] w fun e w' => e = .returned (.tuple #[.string ⟨#[]⟩, .int .i64 0, .int .i64 11]) ∧ Keeps nobody w w'))
    (H2 : Hid (∀ w, Calls Tryd.prog 14 #[.agg #[.int .i64 1, .int .i64 32, .int .i64 1, .string b]] w fun e w' => e = .returned (.tuple #[.string D, .int .i64 5, .int .i64 0]) ∧ Keeps nobody w w'))
    (H3 : Hid (∀ w, Calls Tryd.prog 14 #[.agg #[.int .i64 0, .int .i64 8, .int .i64 1, .string ⟨#[]⟩]] w fun e w' => e = .returned (.tuple #[.string ⟨#[]⟩, .int .i64 0, .int .i64 11]) ∧ Keeps nobody w w')) : Calls Tryd.prog 8 #[.string b, .int .i64 (y : Int)] W (Fine W) := by
  go_enter Tryd.func8, Tryd.ntmps8
  go_wp2_with fail
  refine Calls.mono (HA.out _ (Keeps.refl _ _)) ?_
  rintro e w1 ⟨rfl, k1⟩
  go_wp2_with fail
  refine Calls.mono (H1.out _) ?_
  rintro e w2 ⟨rfl, k2⟩
  go_wp2_with fail
  refine Calls.mono (H2.out _) ?_
  rintro e w3 ⟨rfl, k3⟩
  go_wp2_with fail
  refine Calls.mono (H3.out _) ?_
  rintro e w4 ⟨rfl, k4⟩
  have kk := (((k1.alloc _).then k2).then k3).then k4
  clear k1 k2 k3 k4 H1 H2 H3 HA hconv
  go_wp2
  go_ret
  exact ⟨rfl, below_of_keeps kk⟩

set_option maxRecDepth 100000 in
set_option maxHeartbeats 1000000 in
theorem short_11 (b : ByteArray) (y : Nat) (W : World) (hs : b.size ≤ 200) (hy : y ≤ 255) (HA : Hid (∀ w, Keeps nobody W w → Calls Tryd.prog 9 #[] w fun e w' => e = .returned (.bool true) ∧ Keeps nobody w w')) (S X : ByteArray) (hS : S.size = 1) (hconv : ∀ w : World, (convert 35 9 (.slice (some ⟨w.heap.size, 0, none⟩) 1 1)).run Tryd.prog (w.alloc (.cells #[.int .u8 (y : Int)] 5)) = .ok (.string S) (w.alloc (.cells #[.int .u8 (y : Int)] 5))) (hX : S ++ b = X)
    (h1 : b.size < y)
    (h2 : b.size < 5)
    (H1 : Hid (∀ w, Calls Tryd.prog 14 #[.agg #[.int .i64 0, .int .i64 8, .int .i64 1, .string X]] w fun e w' => e = .returned (.tuple #[.string ⟨#[]⟩, .int .i64 0, .int .i64 11]) ∧ Keeps nobody w w'))
    (H2 : Hid (∀ w, Calls Tryd.prog 14 #[.agg #[.int .i64 1, .int .i64 32, .int .i64 1, .string b]] w fun e w' => e = .returned (.tuple #[.string ⟨#[]⟩, .int .i64 0, .int .i64 5]) ∧ Keeps nobody w w'))
    (H3 : Hid (∀ w, Calls Tryd.prog 14 #[.agg #[.int .i64 0, .int .i64 8, .int .i64 1, .string ⟨#[]⟩]] w fun e w' => e = .returned (.tuple #[.string ⟨#[]⟩, .int .i64 0, .int .i64 11]) ∧ Keeps nobody w w')) : Calls Tryd.prog 8 #[.string b, .int .i64 (y : Int)] W (Fine W) := by
  go_enter Tryd.func8, Tryd.ntmps8
  go_wp2_with fail
  refine Calls.mono (HA.out _ (Keeps.refl _ _)) ?_
  rintro e w1 ⟨rfl, k1⟩
  go_wp2_with fail
  refine Calls.mono (H1.out _) ?_
  rintro e w2 ⟨rfl, k2⟩
  go_wp2_with fail
  refine Calls.mono (H2.out _) ?_
  rintro e w3 ⟨rfl, k3⟩
  go_wp2_with fail
  refine Calls.mono (H3.out _) ?_
  rintro e w4 ⟨rfl, k4⟩
  have kk := (((k1.alloc _).then k2).then k3).then k4
  clear k1 k2 k3 k4 H1 H2 H3 HA hconv
  go_wp2
  go_ret
  exact ⟨rfl, below_of_keeps kk⟩

theorem short_true (b : ByteArray) (pad : Int) (W : World) (hE : Env W) (_ : b.size ≤ 140737488355328) : Calls Tryd.prog 8 #[.string b, .int .i64 pad] W (Fine W) := by
  have HA : Hid (∀ w, Keeps nobody W w → Calls Tryd.prog 9 #[] w fun e w' => e = .returned (.bool true) ∧ Keeps nobody w w') := fun w hw => alive_ok w (hE.quiet hw)
  by_cases h0 : b.size ≤ 200
  · by_cases h1 : 0 ≤ pad
    · by_cases h2 : pad ≤ 255
      · obtain ⟨y, rfl⟩ := Int.eq_ofNat_of_zero_le h1
        have hy : y < 256 := by omega
        have hX : (str [y] ++ b).size ≤ 140737488355328 := by simp [str_size]; omega
        have H1 := fun w => strip_ok ⟨0, 8, 1, str [y] ++ b⟩ w hX
        have H2 := fun w => strip_ok ⟨1, 32, 1, b⟩ w (show b.size ≤ 140737488355328 by omega)
        have H3 := fun w => strip_ok ⟨0, 8, 1, ⟨#[]⟩⟩ w (show (⟨#[]⟩ : ByteArray).size ≤ 140737488355328 by decide)
        simp only [pad8, weigh8, pad32, weigh32, strip_pad y b hy, strip_weigh, strip_none] at H1 H2 H3
        by_cases g1 : b.size < y
        · rw [if_pos g1] at H1
          by_cases g2 : b.size < 5
          · rw [if_pos g2] at H2
            exact short_11 b y W h0 (by omega) HA _ _ (str_size _) (conv_one y) rfl g1 g2 H1 H2 H3
          · rw [if_neg g2] at H2
            exact short_10 b y W h0 (by omega) HA _ _ (str_size _) (conv_one y) rfl g1 (by omega) _ (by unfold behind; rfl) H1 H2 H3
        · rw [if_neg g1] at H1
          by_cases g2 : b.size < 5
          · rw [if_pos g2] at H2
            exact short_01 b y W h0 (by omega) HA _ _ (str_size _) (conv_one y) rfl (by omega) _ (1 + y) (b.size - y) (by omega) (by omega) rfl g2 H1 H2 H3
          · rw [if_neg g2] at H2
            exact short_00 b y W h0 (by omega) HA _ _ (str_size _) (conv_one y) rfl (by omega) _ (1 + y) (b.size - y) (by omega) (by omega) rfl (by omega) _ (by unfold behind; rfl) H1 H2 H3
      · exact short_off2 b pad W HA h0 h1 (by omega)
    · exact short_off1 b pad W HA h0 (by omega)
  · exact short_off0 b pad W HA (by omega)
end Go.Proofs.YtgfcllabhpioiaaDoor
