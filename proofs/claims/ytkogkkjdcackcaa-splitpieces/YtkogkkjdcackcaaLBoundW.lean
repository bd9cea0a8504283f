/-
  The law SplitBound as a walk.
-/
import Derived.Test.YtkogkkjdcackcaaLAlive
namespace Go.Proofs.Ytkogkkjdcackcaa
open Go.RowKit

theorem Hold.box2 {W w : World} {t : Thing} {ts : List Thing} (h : Hold W w (t :: ts)) (f : Frm) : Hold W (w.alloc (frobj f.kind f.flags f.id f.body)) (t :: bxT w.heap.size f :: ts) := (h.box f).swap
def zerosA (n : Nat) : ByteArray := str (List.replicate n 0)
theorem zerosA_size (n : Nat) : (zerosA n).size = n := by rw [zerosA, str_size]; simp
def zeroF (n : Nat) : Frm := ⟨0, 0, 1, zerosA n⟩
theorem zeroF_right (n : Nat) (h : n ≤ 16777215) : right (zeroF n) := by
  refine ⟨⟨by simp [zeroF], by simp [zeroF]⟩, ⟨by simp [zeroF], by simp [zeroF]⟩, ⟨by simp [zeroF], by simp [zeroF]⟩, ?_⟩
  show (zerosA n).size ≤ _
  rw [zerosA_size]
  exact h
theorem zeroF_great (m : Nat) (h : m ≤ 512) : nextR m false (⟨#[]⟩ ++ putA (zeroF (m + 1))) = ((noF, false, 5), true, ⟨#[]⟩) := by
  have hr := zeroF_right (m + 1) (by omega)
  have e : (⟨#[]⟩ ++ putA (zeroF (m + 1)) : ByteArray) = putA (zeroF (m + 1)) := by apply nums_inj; simp [nums]
  have hz : (zeroF (m + 1)).body.size = m + 1 := zerosA_size _
  have hp := put_size _ hr
  rw [hz] at hp
  rw [e]
  refine nextR_great _ _ ⟨by omega, ?_⟩
  rw [num3_put (f := zeroF (m + 1)) (R := ⟨#[]⟩) (T := ⟨#[]⟩) hr rfl (by omega), hz]
  omega
theorem zeroF_fits (m : Nat) (h : m ≤ 512) : nextR m false (⟨#[]⟩ ++ putA (zeroF m)) = ((zeroF m, true, 0), false, ⟨#[]⟩) := by
  have hr := zeroF_right m (by omega)
  have e : (⟨#[]⟩ ++ putA (zeroF m) : ByteArray) = putA (zeroF m) ++ ⟨#[]⟩ := by apply nums_inj; simp [nums]
  rw [e]
  exact next_put m hr (by show (zerosA m).size ≤ m; rw [zerosA_size]; exact Nat.le_refl _)
theorem conv_zeros (n : Nat) (hn : n ≤ 1000) (W : World) : (convert 46 9 (.slice (some ⟨W.heap.size, 0, none⟩) n n)).run Try.prog (W.alloc (.cells (madeCells #[.int .u8 0] n) 5)) = .ok (.string (zerosA n)) (W.alloc (.cells (madeCells #[.int .u8 0] n) 5)) := by
  have hr := World.ownsRow_lit (base := W.heap.size) (e := 5) (size := 1) W (madeCells #[.int .u8 0] n) n (Nat.le_refl _) (by unfold maxLen; omega) (by rw [size_madeCells]; simp)
  rw [toList_madeCells_one] at hr
  exact conv_own _ W.heap.size _ _ (List.replicate n 0) _ hr (by simp [cellsOf])
attribute [local irreducible] putA right nums str nextR zerosA

theorem bound_off (m : Int) (more : Bool) (w : World) (h : m < 64 ∨ 512 < m) : Calls Try.prog 8 #[.int .i64 m, .bool more] w (Fine w) := by
  have HA : Hid (∀ W, Calls Try.prog 9 #[] W fun e w' => e = .returned (.bool true) ∧ Keeps nobody W w') := alive_ok
  by_cases h1 : m < 64
  · clear h
    go_enter Try.func8, Try.ntmps8
    go_wp2_with fail
    refine Calls.mono (HA.out _) ?_
    rintro e w1 ⟨rfl, k1⟩
    go_wp2
    go_ret
    exact ⟨rfl, below_of_keeps k1⟩
  · have h2 : 512 < m := by omega
    have h3 : 64 ≤ m := by omega
    clear h h1
    go_enter Try.func8, Try.ntmps8
    go_wp2_with fail
    refine Calls.mono (HA.out _) ?_
    rintro e w1 ⟨rfl, k1⟩
    go_wp2
    go_ret
    exact ⟨rfl, below_of_keeps k1⟩

set_option maxRecDepth 100000 in
set_option maxHeartbeats 1000000 in
theorem bound_fits (m : Nat) (w : World) (h1 : 64 ≤ m) (h2 : m ≤ 512) : Calls Try.prog 8 #[.int .i64 (m : Int), .bool false] w (Fine w) := by
  have HA : Hid (∀ W, Calls Try.prog 9 #[] W fun e w' => e = .returned (.bool true) ∧ Keeps nobody W w') := alive_ok
  have HN : Hid (∀ W, Hold w W [] → Calls Try.prog 10 #[.int .i64 (m : Int)] W fun e w' => ∃ g v, e = .returned (.pointer (some ⟨g, 0, none⟩)) ∧ Hid (Hold w w' [spT g v m false ⟨#[]⟩])) := fun W h => t_new h m h1 h2
  have hlem := zeroF_fits m h2
  have hr := zeroF_right m (by omega)
  have hps := put_size _ hr
  have hcv := conv_zeros m (by omega)
  have hzs := zerosA_size m
  have HP : Hid (∀ W, Calls Try.prog 16 #[.agg #[.int .i64 0, .int .i64 0, .int .i64 1, .string (zerosA m)]] W fun e w' => e = .returned (.tuple #[.string (putA (zeroF m)), .bool true]) ∧ Keeps nobody W w') := fun W => by
    have := fput_ok (zeroF m) W
    rw [decide_eq_true hr] at this
    exact this
  simp only [zeroF] at hlem HP hps
  generalize zerosA m = Z at *
  generalize hPZ : putA ⟨0, 0, 1, Z⟩ = PZ at *
  have HF : Hid (∀ W g v ts, Hold w W (spT g v m false ⟨#[]⟩ :: ts) → Calls Try.prog 12 #[.pointer (some ⟨g, 0, none⟩), .string PZ] W fun e w' => e = .returned (.int .i64 (PZ.size : Int)) ∧ ∃ v', Hid (Hold w w' (spT g v' m false (⟨#[]⟩ ++ PZ) :: ts))) := fun W g v ts h => t_feed h _ (by show 0 + PZ.size ≤ _; omega)
  have HX : Hid (∀ W g v ts, Hold w W (spT g v m false (⟨#[]⟩ ++ PZ) :: ts) → Calls Try.prog 11 #[.pointer (some ⟨g, 0, none⟩)] W fun e w' => e = .returned (.tuple #[.agg #[.int .i64 0, .int .i64 0, .int .i64 1, .string Z], .bool true, .int .i64 0]) ∧ ∃ v', Hid (Hold w w' (spT g v' m false ⟨#[]⟩ :: ts))) := fun W g v ts h => by
    have := t_next h
    rwa [hlem] at this
  have HO : Hid (∀ W g v ts, Hold w W (spT g v m false ⟨#[]⟩ :: ts) → Calls Try.prog 14 #[.pointer (some ⟨g, 0, none⟩)] W fun e w' => e = .returned (.bool false) ∧ W = w') := fun W g v ts h => t_over h
  have hmk := run_make_row' (P := Try.prog) 46 5 (.int .u8 0) 1 Try.underlying46 info5 rfl .i64 .i64 m (by omega) (by omega)
  
  clear hlem hr hPZ  hzs hps
  go_enter Try.func8, Try.ntmps8
  go_wp2_with fail
  refine Calls.mono (HA.out _) ?_
  rintro e w1 ⟨rfl, k1⟩
  have H1 := hid ((hold_start w).quiet k1)
  clear k1 HA
  go_wp2_with fail
  refine Calls.mono (HN.out _ H1.out) ?_
  rintro e w2 ⟨g, v, rfl, H2⟩
  clear H1 HN
  have hcv2 := hcv w2
  clear hcv
  go_wp2_with fail
  refine Calls.mono (HP.out _) ?_
  rintro e w3 ⟨rfl, k3⟩
  have H3 := hid (((H2.out.quiet (keeps_alloc w2 (.cells (madeCells #[.int .u8 0] m) 5))).box2 ⟨0, 0, 1, Z⟩).quiet k3)
  have e3 : (w2.alloc (.cells (madeCells #[.int .u8 0] m) 5)).heap.size = w2.heap.size + 1 := by simp
  rw [e3] at H3
  clear k3 HP H2 e3 hcv2 hmk
  go_wp2_with fail
  refine Calls.mono (HF.out _ _ _ _ H3.out) ?_
  rintro e w4 ⟨rfl, v4, H4⟩
  clear HF H3
  go_wp2_with fail
  refine Calls.mono (HX.out _ _ _ _ H4.out) ?_
  rintro e w5 ⟨rfl, v5, H5⟩
  have H6 := hid (H5.out.quiet (keeps_alloc w5 (frobj 0 0 1 Z)))
  obtain ⟨b0, b1, b2, b3, _⟩ := H6.out.bx (g := w2.heap.size + 1) (f := ⟨0, 0, 1, Z⟩) (by simp)
  clear HX H4 H5
  go_wp2_with fail
  refine Calls.mono (HO.out _ _ _ _ H6.out) ?_
  rintro e w6 ⟨rfl, rfl⟩
  go_wp2
  go_ret
  exact ⟨rfl, H6.out.below⟩

set_option maxRecDepth 100000 in
set_option maxHeartbeats 1000000 in
theorem bound_more (m : Nat) (w : World) (h1 : 64 ≤ m) (h2 : m ≤ 512) : Calls Try.prog 8 #[.int .i64 (m : Int), .bool true] w (Fine w) := by
  have HA : Hid (∀ W, Calls Try.prog 9 #[] W fun e w' => e = .returned (.bool true) ∧ Keeps nobody W w') := alive_ok
  have HN : Hid (∀ W, Hold w W [] → Calls Try.prog 10 #[.int .i64 (m : Int)] W fun e w' => ∃ g v, e = .returned (.pointer (some ⟨g, 0, none⟩)) ∧ Hid (Hold w w' [spT g v m false ⟨#[]⟩])) := fun W h => t_new h m h1 h2
  have hlem := zeroF_great m h2
  obtain ⟨n, hn⟩ : ∃ n, n = m + 1 := ⟨_, rfl⟩
  rw [← hn] at hlem
  have hr := zeroF_right n (by omega)
  have hps := put_size _ hr
  have hcv := conv_zeros n (by omega)
  have hzs := zerosA_size n
  have HP : Hid (∀ W, Calls Try.prog 16 #[.agg #[.int .i64 0, .int .i64 0, .int .i64 1, .string (zerosA n)]] W fun e w' => e = .returned (.tuple #[.string (putA (zeroF n)), .bool true]) ∧ Keeps nobody W w') := fun W => by
    have := fput_ok (zeroF n) W
    rw [decide_eq_true hr] at this
    exact this
  simp only [zeroF] at hlem HP hps
  generalize zerosA n = Z at *
  generalize hPZ : putA ⟨0, 0, 1, Z⟩ = PZ at *
  have HF : Hid (∀ W g v ts, Hold w W (spT g v m false ⟨#[]⟩ :: ts) → Calls Try.prog 12 #[.pointer (some ⟨g, 0, none⟩), .string PZ] W fun e w' => e = .returned (.int .i64 (PZ.size : Int)) ∧ ∃ v', Hid (Hold w w' (spT g v' m false (⟨#[]⟩ ++ PZ) :: ts))) := fun W g v ts h => t_feed h _ (by show 0 + PZ.size ≤ _; omega)
  have HX : Hid (∀ W g v ts, Hold w W (spT g v m false (⟨#[]⟩ ++ PZ) :: ts) → Calls Try.prog 11 #[.pointer (some ⟨g, 0, none⟩)] W fun e w' => e = .returned (.tuple #[.agg #[.int .i64 0, .int .i64 0, .int .i64 0, .string ⟨#[]⟩], .bool false, .int .i64 5]) ∧ ∃ v', Hid (Hold w w' (spT g v' m true ⟨#[]⟩ :: ts))) := fun W g v ts h => by
    have := t_next h
    rwa [hlem] at this
  have HO : Hid (∀ W g v ts, Hold w W (spT g v m true ⟨#[]⟩ :: ts) → Calls Try.prog 14 #[.pointer (some ⟨g, 0, none⟩)] W fun e w' => e = .returned (.bool true) ∧ W = w') := fun W g v ts h => t_over h
  have hmk := run_make_row' (P := Try.prog) 46 5 (.int .u8 0) 1 Try.underlying46 info5 rfl .i64 .i64 n (by omega) (by omega)
  have hinc : (m : Int) + 1 = (n : Int) := by omega
  have hn2 : n ≤ 513 := by omega
  clear hlem hr hPZ hn hzs hps
  go_enter Try.func8, Try.ntmps8
  go_wp2_with fail
  refine Calls.mono (HA.out _) ?_
  rintro e w1 ⟨rfl, k1⟩
  have H1 := hid ((hold_start w).quiet k1)
  clear k1 HA
  go_wp2_with fail
  refine Calls.mono (HN.out _ H1.out) ?_
  rintro e w2 ⟨g, v, rfl, H2⟩
  clear H1 HN
  have hcv2 := hcv w2
  clear hcv
  go_wp2_with fail
  refine Calls.mono (HP.out _) ?_
  rintro e w3 ⟨rfl, k3⟩
  have H3 := hid (((H2.out.quiet (keeps_alloc w2 (.cells (madeCells #[.int .u8 0] n) 5))).box2 ⟨0, 0, 1, Z⟩).quiet k3)
  have e3 : (w2.alloc (.cells (madeCells #[.int .u8 0] n) 5)).heap.size = w2.heap.size + 1 := by simp
  rw [e3] at H3
  clear k3 HP H2 e3 hcv2 hmk
  go_wp2_with fail
  refine Calls.mono (HF.out _ _ _ _ H3.out) ?_
  rintro e w4 ⟨rfl, v4, H4⟩
  clear HF H3
  go_wp2_with fail
  refine Calls.mono (HX.out _ _ _ _ H4.out) ?_
  rintro e w5 ⟨rfl, v5, H5⟩
  have H6 := hid (H5.out.quiet (keeps_alloc w5 (frobj 0 0 0 ⟨#[]⟩)))
  obtain ⟨b0, b1, b2, b3, _⟩ := H6.out.bx (g := w2.heap.size + 1) (f := ⟨0, 0, 1, Z⟩) (by simp)
  clear HX H4 H5
  go_wp2_with fail
  refine Calls.mono (HO.out _ _ _ _ H6.out) ?_
  rintro e w6 ⟨rfl, rfl⟩
  go_wp2
  go_ret
  exact ⟨rfl, H6.out.below⟩

theorem bound_true (m : Int) (more : Bool) (w : World) : Calls Try.prog 8 #[.int .i64 m, .bool more] w (Fine w) := by
  by_cases h : m < 64 ∨ 512 < m
  · exact bound_off m more w h
  · obtain ⟨n, rfl⟩ := Int.eq_ofNat_of_zero_le (show 0 ≤ m by omega)
    cases more
    · exact bound_fits n w (by omega) (by omega)
    · exact bound_more n w (by omega) (by omega)
end Go.Proofs.Ytkogkkjdcackcaa
