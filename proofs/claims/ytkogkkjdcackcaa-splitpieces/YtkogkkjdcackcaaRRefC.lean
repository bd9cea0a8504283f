/-
  The reference's FramePut, FrameGet.
-/
import Derived.Test.YtkogkkjdcackcaaRRefB
import Derived.Test.YtkogkkjdcackcaaRGet
import Derived.Deep.RegionHeld3
namespace Go.Proofs.Ytkogkkjdcackcaa
open Go.RowKit

theorem str_join (l m : List Nat) : str l ++ str m = str (l ++ m) := by
  apply ByteArray.ext
  simp [str_data]
theorem head_bigs (n k fl id : Nat) : str (bigL 3 n) ++ str (bigL 1 k) ++ str (bigL 1 fl) ++ str (bigL 4 id) = str (headL n k fl id) := by
  rw [str_join, str_join, str_join, bigL_three, bigL_one, bigL_one, bigL_four]
  rfl
theorem wrap_byte (y : Nat) (h : y < 256) : IntKind.i64.wrap (y : Int) = (y : Int) := by
  simp [IntKind.wrap, IntKind.bits, IntKind.signed]
  omega
attribute [local irreducible] partL bigL nums str numL byteAt endOf idOf headL

theorem fput_no (f : Frm) (w : World) (h : ¬ right f) : Calls Try.prog 16 #[frval f] w fun e w' => e = .returned (.tuple #[.string (putA f), .bool (decide (right f))]) ∧ Keeps nobody w w' := by
  rw [putA, if_neg h, decide_eq_false h]
  have HR : Hid (∀ w, Calls Try.prog 24 #[frval f] w fun e w' => e = .returned (.bool false) ∧ Keeps nobody w w') := fun w => by
    have := fright_ok f w
    rwa [decide_eq_false h] at this
  obtain ⟨k, fl, id, b⟩ := f
  clear h
  go_enter Try.func16, Try.ntmps16
  go_wp2_with fail
  refine Calls.mono (HR.out _) ?_
  rintro e w1 ⟨rfl, k1⟩
  go_wp2
  go_ret2
  exact ⟨rfl, (keeps_alloc _ _).then k1⟩

set_option maxRecDepth 100000 in
set_option maxHeartbeats 2000000 in
theorem fput_yes (f : Frm) (w : World) (h : right f) : Calls Try.prog 16 #[frval f] w fun e w' => e = .returned (.tuple #[.string (putA f), .bool (decide (right f))]) ∧ Keeps nobody w w' := by
  rw [putA, if_pos h, decide_eq_true h]
  have HR : Hid (∀ w, Calls Try.prog 24 #[frval f] w fun e w' => e = .returned (.bool true) ∧ Keeps nobody w w') := fun w => by
    have := fright_ok f w
    rwa [decide_eq_true h] at this
  obtain ⟨k, fl, i, b⟩ := f
  obtain ⟨⟨a1, a2⟩, ⟨b1, b2⟩, ⟨c1, c2⟩, d⟩ := h
  simp only at a1 a2 b1 b2 c1 c2 d
  obtain ⟨k, rfl⟩ := Int.eq_ofNat_of_zero_le a1
  obtain ⟨fl, rfl⟩ := Int.eq_ofNat_of_zero_le b1
  obtain ⟨i, rfl⟩ := Int.eq_ofNat_of_zero_le c1
  have hE : headA ⟨(k : Int), (fl : Int), (i : Int), b⟩ = str (bigL 3 b.size) ++ str (bigL 1 k) ++ str (bigL 1 fl) ++ str (bigL 4 i) := by
    rw [head_bigs]
    simp [headA]
  rw [hE]
  have H1 : Hid (∀ w, Calls Try.prog 18 #[.int .i64 (b.size : Int), .int .i64 3] w fun e w' => e = .returned (.string (str (bigL 3 b.size))) ∧ Keeps nobody w w') := fun w => big_ok b.size 3 w (by omega) (by decide) (by decide)
  have H2 : Hid (∀ w, Calls Try.prog 18 #[.int .i64 (k : Int), .int .i64 1] w fun e w' => e = .returned (.string (str (bigL 1 k))) ∧ Keeps nobody w w') := fun w => big_ok k 1 w (by omega) (by decide) (by decide)
  have H3 : Hid (∀ w, Calls Try.prog 18 #[.int .i64 (fl : Int), .int .i64 1] w fun e w' => e = .returned (.string (str (bigL 1 fl))) ∧ Keeps nobody w w') := fun w => big_ok fl 1 w (by omega) (by decide) (by decide)
  have H4 : Hid (∀ w, Calls Try.prog 18 #[.int .i64 (i : Int), .int .i64 4] w fun e w' => e = .returned (.string (str (bigL 4 i))) ∧ Keeps nobody w w') := fun w => big_ok i 4 w (by omega) (by decide) (by decide)
  have s1 : (str (bigL 3 b.size)).size = 3 := by rw [str_size, bigL_three]; rfl
  have s2 : (str (bigL 1 k)).size = 1 := by rw [str_size, bigL_one]; rfl
  have s3 : (str (bigL 1 fl)).size = 1 := by rw [str_size, bigL_one]; rfl
  have s4 : (str (bigL 4 i)).size = 4 := by rw [str_size, bigL_four]; rfl
  clear hE
  generalize str (bigL 3 b.size) = S1 at *
  generalize str (bigL 1 k) = S2 at *
  generalize str (bigL 1 fl) = S3 at *
  generalize str (bigL 4 i) = S4 at *
  go_enter Try.func16, Try.ntmps16
  go_wp2_with fail
  refine Calls.mono (HR.out _) ?_
  rintro e w1 ⟨rfl, k1⟩
  have hc : ∀ o, w1.cell? ⟨w.heap.size, o, none⟩ = (w.alloc (.cells #[.int .i64 (k : Int), .int .i64 (fl : Int), .int .i64 (i : Int), .string b] 28)).cell? ⟨w.heap.size, o, none⟩ := fun o => k1.cell (by simp) (fun h => h)
  have hc0 := (hc 0).trans (show _ = some (Value.int .i64 (k : Int)) by simp)
  have hc1 := (hc 1).trans (show _ = some (Value.int .i64 (fl : Int)) by simp)
  have hc2 := (hc 2).trans (show _ = some (Value.int .i64 (i : Int)) by simp)
  have hc3 := (hc 3).trans (show _ = some (Value.string b) by simp)
  have hlt : w.heap.size < w1.heap.size := by have := k1.size; simp at this; omega
  have HK : Hid (∀ W, Keeps nobody w1 W → W.cell? ⟨w.heap.size, 0, none⟩ = some (.int .i64 (k : Int)) ∧ W.cell? ⟨w.heap.size, 1, none⟩ = some (.int .i64 (fl : Int)) ∧ W.cell? ⟨w.heap.size, 2, none⟩ = some (.int .i64 (i : Int)) ∧ W.cell? ⟨w.heap.size, 3, none⟩ = some (.string b)) := fun W hW => by
    have hk : ∀ o, W.cell? ⟨w.heap.size, o, none⟩ = w1.cell? ⟨w.heap.size, o, none⟩ := fun o => hW.cell hlt (fun h => h)
    exact ⟨(hk _).trans hc0, (hk _).trans hc1, (hk _).trans hc2, (hk _).trans hc3⟩
  have kw := (keeps_alloc _ _).then k1
  clear hc hlt k1 HR
  have J1 : Hid (∀ W, Keeps nobody w1 W → Calls Try.prog 18 #[.int .i64 (b.size : Int), .int .i64 3] W fun e w' => e = .returned (.string S1) ∧ Keeps nobody w1 w') := fun W hW => (H1.out W).mono fun e w' h => ⟨h.1, hW.then h.2⟩
  have J2 : Hid (∀ W, Keeps nobody w1 W → Calls Try.prog 18 #[.int .i64 (k : Int), .int .i64 1] W fun e w' => e = .returned (.string S2) ∧ Keeps nobody w1 w') := fun W hW => (H2.out W).mono fun e w' h => ⟨h.1, hW.then h.2⟩
  have J3 : Hid (∀ W, Keeps nobody w1 W → Calls Try.prog 18 #[.int .i64 (fl : Int), .int .i64 1] W fun e w' => e = .returned (.string S3) ∧ Keeps nobody w1 w') := fun W hW => (H3.out W).mono fun e w' h => ⟨h.1, hW.then h.2⟩
  have J4 : Hid (∀ W, Keeps nobody w1 W → Calls Try.prog 18 #[.int .i64 (i : Int), .int .i64 4] W fun e w' => e = .returned (.string S4) ∧ Keeps nobody w1 w') := fun W hW => (H4.out W).mono fun e w' h => ⟨h.1, hW.then h.2⟩
  clear H1 H2 H3 H4
  have hbig : (9223372036854775807 < 9 + b.size) = False := by simp only [eq_iff_iff, iff_false]; omega
  go_wp2_with fail
  go_region_held3 (fun w' => w'.cell? ⟨w.heap.size, 0, none⟩ = some (.int .i64 (k : Int)) ∧ w'.cell? ⟨w.heap.size, 1, none⟩ = some (.int .i64 (fl : Int)) ∧ w'.cell? ⟨w.heap.size, 2, none⟩ = some (.int .i64 (i : Int)) ∧ w'.cell? ⟨w.heap.size, 3, none⟩ = some (.string b)) (first | go_keep | exact HK.out _ (by assumption)) ((first
    | (go_at_call_of 18 (b.size : Int); refine Calls.mono (J1.out _ (by first | assumption | exact (Keeps.refl _ _).drew)) ?_; rintro e wq ⟨rfl, kq⟩)
    | (go_at_call_of 18 (k : Int); refine Calls.mono (J2.out _ (by first | assumption | exact (Keeps.refl _ _).drew)) ?_; rintro e wq ⟨rfl, kq⟩)
    | (go_at_call_of 18 (fl : Int); refine Calls.mono (J3.out _ (by first | assumption | exact (Keeps.refl _ _).drew)) ?_; rintro e wq ⟨rfl, kq⟩)
    | (go_at_call_of 18 (i : Int); refine Calls.mono (J4.out _ (by first | assumption | exact (Keeps.refl _ _).drew)) ?_; rintro e wq ⟨rfl, kq⟩)))
  all_goals
    go_wp2
    go_ret2
    exact ⟨rfl, kw.then (by assumption)⟩
theorem fput_ok (f : Frm) (w : World) : Calls Try.prog 16 #[frval f] w fun e w' => e = .returned (.tuple #[.string (putA f), .bool (decide (right f))]) ∧ Keeps nobody w w' := by
  by_cases h : right f
  · exact fput_yes f w h
  · exact fput_no f w h

theorem fget_short (b : ByteArray) (w : World) (h : b.size < 9) : Calls Try.prog 23 #[.string b] w fun e w' => e = .returned (getV (getA b)) ∧ Keeps nobody w w' := by
  have e : getA b = (noF, 0, 2) := by rw [getA, if_neg (by unfold whole; omega)]
  rw [e]
  clear e
  go_enter Try.func23, Try.ntmps23
  go_wp2
  exact bodyPost_ret (v := getV (noF, 0, 2)) (by simp [results, Try.results23, go_sem, getV, noF]) rfl ⟨rfl, (Keeps.refl _ _).alloc _⟩

set_option maxRecDepth 100000 in
set_option maxHeartbeats 1000000 in
theorem fget_long (b : ByteArray) (w : World) (h : 9 ≤ b.size) (hs : b.size ≤ 140737488355328) : Calls Try.prog 23 #[.string b] w fun e w' => e = .returned (getV (getA b)) ∧ Keeps nobody w w' := by
  have h1 : (b.extract 0 3).size ≤ 4 := by rw [extract_size _ _ _ (by omega)]; omega
  have h2 : (b.extract 5 9).size ≤ 4 := by rw [extract_size _ _ _ (by omega)]; omega
  have H1 : Hid (∀ w, Calls Try.prog 22 #[.string (b.extract 0 3)] w fun e w' => e = .returned (.int .i64 (numL (nums (b.extract 0 3)) : Int)) ∧ w = w') := fun w => of_ok _ w h1
  have H2 : Hid (∀ w, Calls Try.prog 22 #[.string (b.extract 5 9)] w fun e w' => e = .returned (.int .i64 (idOf b : Int)) ∧ w = w') := fun w => by
    have := of_ok (b.extract 5 9) w h2
    rw [idOf]
    exact this
  have he : endOf b = 9 + numL (nums (b.extract 0 3)) := by rw [endOf]
  have hel := endOf_lt b
  have hil := idOf_lt b
  clear h1 h2
  by_cases hw : endOf b ≤ b.size
  · have e : getA b = (firstA b, endOf b, 0) := by rw [getA, if_pos ⟨h, hw⟩]
    rw [e, firstA]
    have hand := and_31 (idOf b) (by omega)
    have i3 : ∀ w, (Instr.index 9 (.string b) (.int .i64 3)).run Try.prog w = .ok (.int .u8 (byteAt b 3 : Int)) w := fun w => by rw [← byteAt_get b 3 (by omega)]; exact index_at b 3 (by omega) w
    have i4 : ∀ w, (Instr.index 9 (.string b) (.int .i64 4)).run Try.prog w = .ok (.int .u8 (byteAt b 4 : Int)) w := fun w => by rw [← byteAt_get b 4 (by omega)]; exact index_at b 4 (by omega) w
    have y3 := byteAt_lt b 3
    have y4 := byteAt_lt b 4
    clear e
    generalize numL (nums (b.extract 0 3)) = m at *
    have hadd : (9 : Int) + (m : Int) = (endOf b : Int) := by omega
    have h9 : 9 ≤ endOf b := by omega
    clear he
    generalize endOf b = E at *
    generalize idOf b % 2147483648 = J at *
    generalize idOf b = I at *
    generalize byteAt b 3 = Y3 at *
    generalize byteAt b 4 = Y4 at *
    have hsl : ∀ w, (Instr.slice 9 (.string b) (some (.int .i64 9)) (some (.int .i64 (E : Int))) none).run Try.prog w = .ok (.string (b.extract 9 E)) w := fun w => slice_both b 9 E h9 hw w
    have hsl2 : ∀ w, (Instr.slice 9 (.string b) (some (.int .i64 5)) (some (.int .i64 9)) none).run Try.prog w = .ok (.string (b.extract 5 9)) w := fun w => slice_both b 5 9 (by omega) h w
    go_enter Try.func23, Try.ntmps23
    go_wp2_with fail
    refine Calls.mono (H1.out _) ?_
    rintro e w1 ⟨rfl, rfl⟩
    go_wp2_with fail
    refine Calls.mono (H1.out _) ?_
    rintro e w1 ⟨rfl, rfl⟩
    go_wp2_with fail
    have v3 := wrap_byte Y3 y3
    have v4 := wrap_byte Y4 y4
    go_region_law (go_simp; go_at_call 22; refine Calls.mono (H2.out _) ?_; rintro e wd ⟨rfl, rfl⟩)
    all_goals
      go_wp2
      exact bodyPost_ret (v := getV (⟨(Y3 : Int), (Y4 : Int), (J : Int), b.extract 9 E⟩, E, 0)) (by simp [results, Try.results23, go_sem, getV]) rfl ⟨rfl, ((Keeps.refl _ _).alloc _).drew⟩
  · have e : getA b = (noF, 0, 2) := by rw [getA, if_neg fun h => hw h.2]
    rw [e]
    clear e
    generalize numL (nums (b.extract 0 3)) = m at *
    have hadd : (9 : Int) + (m : Int) = (endOf b : Int) := by omega
    clear he
    generalize endOf b = E at *
    go_enter Try.func23, Try.ntmps23
    go_wp2_with fail
    refine Calls.mono (H1.out _) ?_
    rintro e w1 ⟨rfl, rfl⟩
    go_wp2
    exact bodyPost_ret (v := getV (noF, 0, 2)) (by simp [results, Try.results23, go_sem, getV, noF]) rfl ⟨rfl, (Keeps.refl _ _).alloc _⟩
theorem fget_ok (b : ByteArray) (w : World) (hs : b.size ≤ 140737488355328) : Calls Try.prog 23 #[.string b] w fun e w' => e = .returned (getV (getA b)) ∧ Keeps nobody w w' := by
  by_cases h : b.size < 9
  · exact fget_short b w h
  · exact fget_long b w (by omega) hs
end Go.Proofs.Ytkogkkjdcackcaa
