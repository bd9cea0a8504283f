/-
  The reference's PrefsPut: the same bytes.
-/
import Derived.Test.YtkjdklcmaomjnaaZRefB
import Derived.Test.YtkjdklcmaomjnaaZPut
import Derived.Deep.RegionHeld3
import Derived.Deep.DeepCutAuto
namespace Go.Proofs.Ytkjdklcmaomjnaa
open Go.RowKit

theorem six_bigs (L : List Nat) (i v : Nat) : str (L ++ sixN i v) = str L ++ str (bigL 2 i) ++ str (bigL 4 v) := by
  rw [bigL_two, bigL_four, str_join, str_join, List.append_assoc]
  rfl
attribute [local irreducible] numL nums str sixN sixL sixes bigL
set_option maxRecDepth 100000 in
set_option maxHeartbeats 2000000 in
theorem rput_ok {w : World} {a : Option Addr} (cap : Nat) {l : List Pf} {S : Nat → Prop} (h : PLies w a l S) (hl : l.length ≤ 1000000) : Calls Try.prog 12 #[.slice a l.length cap] w fun e w' => e = .returned (.tuple #[.string (putP l), .bool (decide (allIn l))]) ∧ Keeps nobody w w' := by
  have HB : Hid (∀ (V n : Nat) w, V < 4294967296 → 1 ≤ n → n ≤ 8 → Calls Try.prog 28 #[.int .i64 (V : Int), .int .i64 (n : Int)] w fun e w' => e = .returned (.string (str (bigL n V))) ∧ Keeps nobody w w') := fun V n w h1 h2 h3 => big_ok V n w h1 h2 h3
  have HL := hid h
  clear h
  have HY : Hid (allIn l → (putP l = str (sixes l) ∧ decide (allIn l) = true)) := fun h => ⟨if_pos h, decide_eq_true h⟩
  have HN : Hid (¬ allIn l → (putP l = ⟨#[]⟩ ∧ decide (allIn l) = false)) := fun h => ⟨if_neg h, decide_eq_false h⟩
  generalize putP l = P at *
  generalize hD : decide (allIn l) = D at *
  clear hD
  go_enter Try.func12, Try.ntmps12
  go_wp2
  go_loopg [4, 5] l.length (fun k s i wr => ∃ (j : Nat) (T : ByteArray), s = .string T ∧ i = .int .i64 (j : Int) ∧ k + j = l.length ∧ Hid (T = str (sixes (l.take j)) ∧ Keeps nobody w wr ∧ allIn (l.take j)))
  case atStart => exact ⟨0, ⟨#[]⟩, rfl, rfl, rfl, hid ⟨by rw [List.take_zero, sixes_nil]; exact (eq_empty_of_size _ (by rw [str_size]; simp)).symm, Keeps.refl _ _, by intro p hp; simp at hp⟩⟩
  case round =>
    obtain ⟨j, T, rfl, rfl, hk, HI⟩ := hrel
    by_cases hj : j < l.length
    · obtain ⟨r1, f1, rfl, hr1, _, d0, d1⟩ := (HL.out.quiet HI.out.2.1).at j hj
      have HE : Hid (l[j]'hj ∈ l) := List.getElem_mem hj
      have HS : Hid (sixes (l.take (j + 1)) = sixes (l.take j) ++ sixL (l[j]'hj)) := sixes_snoc hj
      have HT : Hid (inP (l[j]'hj) → allIn (l.take (j + 1))) := allIn_snoc hj HI.out.2.2
      have hts : T.size ≤ 6000000 := by
        rw [HI.out.1, str_size, sixes_length, List.length_take]
        omega
      generalize l[j]'hj = y at *
      obtain ⟨xi, xv⟩ := y
      simp only at d0 d1
      have HK := hid hk
      clear hk
      have HL2 : Hid (¬ inP (xi, xv) → ¬ allIn l) := fun h1 h2 => h1 (h2 _ HE.out)
      by_cases h1 : xi < 0
      · obtain ⟨e1, e2⟩ := HN.out (HL2.out fun h => by have := h.1.1; simp at this; omega)
        subst e1 e2
        clear HS HT HY HN
        go_wp2
        go_ret2
        exact ⟨rfl, HI.out.2.1⟩
      by_cases h2 : 65535 < xi
      · obtain ⟨e1, e2⟩ := HN.out (HL2.out fun h => by have := h.1.2; simp at this; omega)
        subst e1 e2
        clear HS HT HY HN
        go_wp2
        go_ret2
        exact ⟨rfl, HI.out.2.1⟩
      by_cases h3 : xv < 0
      · obtain ⟨e1, e2⟩ := HN.out (HL2.out fun h => by have := h.2.1; simp at this; omega)
        subst e1 e2
        clear HS HT HY HN
        go_wp2
        go_ret2
        exact ⟨rfl, HI.out.2.1⟩
      by_cases h4 : 4294967295 < xv
      · obtain ⟨e1, e2⟩ := HN.out (HL2.out fun h => by have := h.2.2; simp at this; omega)
        subst e1 e2
        clear HS HT HY HN
        go_wp2
        go_ret2
        exact ⟨rfl, HI.out.2.1⟩
      have hin : inP (xi, xv) := ⟨by simp; omega, by simp; omega⟩
      have HT1 := hid (HT.out hin)
      obtain ⟨xi, rfl⟩ := Int.eq_ofNat_of_zero_le (show 0 ≤ xi by omega)
      obtain ⟨xv, rfl⟩ := Int.eq_ofNat_of_zero_le (show 0 ≤ xv by omega)
      have HS1 : Hid (str (sixes (l.take (j + 1))) = T ++ str (bigL 2 xi) ++ str (bigL 4 xv)) := by
        have := HS.out
        rw [sixL] at this
        show _ = _
        rw [this, HI.out.1]
        exact six_bigs _ _ _
      have HK0 := hid HI.out.2.1
      have B1 : Hid (∀ W, Keeps nobody wr W → Calls Try.prog 28 #[.int .i64 (xi : Int), .int .i64 2] W fun e w' => e = .returned (.string (str (bigL 2 xi))) ∧ Keeps nobody wr w') := fun W hW => (HB.out xi 2 W (by omega) (by decide) (by decide)).mono fun e w' h => ⟨h.1, hW.then h.2⟩
      have B2 : Hid (∀ W, Keeps nobody wr W → Calls Try.prog 28 #[.int .i64 (xv : Int), .int .i64 4] W fun e w' => e = .returned (.string (str (bigL 4 xv))) ∧ Keeps nobody wr w') := fun W hW => (HB.out xv 4 W (by omega) (by decide) (by decide)).mono fun e w' h => ⟨h.1, hW.then h.2⟩
      have z1 : (str (bigL 2 xi)).size = 2 := by rw [str_size, bigL_two]; rfl
      have z2 : (str (bigL 4 xv)).size = 4 := by rw [str_size, bigL_four]; rfl
      have HD : Hid (∀ W, Keeps nobody wr W → W.cell? ⟨r1, f1 + j * 2, none⟩ = some (.int .i64 (xi : Int)) ∧ W.cell? ⟨r1, f1 + j * 2 + 1, none⟩ = some (.int .i64 (xv : Int))) := fun W hW => ⟨(hW.cell (p := ⟨r1, f1 + j * 2, none⟩) hr1 id).trans d0, (hW.cell (p := ⟨r1, f1 + j * 2 + 1, none⟩) hr1 id).trans d1⟩
      clear hin HT HS HI HL2 HE HB HN
      generalize str (bigL 2 xi) = X1 at *
      generalize str (bigL 4 xv) = X2 at *
      have q1 : (9223372036854775807 < T.size + 2) = False := by simp only [eq_iff_iff, iff_false]; omega
      have q2 : (9223372036854775807 < T.size + 2 + 4) = False := by simp only [eq_iff_iff, iff_false]; omega
      go_wp2_with fail
      go_region_held3 (fun w' => w'.cell? ⟨r1, f1 + j * 2, none⟩ = some (.int .i64 (xi : Int)) ∧ w'.cell? ⟨r1, f1 + j * 2 + 1, none⟩ = some (.int .i64 (xv : Int))) (first | go_keep | exact HD.out _ (by assumption)) ((first | (go_at_call_of 28 (xi : Int); refine Calls.mono (B1.out _ (by first | assumption | exact (Keeps.refl _ _).drew)) ?_; rintro e wq ⟨rfl, kq⟩) | (go_at_call_of 28 (xv : Int); refine Calls.mono (B2.out _ (by first | assumption | exact (Keeps.refl _ _).drew)) ?_; rintro e wq ⟨rfl, kq⟩)))
      all_goals
        clear HD B1 B2 d0 d1
        go_wp2
        have hk := HK.out
        go_roundg (gk - 1)
        case measure => omega
        case rel => exact ⟨j + 1, T ++ X1 ++ X2, rfl, by simp, by omega, hid ⟨HS1.out.symm, HK0.out.then (by assumption), HT1.out⟩⟩
    · have hall : l.take j = l := List.take_of_length_le (by omega)
      obtain ⟨i1, i2, i3⟩ := HI.out
      rw [hall] at i1 i3
      obtain ⟨e1, e2⟩ := HY.out i3
      rw [← e1] at i1
      subst i1 e2
      have HO := hid i2
      clear i2 i3 hall HI HY HN e1
      go_wp2
      go_ret2
      exact ⟨rfl, HO.out⟩
end Go.Proofs.Ytkjdklcmaomjnaa
