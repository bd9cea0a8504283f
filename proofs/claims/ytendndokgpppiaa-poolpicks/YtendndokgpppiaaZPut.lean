/-
  Package prefs: Put.
-/
import Derived.Test.YtendndokgpppiaaZCode
namespace Go.Proofs.Ytendndokgpppiaa.Pf
open Go.RowKit
attribute [local irreducible] numL nums str sixN sixL sixes

theorem cells_six (i v : Nat) (hi : i ≤ 65535) (hv : v ≤ 4294967295) : cellsOf (sixN i v) = [.int .u8 ((i : Int) / 256), .int .u8 ((i : Int) % 256), .int .u8 ((v : Int) / 16777216), .int .u8 ((v : Int) / 65536 % 256), .int .u8 ((v : Int) / 256 % 256), .int .u8 ((v : Int) % 256)] := by
  unfold sixN
  simp [cellsOf]
  omega
theorem cellsOf_append (l m : List Nat) : cellsOf (l ++ m) = cellsOf l ++ cellsOf m := by simp [cellsOf]
theorem cellsOf_one (l : List Nat) : ∀ u ∈ cellsOf l, u.oneCell' = true := by
  intro u hu
  obtain ⟨x, _, rfl⟩ := List.mem_map.1 hu
  rfl
/-- Six bytes behind the others. -/
theorem app_six {w W : World} {vb : Value} {n : Nat} {L : List Nat} (h : W.ownsRow w.heap.size 5 1 vb n (cellsOf L)) (hK : Keeps nobody w W) (hn : n ≤ 10000000) (i v : Nat) (hi : i ≤ 65535) (hv : v ≤ 4294967295) :
    ∃ x n' c w', (Builtin.append_ #[99, 99] 99 #[vb, .slice (some ⟨W.heap.size, 0, none⟩) 6 6]).run Try.prog (W.alloc (.cells #[.int .u8 ((i : Int) / 256), .int .u8 ((i : Int) % 256), .int .u8 ((v : Int) / 16777216), .int .u8 ((v : Int) / 65536 % 256), .int .u8 ((v : Int) / 256 % 256), .int .u8 ((v : Int) % 256)] 5)) = .ok (.slice x n' c) w' ∧ w'.ownsRow w.heap.size 5 1 (.slice x n' c) (n + 6) (cellsOf (L ++ sixN i v)) ∧ Keeps nobody w w' := by
  obtain ⟨i5, hi5, hz0, hz1, hz2⟩ := info_parts info5
  have hc := cells_six i v hi hv
  have hl : (cellsOf (sixN i v)).length = 6 := by rw [hc]; rfl
  have hlit := World.ownsRow_lit (base := W.heap.size) (e := 5) (size := 1) W (cellsOf (sixN i v)).toArray 6 (Nat.le_refl _) (by unfold maxLen; decide) (by simp [hl])
  simp only [List.toArray, hc] at hlit
  have k2 := keeps_alloc W (.cells #[.int .u8 ((i : Int) / 256), .int .u8 ((i : Int) % 256), .int .u8 ((v : Int) / 16777216), .int .u8 ((v : Int) / 65536 % 256), .int .u8 ((v : Int) / 256 % 256), .int .u8 ((v : Int) % 256)] 5)
  obtain ⟨v3, w3, a1, a2, a3, _⟩ := run_append_new (P := Try.prog) (base := w.heap.size) 99 99 5 i5 _ 1 1 Try.underlying99 hi5 hz0 hz1 hz2 rfl (by decide) (k2.row h fun _ _ => id) ⟨W.heap.size, 0, none⟩ 6 6 (cellsOf (sixN i v)) (by rw [hl]) (by
    have := hlit.cells (g := W.heap.size) rfl
    rw [hc]
    exact this) (cellsOf_one _) (by unfold maxLen; omega) (by omega) (Nat.le_trans hK.size k2.size)
  obtain ⟨x, n', c, rfl⟩ := row_slice a2
  refine ⟨x, n', c, w3, a1, by rw [cellsOf_append]; exact a2, ?_⟩
  exact ((hK.then k2).mono fun _ _ e => e.elim).grown a3 fun k e => .inr (h.lt k e).1
theorem allIn_snoc {l : List Pf} {j : Nat} (hj : j < l.length) (h : allIn (l.take j)) (hi : inP (l[j]'hj)) : allIn (l.take (j + 1)) := by
  intro p hp
  rw [List.take_add_one, List.getElem?_eq_getElem hj] at hp
  rcases List.mem_append.1 hp with hp | hp
  · exact h p hp
  · simp at hp
    rw [hp]
    exact hi
theorem sixes_snoc {l : List Pf} {j : Nat} (hj : j < l.length) : sixes (l.take (j + 1)) = sixes (l.take j) ++ sixL (l[j]'hj) := by
  rw [List.take_add_one, List.getElem?_eq_getElem hj, sixes_append]
  simp [sixes_cons, sixes_nil]

set_option maxRecDepth 100000 in
set_option maxHeartbeats 2000000 in
theorem put_ok {w : World} {a : Option Addr} (cap : Nat) {l : List Pf} {S : Nat → Prop} (h : PLies w a l S) (hl : l.length ≤ 1000000) : Calls Try.prog 49 #[.slice a l.length cap] w fun e w' => e = .returned (.tuple #[.string (putP l), .bool (decide (allIn l))]) ∧ Keeps nobody w w' := by
  have HW : Hid (∀ n a b w, Calls Try.prog 48 #[.int .i64 n, .int .i64 a, .int .i64 b] w fun e w' => e = .returned (.bool (decide (a ≤ n ∧ n ≤ b))) ∧ w = w') := pwithin_ok
  have HL := hid h
  clear h
  obtain ⟨i5, hi5, hz0, hz1, hz2⟩ := info_parts info5
  have HY : Hid (allIn l → (putP l = str (sixes l) ∧ decide (allIn l) = true)) := fun h => ⟨if_pos h, decide_eq_true h⟩
  have HN : Hid (¬ allIn l → (putP l = ⟨#[]⟩ ∧ decide (allIn l) = false)) := fun h => ⟨if_neg h, decide_eq_false h⟩
  generalize putP l = P at *
  generalize hD : decide (allIn l) = D at *
  clear hD
  go_enter Try.func49, Try.ntmps49
  go_wp2_with (refine wpList_make_own _ rfl _ _ 99 rfl w.heap.size 5 i5 _ 1 Try.underlying99 hi5 hz0 hz1 .i64 .i64 (6 * (l.length : Int)) (6 * l.length) rfl rfl (by omega) (by rw [hz2]; omega) (by unfold maxLen; omega) (Nat.le_refl _) fun wm hm2 hm3 => ?_)
  have HM := hid (And.intro hm2 (keeps_of_grown hm3))
  clear hm2 hm3 hz0 hz1 hz2 hi5 i5
  go_loopg [4, 15] l.length (fun k b i wr => ∃ (j : Nat) (x : Option Addr) (n c : Nat), b = .slice x n c ∧ i = .int .i64 (j : Int) ∧ k + j = l.length ∧ Hid (wr.ownsRow w.heap.size 5 1 (.slice x n c) (6 * j) (cellsOf (sixes (l.take j))) ∧ Keeps nobody w wr ∧ allIn (l.take j)))
  case atStart => exact ⟨0, _, _, _, rfl, rfl, rfl, hid ⟨by simpa [sixes_nil, cellsOf] using HM.out.1, HM.out.2, by intro p hp; simp at hp⟩⟩
  case round =>
    obtain ⟨j, x, n, c, rfl, rfl, hk, HI⟩ := hrel
    by_cases hj : j < l.length
    · obtain ⟨r1, f1, rfl, hr1, _, d0, d1⟩ := (HL.out.quiet HI.out.2.1).at j hj
      have HE : Hid (l[j]'hj ∈ l) := List.getElem_mem hj
      have HS : Hid (sixes (l.take (j + 1)) = sixes (l.take j) ++ sixL (l[j]'hj)) := sixes_snoc hj
      have HT : Hid (inP (l[j]'hj) → allIn (l.take (j + 1))) := allIn_snoc hj HI.out.2.2
      generalize l[j]'hj = y at *
      obtain ⟨xi, xv⟩ := y
      simp only at d0 d1
      have HK := hid hk
      clear hk
      have HL2 : Hid (¬ inP (xi, xv) → ¬ allIn l) := fun h1 h2 => by
        exact h1 (h2 _ HE.out)
      go_wp2_with fail
      refine Calls.mono (HW.out _ _ _ _) ?_
      rintro e w1 ⟨rfl, rfl⟩
      by_cases hi : 0 ≤ xi ∧ xi ≤ 65535
      · rw [decide_eq_true hi]
        obtain ⟨hi1, hi2⟩ := hi
        obtain ⟨xi, rfl⟩ := Int.eq_ofNat_of_zero_le hi1
        go_wp2_with fail
        refine Calls.mono (HW.out _ _ _ _) ?_
        rintro e w1 ⟨rfl, rfl⟩
        by_cases hv : 0 ≤ xv ∧ xv ≤ 4294967295
        · rw [decide_eq_true hv]
          have hin : inP ((xi : Int), xv) := ⟨⟨hi1, hi2⟩, hv⟩
          have HT1 := hid (HT.out hin)
          obtain ⟨hv1, hv2⟩ := hv
          obtain ⟨xv, rfl⟩ := Int.eq_ofNat_of_zero_le hv1
          have HS1 : Hid (sixes (l.take (j + 1)) = sixes (l.take j) ++ sixN xi xv) := by
            have := HS.out
            rw [sixL] at this
            exact this
          clear hin HT HS
          go_wp2_with fail
          go_quiet (fail)
          have hK1 : Keeps nobody w ((wr.alloc (.cells #[.int .i64 (xi : Int), .int .i64 (xv : Int)] 88)).drewN nq) := ⟨HI.out.2.1.os, HI.out.2.1.tape, HI.out.2.1.output, (HI.out.2.1.alloc _).size, (HI.out.2.1.alloc _).block⟩
          have kq : Keeps nobody wr ((wr.alloc (.cells #[.int .i64 (xi : Int), .int .i64 (xv : Int)] 88)).drewN nq) := ⟨rfl, rfl, rfl, (keeps_alloc wr _).size, (keeps_alloc wr _).block⟩
          obtain ⟨x2, n2, c2, w2, a1, a2, a3⟩ := app_six (kq.row HI.out.1 fun _ _ => id) hK1 (by omega) xi xv (by omega) (by omega)
          rw [← HS1.out] at a2
          have hz : ((wr.alloc (.cells #[.int .i64 (xi : Int), .int .i64 (xv : Int)] 88)).drewN nq).heap.size = wr.heap.size + 1 := by simp
          rw [hz] at a1
          clear hz
          have HA := hid a1
          have HB := hid (And.intro a2 (And.intro a3 HT1.out))
          clear a1 a2 a3 hK1 kq HI HS1 HT1
          go_wp2_with (at_builtin; refine wpList_append_run rfl _ _ 99 99 rfl _ _ rfl rfl HA.out ?_)
          have hk := HK.out
          go_roundg (gk - 1)
          case measure => omega
          case rel => exact ⟨j + 1, x2, n2, c2, rfl, by simp, by omega, hid ⟨by rw [show 6 * (j + 1) = 6 * j + 6 by omega]; exact HB.out.1, HB.out.2⟩⟩
        · rw [decide_eq_false hv]
          obtain ⟨e1, e2⟩ := HN.out (HL2.out fun h => hv h.2)
          have HO := hid (HI.out.2.1.alloc (.cells #[.int .i64 (xi : Int), .int .i64 xv] 88))
          subst e1 e2
          clear HI HS HT HY HN
          go_wp2
          go_ret2
          exact ⟨rfl, HO.out⟩
      · rw [decide_eq_false hi]
        obtain ⟨e1, e2⟩ := HN.out (HL2.out fun h => hi h.1)
        have HO := hid (HI.out.2.1.alloc (.cells #[.int .i64 xi, .int .i64 xv] 88))
        subst e1 e2
        clear HI HS HT HY HN
        go_wp2
        go_ret2
        exact ⟨rfl, HO.out⟩
    · have hall : l.take j = l := List.take_of_length_le (by omega)
      obtain ⟨i1, i2, i3⟩ := HI.out
      rw [hall] at i1 i3
      obtain ⟨e1, e2⟩ := HY.out i3
      have hcv := conv_own wr w.heap.size (.slice x n c) (6 * j) (sixes l) _ i1 rfl
      rw [← e1] at hcv
      subst e2
      have HO := hid i2
      clear i1 i2 i3 hall HI HY HN e1
      go_wp2
      go_ret2
      exact ⟨rfl, HO.out⟩
end Go.Proofs.Ytendndokgpppiaa.Pf
