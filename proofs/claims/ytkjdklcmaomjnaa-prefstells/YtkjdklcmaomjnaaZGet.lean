/-
  Package prefs: Get.
-/
import Derived.Test.YtkjdklcmaomjnaaZCode
import Derived.Deep.RegionLaw
namespace Go.Proofs.Ytkjdklcmaomjnaa
open Go.RowKit
attribute [local irreducible] numL nums str pAt getK cutB getP

/-- A setting more behind the others. -/
theorem app_pref {w W : World} {vb : Value} {L : List Pf} (h : W.ownsRow w.heap.size 48 2 vb L.length (pcells L)) (hK : Keeps nobody w W) (hn : L.length ≤ 10000000) (i v : Int) :
    ∃ x n' c w', (Builtin.append_ #[22, 22] 22 #[vb, .slice (some ⟨W.heap.size, 0, none⟩) 1 1]).run Try.prog (W.alloc (.cells #[.int .i64 i, .int .i64 v] 48)) = .ok (.slice x n' c) w' ∧ w'.ownsRow w.heap.size 48 2 (.slice x n' c) (L ++ [(i, v)]).length (pcells (L ++ [(i, v)])) ∧ Keeps nobody w w' := by
  obtain ⟨i5, hi5, hz0, hz1, hz2⟩ := info_parts infoP
  have k2 := keeps_alloc W (.cells #[.int .i64 i, .int .i64 v] 48)
  obtain ⟨n0, n1⟩ := two_new (heap_alloc_new W (.cells #[.int .i64 i, .int .i64 v] 48))
  obtain ⟨v3, w3, a1, a2, a3, _⟩ := run_append_new (P := Try.prog) (base := w.heap.size) 22 22 48 i5 _ 2 16 Try.underlying22 hi5 hz0 hz1 hz2 rfl (by decide) (k2.row h fun _ _ => id) ⟨W.heap.size, 0, none⟩ 1 1 [.int .i64 i, .int .i64 v] rfl
    (by
      intro j u hu
      match j, hu with
      | 0, hu => simp at hu; subst hu; exact n0
      | 1, hu => simp at hu; subst hu; exact n1
      | j + 2, hu => simp at hu)
    (by intro u hu; simp at hu; rcases hu with rfl | rfl <;> rfl) (by unfold maxLen; omega) (by omega) (Nat.le_trans hK.size k2.size)
  obtain ⟨x, n', c, rfl⟩ := row_slice a2
  refine ⟨x, n', c, w3, a1, by rw [pcells_append, List.length_append]; exact a2, ?_⟩
  exact ((hK.then k2).mono fun _ _ e => e.elim).grown a3 fun k e => .inr (h.lt k e).1

abbrev GetPost (w : World) (b : ByteArray) (e : Ending) (w' : World) : Prop := ∃ x n c, e = .returned (.tuple #[.slice x n c, .bool (decide (b.size % 6 = 0))]) ∧ w'.ownsRow w.heap.size 48 2 (.slice x n c) (getP b).length (pcells (getP b)) ∧ Keeps nobody w w'
theorem pget_no (b : ByteArray) (w : World) (hs : b.size ≤ 10000000) (h6 : ¬ b.size % 6 = 0) : Calls Try.prog 13 #[.string b] w (GetPost w b) := by
  have e : getP b = [] := by unfold getP; rw [if_neg h6]
  unfold GetPost
  rw [e, decide_eq_false h6]
  clear e
  have h6' : ¬ (b.size : Int) % 6 = 0 := by omega
  clear h6
  go_enter Try.func13, Try.ntmps13
  go_wp2
  go_ret2
  exact ⟨none, 0, 0, rfl, World.ownsRow_nil _ _ _ _, Keeps.refl _ _⟩
set_option maxRecDepth 100000 in
set_option maxHeartbeats 4000000 in
theorem pget_yes (b : ByteArray) (w : World) (hs : b.size ≤ 10000000) (h6 : b.size % 6 = 0) : Calls Try.prog 13 #[.string b] w (GetPost w b) := by
  have e : getP b = getK b (b.size / 6) := by unfold getP; rw [if_pos h6]
  have HN : Hid (∀ s w, s.size ≤ 4 → Calls Try.prog 29 #[.string s] w fun e w' => e = .returned (.int .i64 (numL (nums s) : Int)) ∧ w = w') := fun s w h => pnumber_ok s w h
  unfold GetPost
  rw [e, decide_eq_true h6]
  have hE : 6 * (b.size / 6) = b.size := by omega
  generalize b.size / 6 = m at *
  have HG := hid hE
  have h6' : (b.size : Int) % 6 = 0 := by omega
  clear h6 e hE
  go_enter Try.func13, Try.ntmps13
  go_wp2
  clear h6'
  go_loopg [0, 4] m (fun k s v wr => ∃ (j : Nat) (x : Option Addr) (n c : Nat), s = .string (cutB b j) ∧ v = .slice x n c ∧ k + j = m ∧ Hid (wr.ownsRow w.heap.size 48 2 (.slice x n c) (getK b j).length (pcells (getK b j)) ∧ Keeps nobody w wr))
  case atStart => exact ⟨0, none, 0, 0, by rw [cutB_zero], rfl, rfl, hid ⟨by rw [getK_zero]; exact World.ownsRow_nil _ _ _ _, Keeps.refl _ _⟩⟩
  case round =>
    obtain ⟨j, x, n, c, rfl, rfl, hk, HI⟩ := hrel
    have hm := HG.out
    have hz := cutB_size b j
    by_cases hj : j < m
    · have hem : (cutB b j).toList.isEmpty = false := isEmpty_of_size _ (by omega)
      have hx : ((cutB b j).extract 6 (cutB b j).size) = cutB b (j + 1) := by rw [hz]; exact cutB_next b j (by omega)
      have s1 : ∀ w, (Instr.slice 9 (.string (cutB b j)) none (some (.int .i64 2)) none).run Try.prog w = .ok (.string ((cutB b j).extract 0 2)) w := by
        intro w
        rw [run_slice_string_h w 9 (cutB b j) Try.underlying9 .i64 (2 : Int) (by omega) (by omega)]
        rfl
      have s2 : ∀ w, (Instr.slice 9 (.string (cutB b j)) (some (.int .i64 2)) (some (.int .i64 6)) none).run Try.prog w = .ok (.string ((cutB b j).extract 2 6)) w := slice_both (cutB b j) 2 6 (by omega) (by omega)
      have s3 : ∀ w, (Instr.slice 9 (.string (cutB b j)) (some (.int .i64 6)) none none).run Try.prog w = .ok (.string (cutB b (j + 1))) w := by
        intro w
        rw [← hx]
        exact slice_from (cutB b j) 6 (by omega) w
      have z1 : ((cutB b j).extract 0 2).size ≤ 4 := by rw [extract_size _ _ _ (by omega)]; omega
      have z2 : ((cutB b j).extract 2 6).size ≤ 4 := by rw [extract_size _ _ _ (by omega)]; omega
      have H1 := hid fun w => HN.out _ w z1
      have H2 := hid fun w => HN.out _ w z2
      have HP : Hid (getK b (j + 1) = getK b j ++ [((numL (nums ((cutB b j).extract 0 2)) : Int), (numL (nums ((cutB b j).extract 2 6)) : Int))]) := by
        have := getK_succ b j
        unfold pAt at this
        rw [cutB_part, cutB_part]
        exact this
      have hnz : (cutB b j).size ≠ 0 := by omega
      clear z1 z2 hx
      generalize (cutB b j).extract 0 2 = X1 at *
      generalize (cutB b j).extract 2 6 = X2 at *
      generalize (numL (nums X1) : Int) = N1 at *
      generalize (numL (nums X2) : Int) = N2 at *
      generalize hC : cutB b (j + 1) = C1 at *
      generalize cutB b j = C0 at *
      have hlen : (getK b j).length ≤ 10000000 := by rw [getK_length]; omega
      obtain ⟨x2, n2, c2, w2, a1, a2, a3⟩ := app_pref (W := wr.drew) HI.out.1 HI.out.2.drew hlen N1 N2
      rw [← HP.out] at a2
      rw [show wr.drew.heap.size = wr.heap.size from rfl] at a1
      have RA := hid a1
      have RB := hid (And.intro a2 a3)
      have HK := hid hk
      clear a1 a2 a3 hk HN HP HI hm hz hlen
      go_wp2_with fail
      go_region_law (first | (go_simp; go_at_call_of 29 X1; refine Calls.mono (H1.out _) ?_; rintro e wd ⟨rfl, rfl⟩) | (go_simp; go_at_call_of 29 X2; refine Calls.mono (H2.out _) ?_; rintro e wd ⟨rfl, rfl⟩) | (refine step_append_run rfl (.tmp 13) (.tmp 21) 22 22 rfl (.slice x n c) (.slice (some ⟨wr.heap.size, 0, none⟩) 1 1) (by simp [Act.eval]) (by simp [Act.eval]) RA.out ?_))
      all_goals
        go_wp2
        have hk := HK.out
        go_roundg (gk - 1)
        case measure => omega
        case rel => exact ⟨j + 1, x2, n2, c2, by rw [hC], rfl, by omega, hid RB.out⟩
    · have hjm : j = m := by omega
      subst hjm
      have hc0 : cutB b j = ⟨#[]⟩ := eq_empty_of_size _ (by omega)
      rw [hc0]
      clear hc0 hz hm
      go_wp2
      go_ret2
      exact ⟨x, n, c, rfl, HI.out⟩
theorem row_len {w : World} {B : Nat} {e : TypeId} {size n c m : Nat} {x : Option Addr} {xs : List Value} (h : w.ownsRow B e size (.slice x n c) m xs) : n = m := by
  rcases h.2 with ⟨h1, h2⟩ | ⟨g, cap, cur, h1, _⟩
  · simp only [Value.slice.injEq] at h1
    omega
  · simp only [Value.slice.injEq] at h1
    exact h1.2.1
/-- The settings of a slice that the call owns. -/
abbrev Own (B : Nat) (w : World) (x : Option Addr) (c : Nat) (l : List Pf) : Prop := w.ownsRow B 48 2 (.slice x l.length c) l.length (pcells l)
theorem pget_ok (b : ByteArray) (w : World) (hs : b.size ≤ 10000000) : Calls Try.prog 13 #[.string b] w fun e w' => ∃ x c, e = .returned (.tuple #[.slice x (getP b).length c, .bool (decide (b.size % 6 = 0))]) ∧ Own w.heap.size w' x c (getP b) ∧ Keeps nobody w w' := by
  have h : Calls Try.prog 13 #[.string b] w (GetPost w b) := by
    by_cases h : b.size % 6 = 0
    · exact pget_yes b w hs h
    · exact pget_no b w hs h
  refine h.mono ?_
  rintro e w' ⟨x, n, c, rfl, h1, h2⟩
  obtain rfl := row_len h1
  exact ⟨x, c, rfl, h1, h2⟩
end Go.Proofs.Ytkjdklcmaomjnaa
