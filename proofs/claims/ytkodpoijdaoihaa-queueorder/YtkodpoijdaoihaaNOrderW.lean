/-
  The law QueueOrder, walked.
-/
import Derived.Test.YtkodpoijdaoihaaNRow
import Derived.Test.YtkodpoijdaoihaaGStr
namespace Go.Proofs.Ytkodpoijdaoihaa
open Go.RowKit

set_option maxRecDepth 100000 in
theorem order_bad (a : Option Addr) (c : Nat) (l : List Int) (back : Int) (w : World) (hl : l.length ≤ 140737488355328) (h : 60 < l.length) : Calls Try.prog 4 #[.slice a l.length c, .int .i64 back] w (Fine w) := by
  have HA : Hid (∀ W, Calls Try.prog 7 #[] W fun e w' => e = .returned (.bool true) ∧ Keeps nobody W w') := alive_ok
  go_enter Try.func4, Try.ntmps4
  go_wp2_with fail
  refine Calls.mono (HA.out _) ?_
  rintro e w1 ⟨rfl, k1⟩
  go_wp2
  go_ret
  exact ⟨rfl, below_of_keeps k1⟩
section
variable {w W : World} {g : Nat}
/-- The next one comes out. -/
theorem order_first {M : List Int} {j : Nat} {id : Int} {ts : List Thing} (H : HQ w W g 100 (M.drop j) ts) (hi : M[j]? = some id) (hl : M.length ≤ 61) : Calls Try.prog 9 #[.pointer (some ⟨g, 0, none⟩)] W fun e w' => e = .returned (.tuple #[.int .i64 id, .bool true]) ∧ Hid (HQ w w' g 100 (M.drop (j + 1)) ts) := by
  rw [drop_next hi] at H
  exact t_first H (by rw [List.length_drop]; omega)
theorem order_gone (w : World) (g : Nat) (M : List Int) (j : Nat) (id : Int) (ts : List Thing) (hn : M.Nodup) (hi : M[j]? = some id) (W : World) (H : HQ w W g 100 (M.drop (j + 1)) ts) : Calls Try.prog 13 #[.pointer (some ⟨g, 0, none⟩), .int .i64 id] W fun e w' => e = .returned (.int .i64 (-1)) ∧ W = w' := t_place H id (place_out (drop_gone hn hi))
end
set_option maxRecDepth 100000 in
set_option maxHeartbeats 4000000 in
theorem order_main (a : Option Addr) (b off c : Nat) (l : List Int) (back : Int) (w : World) (hn : l.length ≤ 60) (ha : Hid (l = [] ∨ a = some ⟨b, off, none⟩)) (HC : Hid (∀ W, Below w.heap.size w W → AtI W b off l)) : Calls Try.prog 4 #[.slice a l.length c, .int .i64 back] w (Fine w) := by
  have HA : Hid (∀ W, Calls Try.prog 7 #[] W fun e w' => e = .returned (.bool true) ∧ Keeps nobody W w') := alive_ok
  have HN : Hid (∀ W, Hold w W [] → Calls Try.prog 8 #[.int .i64 100] W fun e w' => ∃ g, e = .returned (.pointer (some ⟨g, 0, none⟩)) ∧ Hid (HQ w w' g 100 [] [])) := fun W H => t_new H 100 (by decide)
  go_enter Try.func4, Try.ntmps4
  go_wp2_with fail
  refine Calls.mono (HA.out _) ?_
  rintro e w0 ⟨rfl, k0⟩
  have H0 := hid ((hold_start w).quiet k0)
  clear HA k0
  go_wp2_with fail
  refine Calls.mono (HN.out _ H0.out) ?_
  rintro e w1 ⟨g, rfl, H1⟩
  clear H0 HN
  go_wp2_with fail
  go_loopg [6, 28] l.length (fun q wv iv wr => ∃ (j : Nat) (L : List Int) (x : Option Addr) (cc : Nat), wv = .slice x L.length cc ∧ iv = .int .i64 (j : Int) ∧ q + j = l.length ∧ Hid (L.Nodup ∧ L.length ≤ j ∧ HQ w wr g 100 L [numT x L.length cc L]))
  case atStart => exact ⟨0, [], none, 0, rfl, rfl, rfl, List.nodup_nil, Nat.le_refl _, H1.out.newnum⟩
  case round =>
    clear H1
    obtain ⟨j, L, x, cc, rfl, rfl, hk, HJ⟩ := hrel
    have hLj : L.length ≤ j := HJ.out.2.1
    by_cases hj : j < l.length
    · obtain rfl : a = some ⟨b, off, none⟩ := by
        rcases ha.out with h | h
        · rw [h] at hj; simp at hj
        · exact h
      obtain ⟨id, hx⟩ : ∃ x, l[j]? = some x := ⟨_, List.getElem?_eq_getElem hj⟩
      have c0 := HC.out _ HJ.out.2.2.below j id hx
      have HK := hid hk
      have hj60 : j ≤ 60 := by omega
      clear hk hx HC
      by_cases hm : id ∈ L
      · obtain ⟨i, hi, _⟩ := place_in hm
        have hP := hid (t_place HJ.out.2.2 id hi)
        have hY := hid (fun W H => t_put (W := w) (w := W) (g := g) (most := 100) (l := L) (ts := [numT x L.length cc L]) H (by omega) id (may_in hm) (put_no (by rw [may_in hm]; decide)))
        have hi0 : (0 : Int) ≤ (i : Int) := Int.natCast_nonneg i
        have HL := hid (And.intro HJ.out.1 hLj)
        have HW := hid HJ.out.2.2
        clear hi hm HJ hLj
        go_wp2_with fail
        refine Calls.mono hP.out ?_
        rintro e w2 ⟨rfl, rfl⟩
        go_wp2_with fail
        refine Calls.mono (hY.out _ HW.out) ?_
        rintro e w3 ⟨rfl, H3⟩
        go_wp2
        have hk := HK.out
        go_roundg (gk - 1)
        case measure => omega
        case rel => exact ⟨j + 1, L, x, cc, rfl, by simp, by omega, HL.out.1, Nat.le_succ_of_le HL.out.2, H3.out⟩
      · have hP := hid (t_place HJ.out.2.2 id (place_out hm))
        have hY := hid (fun W H => t_put (W := w) (w := W) (g := g) (most := 100) (l := L) (ts := [numT x L.length cc L]) H (by omega) id (may_yes hm (by omega)) (put_mem hm (by omega)))
        have hP2 := hid (fun W H => t_place (W := w) (w := W) (g := g) (most := 100) (l := L ++ [id]) (ts := [numT x L.length cc L]) H id (place_last HJ.out.1 hm))
        have hQ := hid (fun W (H : HQ w W g 100 (L ++ [id]) [numT x L.length cc L]) => q_more H (by omega) id)
        have HL : Hid ((L ++ [id]).Nodup ∧ L.length ≤ j) := ⟨nodup_more HJ.out.1 hm, hLj⟩
        have HW := hid HJ.out.2.2
        have hL60 : (L.length : Int) ≤ 60 := by omega
        clear hm HJ hLj
        go_wp2_with fail
        refine Calls.mono hP.out ?_
        rintro e w2 ⟨rfl, rfl⟩
        go_wp2_with fail
        refine Calls.mono (hY.out _ HW.out) ?_
        rintro e w3 ⟨rfl, H3⟩
        go_wp2_with fail
        refine Calls.mono (hP2.out _ H3.out) ?_
        rintro e w4 ⟨rfl, rfl⟩
        obtain ⟨x', c', w5, r, H5⟩ := hQ.out _ H3.out
        have R := hid r
        clear r hP hY hP2 hQ HW
        go_wp2_with (at_builtin; refine wpList_append_run rfl _ _ 32 32 rfl _ _ rfl rfl R.out ?_)
        have hk := HK.out
        go_roundg (gk - 1)
        case measure => omega
        case rel => exact ⟨j + 1, L ++ [id], x', c', by simp, by simp, by omega, HL.out.1, by rw [List.length_append]; have := HL.out.2; simp; omega, by rw [show (L ++ [id]).length = L.length + 1 by simp]; exact H5.out⟩
    · have hL60 : L.length ≤ 60 := by omega
      have hL60' : (L.length : Int) ≤ 60 := by omega
      have H2 := hid HJ.out.2.2
      have HD := hid HJ.out.1
      clear hk HC hLj HJ ha
      by_cases hm : back ∈ L
      · obtain ⟨i, hi, _⟩ := place_in hm
        have hP := hid (t_place H2.out back hi)
        have hi0 : (0 : Int) ≤ (i : Int) := Int.natCast_nonneg i
        clear hi hm
        go_wp2_with fail
        refine Calls.mono hP.out ?_
        rintro e w2 ⟨rfl, rfl⟩
        clear hP
        go_wp2_with fail
        obtain ⟨M, hM⟩ : ∃ M, M = L := ⟨_, rfl⟩
        obtain ⟨n, hMn⟩ : ∃ n, n = L.length := ⟨_, rfl⟩
        have hnM : n = M.length := by rw [hM, hMn]
        have hM61 : n ≤ 61 := by omega
        have hM61' : (n : Int) ≤ 61 := by omega
        have HM : Hid (M.Nodup ∧ n = M.length) := ⟨by rw [hM]; exact HD.out, hnM⟩
        rw [← hMn, ← hM] at H2
        rw [← hMn]
        clear hM hMn hnM
        go_wp2_with fail
        go_loopg [77] n (fun q iv wr => ∃ j : Nat, iv = .int .i64 (j : Int) ∧ q + j = n ∧ Hid (HQ w wr g 100 (M.drop j) [numT x n cc M]))
        case atStart => exact ⟨0, rfl, rfl, H2.out⟩
        case round =>
          clear H2
          obtain ⟨j, rfl, hq, HJ⟩ := hrel
          by_cases hjn : j < n
          · have hin : j < M.length := by have := HM.out.2; omega
            obtain ⟨id, hid1⟩ : ∃ id, M[j]? = some id := ⟨_, List.getElem?_eq_getElem hin⟩
            have hown : numR.Own 3 0 wr (.slice x n cc) M := by
              obtain ⟨v, h⟩ := HJ.out
              exact h.inv (numT x n cc M) (by simp)
            have hown' := hown
            obtain ⟨rb, rfl, _, _, hcap, hmax⟩ := own_some hown (by omega)
            have hcell := num_cell hown' j id hid1
            have hF := hid (order_first HJ.out hid1 (by have := HM.out.2; omega))
            have hP := hid (order_gone w g M j id [numT (some ⟨rb, 0, none⟩) n cc M] HM.out.1 hid1)
            have HK := hid hq
            have hj61 : (j : Int) ≤ 61 := by omega
            unfold maxLen at hmax
            have HCM := hid (And.intro hcap hmax)
            clear hq hin hid1 hown hown' HJ HM hcap hmax
            go_wp2_with fail
            refine Calls.mono hF.out ?_
            rintro e w6 ⟨rfl, H6⟩
            go_wp2_with fail
            refine Calls.mono (hP.out _ H6.out) ?_
            rintro e w7 ⟨rfl, rfl⟩
            go_wp2
            have hk := HK.out
            go_roundg (gk - 1)
            case measure => omega
            case rel => exact ⟨j + 1, by simp, by omega, H6⟩
          · have e0 : M.drop j = [] := List.drop_eq_nil_of_le (by have := HM.out.2; omega)
            rw [e0] at HJ
            have hF0 := hid (t_first0 HJ.out)
            have hL := hid (t_len HJ.out (by decide) (n := 0) rfl)
            clear hq e0 HM
            go_wp2_with fail
            refine Calls.mono hF0.out ?_
            rintro e w6 ⟨rfl, rfl⟩
            go_wp2_with fail
            refine Calls.mono hL.out ?_
            rintro e w7 ⟨xa, xc, rfl, H7⟩
            go_wp2
            go_ret
            exact ⟨rfl, H7.out.below⟩
      · have hP := hid (t_place H2.out back (place_out hm))
        have hB := hid (fun W H => t_back (W := w) (w := W) (g := g) (most := 100) (l := L) (ts := [numT x L.length cc L]) H (by omega) back (may_yes hm (by omega)) (back_yes (may_yes hm (by omega))))
        have hP2 := hid (fun W H => t_place (W := w) (w := W) (g := g) (most := 100) (l := back :: L) (ts := [numT x L.length cc L]) H back (place_front HD.out hm))
        have hQ := hid (fun W (H : HQ w W g 100 (back :: L) [numT x L.length cc L]) => q_ahead H (by omega) back)
        have HD2 : Hid ((back :: L).Nodup) := List.nodup_cons.2 ⟨hm, HD.out⟩
        clear hm HD
        go_wp2_with fail
        refine Calls.mono hP.out ?_
        rintro e w2 ⟨rfl, rfl⟩
        go_wp2_with fail
        refine Calls.mono (hB.out _ H2.out) ?_
        rintro e w3 ⟨rfl, H3⟩
        go_wp2_with fail
        refine Calls.mono (hP2.out _ H3.out) ?_
        rintro e w4 ⟨rfl, rfl⟩
        obtain ⟨x', c', w5, r, H5⟩ := hQ.out _ H3.out
        have R := hid r
        clear r hP hB hP2 hQ H2 H3
        obtain ⟨M, hM⟩ : ∃ M, M = back :: L := ⟨_, rfl⟩
        obtain ⟨n, hMn⟩ : ∃ n, n = L.length + 1 := ⟨_, rfl⟩
        have hnM : n = M.length := by rw [hM, hMn]; rfl
        have hM61 : n ≤ 61 := by omega
        have hM61' : (n : Int) ≤ 61 := by omega
        have HM : Hid (M.Nodup ∧ n = M.length) := ⟨by rw [hM]; exact HD2.out, hnM⟩
        rw [← hMn, ← hM] at H5
        rw [← hMn] at R
        clear hM hMn hnM
        go_wp2_with (at_builtin; refine wpList_append_run rfl _ _ 32 32 rfl _ _ rfl rfl R.out ?_)
        clear R
        go_loopg [77] n (fun q iv wr => ∃ j : Nat, iv = .int .i64 (j : Int) ∧ q + j = n ∧ Hid (HQ w wr g 100 (M.drop j) [numT x' n c' M]))
        case atStart => exact ⟨0, rfl, rfl, H5.out⟩
        case round =>
          clear H5
          obtain ⟨j, rfl, hq, HJ⟩ := hrel
          by_cases hjn : j < n
          · have hin : j < M.length := by have := HM.out.2; omega
            obtain ⟨id, hid1⟩ : ∃ id, M[j]? = some id := ⟨_, List.getElem?_eq_getElem hin⟩
            have hown : numR.Own 3 0 wr (.slice x' n c') M := by
              obtain ⟨v, h⟩ := HJ.out
              exact h.inv (numT x' n c' M) (by simp)
            have hown' := hown
            obtain ⟨rb, rfl, _, _, hcap, hmax⟩ := own_some hown (by omega)
            have hcell := num_cell hown' j id hid1
            have hF := hid (order_first HJ.out hid1 (by have := HM.out.2; omega))
            have hP := hid (order_gone w g M j id [numT (some ⟨rb, 0, none⟩) n c' M] HM.out.1 hid1)
            have HK := hid hq
            have hj61 : (j : Int) ≤ 61 := by omega
            unfold maxLen at hmax
            have HCM := hid (And.intro hcap hmax)
            clear hq hin hid1 hown hown' HJ HM hcap hmax
            go_wp2_with fail
            refine Calls.mono hF.out ?_
            rintro e w6 ⟨rfl, H6⟩
            go_wp2_with fail
            refine Calls.mono (hP.out _ H6.out) ?_
            rintro e w7 ⟨rfl, rfl⟩
            go_wp2
            have hk := HK.out
            go_roundg (gk - 1)
            case measure => omega
            case rel => exact ⟨j + 1, by simp, by omega, H6⟩
          · have e0 : M.drop j = [] := List.drop_eq_nil_of_le (by have := HM.out.2; omega)
            rw [e0] at HJ
            have hF0 := hid (t_first0 HJ.out)
            have hL := hid (t_len HJ.out (by decide) (n := 0) rfl)
            clear hq e0 HM
            go_wp2_with fail
            refine Calls.mono hF0.out ?_
            rintro e w6 ⟨rfl, rfl⟩
            go_wp2_with fail
            refine Calls.mono hL.out ?_
            rintro e w7 ⟨xa, xc, rfl, H7⟩
            go_wp2
            go_ret
            exact ⟨rfl, H7.out.below⟩
theorem order_walk (a : Option Addr) (c : Nat) (l : List Int) (back : Int) (w : World) (hi : Ints w a l) : Calls Try.prog 4 #[.slice a l.length c, .int .i64 back] w (Fine w) := by
  by_cases h : 60 < l.length
  · exact order_bad a c l back w hi.2 h
  · obtain ⟨b, off, h1, h2⟩ := hi.at
    exact order_main a b off c l back w (by omega) h1 h2
end Go.Proofs.Ytkodpoijdaoihaa
