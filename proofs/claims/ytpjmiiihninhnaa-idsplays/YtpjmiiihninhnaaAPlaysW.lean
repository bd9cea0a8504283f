/-
  The law IdsPlays, walked.
-/
import Derived.Test.YtpjmiiihninhnaaARef
import Derived.Test.YtpjmiiihninhnaaGInts
import Derived.Deep.DeepCutAuto
import Derived.Deep.QuietTactic
import Derived.BigQuiet
import Derived.Deep.RegionHeld3
namespace Go.Proofs.Ytpjmiiihninhnaa
open Go.RowKit

set_option maxRecDepth 100000 in
theorem plays_bad (first n : Int) (a : Option Addr) (c : Nat) (l : List Int) (w : World) (hl : l.length ≤ 140737488355328) (h : n < 0 ∨ 300 < n ∨ 60 < l.length) : Calls Try.prog 3 #[.int .i64 first, .int .i64 n, .slice a l.length c] w (Fine w) := by
  have HA : Hid (∀ W, Calls Try.prog 6 #[] W fun e w' => e = .returned (.bool true) ∧ Keeps nobody W w') := alive_ok
  by_cases q0 : n < 0
  · clear h
    go_enter Try.func3, Try.ntmps3
    go_wp2_with fail
    refine Calls.mono (HA.out _) ?_
    rintro e w1 ⟨rfl, k1⟩
    go_wp2
    go_ret
    exact ⟨rfl, below_of_keeps k1⟩
  · have p0 : 0 ≤ n := by omega
    by_cases q1 : 300 < n
    · clear h
      go_enter Try.func3, Try.ntmps3
      go_wp2_with fail
      refine Calls.mono (HA.out _) ?_
      rintro e w1 ⟨rfl, k1⟩
      go_wp2
      go_ret
      exact ⟨rfl, below_of_keeps k1⟩
    · have p1 : n ≤ 300 := by omega
      have q2 : 60 < l.length := by omega
      clear h q0 q1
      go_enter Try.func3, Try.ntmps3
      go_wp2_with fail
      refine Calls.mono (HA.out _) ?_
      rintro e w1 ⟨rfl, k1⟩
      go_wp2
      go_ret
      exact ⟨rfl, below_of_keeps k1⟩
set_option maxRecDepth 100000 in
theorem plays_none (first n : Int) (a : Option Addr) (c : Nat) (l : List Int) (w : World) (h1 : 0 ≤ n) (h2 : n ≤ 300) (h3 : l.length ≤ 60) (h : rightB first = false) : Calls Try.prog 3 #[.int .i64 first, .int .i64 n, .slice a l.length c] w (Fine w) := by
  have HA : Hid (∀ W, Calls Try.prog 6 #[] W fun e w' => e = .returned (.bool true) ∧ Keeps nobody W w') := alive_ok
  have HN : Hid (∀ W, Calls Try.prog 7 #[.int .i64 first] W fun e w' => e = .returned (.pointer none) ∧ W = w') := fun W => new_no first W h
  have HX : Hid (∀ W, Calls Try.prog 8 #[.pointer none] W fun e w' => e = .returned (.tuple #[.int .i64 0, .bool false]) ∧ W = w') := next_nil
  have HL : Hid (∀ W, Calls Try.prog 9 #[.pointer none] W fun e w' => e = .returned (.bool false) ∧ W = w') := left_nil
  have HK : Hid (∀ W, Calls Try.prog 10 #[.pointer none, .int .i64 1] W fun e w' => e = .returned (.int .i64 0) ∧ W = w') := kind_nil 1
  have hno := (right_off first).1 h
  clear h
  by_cases f1 : 1 ≤ first
  · by_cases f2 : first ≤ 2147483647
    · have hr := rem_two (show 0 ≤ first by omega)
      rw [show first % 2 = 0 by omega] at hr
      clear hno
      go_enter Try.func3, Try.ntmps3
      go_wp2_with fail
      refine Calls.mono (HA.out _) ?_
      rintro e w1 ⟨rfl, k1⟩
      go_wp2_with fail
      refine Calls.mono (HN.out _) ?_
      rintro e w2 ⟨rfl, rfl⟩
      go_wp2_with fail
      refine Calls.mono (HX.out _) ?_
      rintro e w3 ⟨rfl, rfl⟩
      go_wp2_with fail
      refine Calls.mono (HL.out _) ?_
      rintro e w4 ⟨rfl, rfl⟩
      go_wp2_with fail
      refine Calls.mono (HK.out _) ?_
      rintro e w5 ⟨rfl, rfl⟩
      go_wp2
      go_ret
      exact ⟨rfl, below_of_keeps k1⟩
    · clear hno
      go_enter Try.func3, Try.ntmps3
      go_wp2_with fail
      refine Calls.mono (HA.out _) ?_
      rintro e w1 ⟨rfl, k1⟩
      go_wp2_with fail
      refine Calls.mono (HN.out _) ?_
      rintro e w2 ⟨rfl, rfl⟩
      go_wp2_with fail
      refine Calls.mono (HX.out _) ?_
      rintro e w3 ⟨rfl, rfl⟩
      go_wp2_with fail
      refine Calls.mono (HL.out _) ?_
      rintro e w4 ⟨rfl, rfl⟩
      go_wp2_with fail
      refine Calls.mono (HK.out _) ?_
      rintro e w5 ⟨rfl, rfl⟩
      go_wp2
      go_ret
      exact ⟨rfl, below_of_keeps k1⟩
  · clear hno
    go_enter Try.func3, Try.ntmps3
    go_wp2_with fail
    refine Calls.mono (HA.out _) ?_
    rintro e w1 ⟨rfl, k1⟩
    go_wp2_with fail
    refine Calls.mono (HN.out _) ?_
    rintro e w2 ⟨rfl, rfl⟩
    go_wp2_with fail
    refine Calls.mono (HX.out _) ?_
    rintro e w3 ⟨rfl, rfl⟩
    go_wp2_with fail
    refine Calls.mono (HL.out _) ?_
    rintro e w4 ⟨rfl, rfl⟩
    go_wp2_with fail
    refine Calls.mono (HK.out _) ?_
    rintro e w5 ⟨rfl, rfl⟩
    go_wp2
    go_ret
    exact ⟨rfl, below_of_keeps k1⟩
theorem wrap_fits (n : Int) (h1 : -9223372036854775808 ≤ n) (h2 : n ≤ 9223372036854775807) : IntKind.i64.wrap n = n := by
  simp [IntKind.wrap, IntKind.bits, IntKind.signed]
  omega
/-- The numbers that are asked for at the end. -/
def tailL (first a : Int) : List Int := [first, first - 2, a, a - 2, 2147483647]
theorem tail_len (first a : Int) : (tailL first a).length = 5 := rfl
theorem new_first (first : Int) : (newI first).first = first := rfl
/-- As a region that draws wants it. -/
theorem left_drew {W w : World} {g : Nat} {x : Idd} {ts : List Thing} (H : Hold W w (idT g x :: ts)) (F : Fit x) {o : Bool} (ho : leftI x = o) (k : Nat) : Calls Try.prog 9 #[.pointer (some ⟨g, 0, none⟩)] (w.drewN k) fun e w' => e = .returned (.bool o) ∧ w' = w.drewN k :=
  (t_left (H.quiet ((Keeps.refl _ _).drewN k)) F.first1 ho).mono fun _ _ h => ⟨h.1, h.2.symm⟩
theorem left_yes {x : Idd} (h : x.last ≤ 2147483645) : leftI x = true := decide_eq_true h
theorem left_no {x : Idd} (h : ¬ x.last ≤ 2147483645) : leftI x = false := decide_eq_false h
theorem next_yes {x : Idd} (h : x.last ≤ 2147483645) : nextI x = (⟨x.first, x.last + 2⟩, x.last + 2, true) := if_pos h
theorem next_no {x : Idd} (h : ¬ x.last ≤ 2147483645) : nextI x = (x, 0, false) := if_neg h
theorem next_yes_fit {x : Idd} (F : Fit x) (h : x.last ≤ 2147483645) : Fit ⟨x.first, x.last + 2⟩ := by
  have := next_fit F
  rwa [next_yes h] at this
theorem start_both {W w : World} {g r : Nat} {first : Int} (H : Hold W w [idT g (newI first), rfT r first first]) : Hold W w (both g r (newI first)) := by
  have e : (newI first).last + 2 = first := by show first - 2 + 2 = first; omega
  show Hold W w [idT g (newI first), rfT r first ((newI first).last + 2)]
  rw [e]
  exact H
attribute [local irreducible] nextI leftI kindI newI rkind
set_option maxRecDepth 100000 in
set_option maxHeartbeats 4000000 in
theorem plays_main (first : Int) (n : Nat) (a : Option Addr) (c : Nat) (l : List Int) (w : World) (hi : Ints w a l) (h2 : n ≤ 300) (h3 : l.length ≤ 60) (h : rightB first = true) : Calls Try.prog 3 #[.int .i64 first, .int .i64 (n : Int), .slice a l.length c] w (Fine w) := by
  have HA : Hid (∀ W, Calls Try.prog 6 #[] W fun e w' => e = .returned (.bool true) ∧ Keeps nobody W w') := alive_ok
  have HN : Hid (∀ W, Hold w W [] → Calls Try.prog 7 #[.int .i64 first] W fun e w' => ∃ g, e = .returned (.pointer (some ⟨g, 0, none⟩)) ∧ Hid (Hold w w' [idT g (newI first)])) := fun W H => t_new H first h
  have HX : Hid (∀ W g r x y m o, Hold w W (both g r x) → Fit x → nextI x = (y, m, o) → Calls Try.prog 8 #[.pointer (some ⟨g, 0, none⟩)] W fun e w' => e = .returned (.tuple #[.int .i64 m, .bool o]) ∧ Hid (Hold w w' [idT g y, rfT r x.first (x.last + 2)])) := fun W g r x y m o H F hr => both_next H F hr
  have HR : Hid (∀ W g r x, Hold w W [idT g ⟨x.first, x.last + 2⟩, rfT r x.first (x.last + 2)] → Fit x → x.last ≤ 2147483645 → Calls Try.prog 11 #[.pointer (some ⟨r, 0, none⟩)] W fun e w' => e = .returned (.tuple #[.int .i64 (x.last + 2), .bool true]) ∧ Hid (Hold w w' (both g r ⟨x.first, x.last + 2⟩))) := fun W g r x H F hl => both_rmore H F hl
  have HR0 : Hid (∀ W g r x, Hold w W (both g r x) → ¬ x.last ≤ 2147483645 → Calls Try.prog 11 #[.pointer (some ⟨r, 0, none⟩)] W fun e w' => e = .returned (.tuple #[.int .i64 0, .bool false]) ∧ Hid (Hold w w' (both g r x))) := fun W g r x H hl => both_rlast H hl
  obtain ⟨f1, f2, f3⟩ := (right_iff first).1 h
  have hr := rem_two (show 0 ≤ first by omega)
  rw [f3] at hr
  have hF := hid (new_fit h)
  have HIn := hid hi.lies
  clear f3 h hi
  go_enter Try.func3, Try.ntmps3
  go_wp2_with fail
  refine Calls.mono (HA.out _) ?_
  rintro e w0 ⟨rfl, k0⟩
  have H0 := hid ((hold_start w).quiet k0)
  clear HA k0
  go_wp2_with fail
  refine Calls.mono (HN.out _ H0.out) ?_
  rintro e w1 ⟨g, rfl, H1⟩
  clear H0 HN
  have H2 : Hid (Hold w (w1.alloc (.cells #[.int .i64 first, .int .i64 first] 31)) [idT g (newI first), rfT w1.heap.size first first]) := H1.out.newrec2 _ _
  go_wp2_with fail
  go_loopg [12] n (fun q iv wr => ∃ (k : Nat) (x : Idd), iv = .int .i64 (k : Int) ∧ q + k = n ∧ Hid (Fit x ∧ x.first = first ∧ Hold w wr (both g w1.heap.size x)))
  case atStart => exact ⟨0, newI first, rfl, rfl, hF.out, new_first first, start_both H2.out⟩
  case round =>
    clear H2
    obtain ⟨k, x, rfl, hk, HJ⟩ := hrel
    by_cases hkn : k < n
    · have HK := hid hk
      have hk3 : k ≤ 300 := by omega
      clear hk
      have b1 := HJ.out.1.last1
      have b2 := HJ.out.1.lastM
      by_cases hl : x.last ≤ 2147483645
      · have hl2 : x.last + 2 ≤ 2147483647 := by omega
        have Hc := hid (rf_cells (HJ.out.2.2.inv (rfT w1.heap.size x.first (x.last + 2)) (by simp)))
        have hL := hid (left_drew HJ.out.2.2 HJ.out.1 (left_yes hl))
        have hX := hid (fun k => HX.out _ _ _ _ _ _ _ (HJ.out.2.2.quiet ((Keeps.refl _ _).drewN k)) HJ.out.1 (next_yes hl))
        have hR := hid (fun W H => HR.out W g w1.heap.size x H HJ.out.1 hl)
        obtain ⟨c0, c1, _⟩ := Hc.out
        clear Hc HX HR HR0
        go_wp2_with fail
        go_quiet (first | (go_at_call 9; exact Calls.quiet_of_same (hL.out _)))
        go_wp2_with fail
        refine Calls.mono (hX.out _) ?_
        rintro e w3 ⟨rfl, H3⟩
        go_wp2_with fail
        refine Calls.mono (hR.out _ H3.out) ?_
        rintro e w4 ⟨rfl, H4⟩
        go_wp2
        have hk := HK.out
        go_roundg (gk - 1)
        case measure => omega
        case rel => exact ⟨k + 1, ⟨x.first, x.last + 2⟩, by simp, by omega, next_yes_fit HJ.out.1 hl, HJ.out.2.1, H4.out⟩
      · have hl2 : 2147483647 < x.last + 2 := by omega
        have Hc := hid (rf_cells (HJ.out.2.2.inv (rfT w1.heap.size x.first (x.last + 2)) (by simp)))
        have hL := hid (left_drew HJ.out.2.2 HJ.out.1 (left_no hl))
        have hX := hid (fun k => HX.out _ _ _ _ _ _ _ (HJ.out.2.2.quiet ((Keeps.refl _ _).drewN k)) HJ.out.1 (next_no hl))
        have hR := hid (fun W H => HR0.out W g w1.heap.size x H (by omega))
        obtain ⟨c0, c1, _⟩ := Hc.out
        clear Hc HX HR HR0
        go_wp2_with fail
        go_quiet (first | (go_at_call 9; exact Calls.quiet_of_same (hL.out _)))
        go_wp2_with fail
        refine Calls.mono (hX.out _) ?_
        rintro e w3 ⟨rfl, H3⟩
        go_wp2_with fail
        refine Calls.mono (hR.out _ H3.out) ?_
        rintro e w4 ⟨rfl, H4⟩
        go_wp2
        have hk := HK.out
        go_roundg (gk - 1)
        case measure => omega
        case rel => exact ⟨k + 1, x, by simp, by omega, HJ.out.1, HJ.out.2.1, H4.out⟩
    · have hkn0 := hkn
      have hkn' : k = n := by omega
      subst hkn'
      clear hk hkn HX HR HR0
      have HF := hid HJ.out.1
      have HE := hid HJ.out.2.1
      have HH := hid HJ.out.2.2
      have b1 := HF.out.last1
      have b2 := HF.out.lastM
      clear HJ
      obtain ⟨p, hp⟩ : ∃ p, p = x.last + 2 := ⟨_, rfl⟩
      have HP := hid hp
      have Hc := hid (rf_cells (HH.out.inv (rfT w1.heap.size x.first (x.last + 2)) (by simp)))
      obtain ⟨c0, c1, _⟩ := Hc.out
      rw [← hp] at c1
      have p1 : 1 ≤ p := by omega
      have p2 : p ≤ 2147483649 := by omega
      clear Hc hp b1 b2
      have hw1 := wrap_fits (first - 2) (by omega) (by omega)
      have hw2 := wrap_fits (p - 2) (by omega) (by omega)
      have hlt : w1.heap.size < wr.heap.size := HH.out.lt (t := rfT w1.heap.size x.first (x.last + 2)) (by simp) _ rfl
      have HW := hid (HH.out.quiet (Keeps.refl _ _).drew)
      have LI := HIn.out.quiet (keeps_of_below HW.out.below)
      obtain ⟨x1, d1, v1, r1, R1⟩ := num_copied LI c (by omega)
      obtain ⟨x2, d2, v2, r2, R2⟩ := num_behind (R1.out.quiet (keeps_alloc _ _)) (num_lit (w := v1) (tailL first p) #[.int .i64 first, .int .i64 (first - 2), .int .i64 p, .int .i64 (p - 2), .int .i64 2147483647] rfl) 5 5 rfl (by omega)
      obtain ⟨x3, d3, v3, r3, R3⟩ := num_copied (LI.quiet (keeps_alloc wr.drew (.cells #[.int .i64 first, .int .i64 (first - 2), .int .i64 p, .int .i64 (p - 2), .int .i64 2147483647] 3))) c (by omega)
      have LF := (num_lit (w := wr.drew) (tailL first p) #[.int .i64 first, .int .i64 (first - 2), .int .i64 p, .int .i64 (p - 2), .int .i64 2147483647] rfl).quiet (keeps_of_below R3.out.below)
      obtain ⟨x4, d4, v4, r4, R4⟩ := num_behind R3.out LF 5 5 rfl (by omega)
      have q1 := keeps_of_below R1.out.below
      have q2 := keeps_of_below R2.out.below
      have q3 := (keeps_alloc wr.drew (.cells #[.int .i64 first, .int .i64 (first - 2), .int .i64 p, .int .i64 (p - 2), .int .i64 2147483647] 3)).then (keeps_of_below R3.out.below)
      have q4 := (keeps_alloc wr.drew (.cells #[.int .i64 first, .int .i64 (first - 2), .int .i64 p, .int .i64 (p - 2), .int .i64 2147483647] 3)).then (keeps_of_below R4.out.below)
      have E1 : Hid (v1.cell? ⟨w1.heap.size, 1, none⟩ = some (.int .i64 p)) := (q1.cell (p := ⟨w1.heap.size, 1, none⟩) hlt id).trans c1
      have E2 : Hid (v2.cell? ⟨w1.heap.size, 1, none⟩ = some (.int .i64 p)) := (q2.cell (p := ⟨w1.heap.size, 1, none⟩) hlt id).trans c1
      have E3 : Hid (v3.cell? ⟨w1.heap.size, 1, none⟩ = some (.int .i64 p)) := (q3.cell (p := ⟨w1.heap.size, 1, none⟩) hlt id).trans c1
      have E4 : Hid (v4.cell? ⟨w1.heap.size, 1, none⟩ = some (.int .i64 p)) := (q4.cell (p := ⟨w1.heap.size, 1, none⟩) hlt id).trans c1
      have RR1 := hid r1
      have RR2 := hid r2
      have RR3 := hid r3
      have RR4 := hid r4
      have HX := hid (HW.out.join R2.out)
      have HY := hid ((HW.out.quiet (keeps_alloc _ _)).join R4.out)
      clear r1 r2 r3 r4 LF LI R1 R2 R3 R4 q1 q2 q3 q4
      go_wp2_with fail
      go_cut [121, 122, 123] (fun v n i wx => ∃ y d, v = .slice y (l.length + 5) d ∧ n = .int .i64 ((l.length : Int) + 5) ∧ i = .int .i64 0 ∧ Hid (Hold w wx (numT y (l.length + 5) d (l ++ tailL first p) :: both g w1.heap.size x)))
      case first =>
        go_region_held3 (fun w' => w'.cell? ⟨w1.heap.size, 1, none⟩ = some (.int .i64 p)) (first | exact E1.out | exact E2.out | exact E3.out | exact E4.out | go_keep) ((first | (refine step_append_run rfl (.const (.slice none 0 0)) (.tmp 106) 22 22 rfl (.slice none 0 0) (.slice a l.length c) (by rfl) (by rfl) (by first | exact RR1.out | exact RR3.out) ?_) | (refine step_append_run rfl (.tmp 107) (.tmp 120) 22 22 rfl (.slice x1 l.length d1) (.slice (some ⟨v1.heap.size, 0, none⟩) 5 5) (by rfl) (by rfl) RR2.out ?_) | (refine step_append_run rfl (.tmp 107) (.tmp 120) 22 22 rfl (.slice x3 l.length d3) (.slice (some ⟨wr.heap.size, 0, none⟩) 5 5) (by rfl) (by rfl) RR4.out ?_)))
        all_goals
          go_wp2_with fail
          go_meet
          first | exact ⟨x2, d2, rfl, by simp, rfl, HX⟩ | exact ⟨x4, d4, rfl, by simp, rfl, HY⟩
      case rest =>
        obtain ⟨y, d, rfl, rfl, rfl, HC⟩ := hcut
        have hown : numR.Own 3 0 wc (.slice y (l.length + 5) d) (l ++ tailL first p) := HC.out.inv (numT y (l.length + 5) d (l ++ tailL first p)) (by simp)
        have hlen : (l ++ tailL first p).length = l.length + 5 := by rw [List.length_append, tail_len]
        obtain ⟨rb, rfl, _, _, hcap, hmax⟩ := own_some hown (by rw [hlen]; omega)
        have HN := hid hlen
        have HO := hid (And.intro hcap hmax)
        clear hown hlen hcap hmax HX HY E1 E2 E3 E4 RR1 RR2 RR3 RR4 HW HH c0 c1 hw1 hw2
        go_wp2_with fail
        go_loopg [123] (l.length + 5) (fun q iv wr => ∃ j : Nat, iv = .int .i64 (j : Int) ∧ q + j = l.length + 5 ∧ Hid (Hold w wr (numT (some ⟨rb, 0, none⟩) (l.length + 5) d (l ++ tailL first p) :: both g w1.heap.size x)))
        case atStart => exact ⟨0, rfl, rfl, HC⟩
        case round =>
          clear HC
          obtain ⟨j, rfl, hq, HJ⟩ := hrel
          by_cases hjl : j < l.length + 5
          · have hin : j < (l ++ tailL first p).length := by rw [HN.out]; exact hjl
            obtain ⟨id, hid1⟩ : ∃ id, (l ++ tailL first p)[j]? = some id := ⟨_, List.getElem?_eq_getElem hin⟩
            have hcell := num_cell (HJ.out.inv (numT (some ⟨rb, 0, none⟩) (l.length + 5) d (l ++ tailL first p)) (by simp)) j id hid1
            have hK := hid (both_kind HJ.out HF.out id)
            have hR := hid (both_rkind HJ.out HF.out id)
            have HQ := hid hq
            clear hq hin hid1
            generalize kindI x id = kd at *
            go_wp2_with fail
            refine Calls.mono hK.out ?_
            rintro e w4 ⟨rfl, rfl⟩
            go_wp2_with fail
            refine Calls.mono hR.out ?_
            rintro e w4 ⟨rfl, rfl⟩
            go_wp2
            have hq := HQ.out
            go_roundg (gk - 1)
            case measure => omega
            case rel => exact ⟨j + 1, by simp, by omega, HJ⟩
          · go_wp2
            go_ret
            exact ⟨rfl, HJ.out.below⟩
theorem plays_walk (first n : Int) (a : Option Addr) (c : Nat) (l : List Int) (w : World) (hi : Ints w a l) : Calls Try.prog 3 #[.int .i64 first, .int .i64 n, .slice a l.length c] w (Fine w) := by
  by_cases h : n < 0 ∨ 300 < n ∨ 60 < l.length
  · exact plays_bad first n a c l w hi.2 h
  · cases hr : rightB first with
    | false => exact plays_none first n a c l w (by omega) (by omega) (by omega) hr
    | true =>
      obtain ⟨n, rfl⟩ := Int.eq_ofNat_of_zero_le (show 0 ≤ n by omega)
      exact plays_main first n a c l w hi (by omega) (by omega) hr
end Go.Proofs.Ytpjmiiihninhnaa
