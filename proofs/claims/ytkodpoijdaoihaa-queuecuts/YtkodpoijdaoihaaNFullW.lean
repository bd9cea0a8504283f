/-
  The law QueueFull, walked.
-/
import Derived.Test.YtkodpoijdaoihaaNLive
import Derived.Test.YtkodpoijdaoihaaGStr
import Derived.Deep.DeepCutAuto
namespace Go.Proofs.Ytkodpoijdaoihaa
open Go.RowKit

/-- 1, 2, .., m. -/
def upL (m : Nat) : List Int := (List.range m).map fun i => ((i + 1 : Nat) : Int)
theorem up_succ (m : Nat) : upL (m + 1) = upL m ++ [((m + 1 : Nat) : Int)] := by simp [upL, List.range_succ]
theorem up_len (m : Nat) : (upL m).length = m := by simp [upL]
theorem up_mem (m : Nat) (x : Int) : x ∈ upL m ↔ 1 ≤ x ∧ x ≤ (m : Int) := by
  simp only [upL, List.mem_map, List.mem_range]
  constructor
  · rintro ⟨i, hi, rfl⟩
    omega
  · rintro ⟨h1, h2⟩
    exact ⟨(x - 1).toNat, by omega, by omega⟩
theorem up_head (m : Nat) (h : 0 < m) : ∃ t, upL m = 1 :: t ∧ t.length + 1 = m ∧ ∀ x, x ∈ t → x ≤ (m : Int) := by
  cases hu : upL m with
  | nil => have := up_len m; rw [hu] at this; simp at this; omega
  | cons y t =>
    have h0 : (upL m)[0]? = some 1 := by simp [upL, h]
    rw [hu] at h0
    simp at h0
    subst h0
    refine ⟨t, rfl, ?_, fun x hx => ((up_mem m x).1 (by rw [hu]; exact List.mem_cons_of_mem _ hx)).2⟩
    have := up_len m
    rw [hu] at this
    simpa using this
/-- What waits behind m calls. -/
def fullL (back : Bool) (m : Nat) : List Int := if back then (upL m).reverse else upL m
theorem full_len (back : Bool) (m : Nat) : (fullL back m).length = m := by cases back <;> simp [fullL, up_len]
theorem full_mem (back : Bool) (m : Nat) (x : Int) : x ∈ fullL back m ↔ 1 ≤ x ∧ x ≤ (m : Int) := by cases back <;> simp [fullL, up_mem]
theorem full_may (back : Bool) (m most : Nat) (x : Int) (hx : (m : Int) < x) (h : m < most) : mayQ (most : Int) (fullL back m) x = 0 := may_yes (fun e => by have := ((full_mem _ _ _).1 e).2; omega) (by rw [full_len]; omega)
theorem full_busy (back : Bool) (most : Nat) (x : Int) (hx : (most : Int) < x) : mayQ (most : Int) (fullL back most) x = 13 := may_full (fun e => by have := ((full_mem _ _ _).1 e).2; omega) (by rw [full_len]; omega)
theorem full_put (m : Nat) (x : Int) (hx : x = (m : Int) + 1) : fullL false m ++ [x] = fullL false (m + 1) := by
  simp only [fullL]
  rw [up_succ, hx]
  rfl
theorem full_back (m : Nat) (x : Int) (hx : x = (m : Int) + 1) : x :: fullL true m = fullL true (m + 1) := by
  simp only [fullL, if_pos]
  rw [up_succ, hx, List.reverse_append]
  rfl
theorem full_head (back : Bool) (m : Nat) (h : 0 < m) : ∃ t, fullL back m = (if back then (m : Int) else 1) :: t ∧ t.length + 1 = m ∧ ∀ x, x ∈ t → x ≤ (m : Int) := by
  cases back with
  | false => exact up_head m h
  | true =>
    obtain ⟨k, rfl⟩ : ∃ k, m = k + 1 := ⟨m - 1, by omega⟩
    refine ⟨fullL true k, (full_back k _ (by simp)).symm, by rw [full_len], fun x hx => ?_⟩
    have := ((full_mem _ _ _).1 hx).2
    omega
theorem full_zero (back : Bool) : fullL back 0 = [] := by cases back <;> rfl
attribute [local irreducible] fullL mayQ putQ backQ
set_option maxRecDepth 100000 in
theorem full_bad (most n : Int) (back : Bool) (w : World) (h : most < 1 ∨ 50 < most ∨ n < 0 ∨ 60 < n) : Calls Try.prog 5 #[.int .i64 most, .int .i64 n, .bool back] w (Fine w) := by
  have HA : Hid (∀ W, Calls Try.prog 7 #[] W fun e w' => e = .returned (.bool true) ∧ Keeps nobody W w') := alive_ok
  by_cases q0 : most < 1
  · clear h
    go_enter Try.func5, Try.ntmps5
    go_wp2_with fail
    refine Calls.mono (HA.out _) ?_
    rintro e w1 ⟨rfl, k1⟩
    go_wp2
    go_ret
    exact ⟨rfl, below_of_keeps k1⟩
  · have p0 : 1 ≤ most := by omega
    by_cases q1 : 50 < most
    · clear h
      go_enter Try.func5, Try.ntmps5
      go_wp2_with fail
      refine Calls.mono (HA.out _) ?_
      rintro e w1 ⟨rfl, k1⟩
      go_wp2
      go_ret
      exact ⟨rfl, below_of_keeps k1⟩
    · have p1 : most ≤ 50 := by omega
      by_cases q2 : n < 0
      · clear h
        go_enter Try.func5, Try.ntmps5
        go_wp2_with fail
        refine Calls.mono (HA.out _) ?_
        rintro e w1 ⟨rfl, k1⟩
        go_wp2
        go_ret
        exact ⟨rfl, below_of_keeps k1⟩
      · have p2 : 0 ≤ n := by omega
        have q3 : 60 < n := by omega
        clear h q0 q1 q2
        go_enter Try.func5, Try.ntmps5
        go_wp2_with fail
        refine Calls.mono (HA.out _) ?_
        rintro e w1 ⟨rfl, k1⟩
        go_wp2
        go_ret
        exact ⟨rfl, below_of_keeps k1⟩
set_option maxRecDepth 100000 in
set_option maxHeartbeats 4000000 in
theorem full_true (most n : Nat) (w : World) (h1 : 1 ≤ most) (h2 : most ≤ 50) (h3 : n ≤ 60) : Calls Try.prog 5 #[.int .i64 (most : Int), .int .i64 (n : Int), .bool true] w (Fine w) := by
  have HA : Hid (∀ W, Calls Try.prog 7 #[] W fun e w' => e = .returned (.bool true) ∧ Keeps nobody W w') := alive_ok
  have HN : Hid (∀ W, Hold w W [] → Calls Try.prog 8 #[.int .i64 (most : Int)] W fun e w' => ∃ g, e = .returned (.pointer (some ⟨g, 0, none⟩)) ∧ Hid (HQ w w' g (most : Int) (fullL true 0) [])) := fun W H => by rw [full_zero]; exact t_new H (most : Int) (by omega)
  have HY : Hid (∀ W g (k : Nat) (x : Int), HQ w W g (most : Int) (fullL true k) [] → x = (k : Int) + 1 → k < most → Calls Try.prog 11 #[.pointer (some ⟨g, 0, none⟩), .int .i64 x] W fun e w' => e = .returned (.int .i64 0) ∧ Hid (HQ w w' g (most : Int) (fullL true (k + 1)) [])) := fun W g k x H hx hk =>
    t_back H (by rw [full_len]; omega) x (full_may _ _ _ _ (by omega) hk) (by rw [back_yes (full_may _ _ _ _ (by omega) hk), full_back k x hx])
  have HZ : Hid (∀ W g (x : Int), HQ w W g (most : Int) (fullL true most) [] → (most : Int) < x → Calls Try.prog 11 #[.pointer (some ⟨g, 0, none⟩), .int .i64 x] W fun e w' => e = .returned (.int .i64 13) ∧ Hid (HQ w w' g (most : Int) (fullL true most) [])) := fun W g x H hx =>
    t_back H (by rw [full_len]; omega) x (full_busy _ _ _ hx) (back_no (by rw [full_busy _ _ _ hx]; decide))
  have HL : Hid (∀ W g m, HQ w W g (most : Int) (fullL true m) [] → m ≤ 50 → Calls Try.prog 14 #[.pointer (some ⟨g, 0, none⟩)] W fun e w' => ∃ x c, e = .returned (.slice x m c) ∧ Hid (HQ w w' g (most : Int) (fullL true m) [])) := fun W g m H hm => t_len H (by rw [full_len]; omega) (full_len _ _)
  have HF0 : Hid (∀ W g, HQ w W g (most : Int) (fullL true 0) [] → Calls Try.prog 9 #[.pointer (some ⟨g, 0, none⟩)] W fun e w' => e = .returned (.tuple #[.int .i64 0, .bool false]) ∧ W = w') := fun W g H => by rw [full_zero] at H; exact t_first0 H
  have HF : Hid (∀ W g m, HQ w W g (most : Int) (fullL true m) [] → 0 < m → m ≤ 50 → Calls Try.prog 9 #[.pointer (some ⟨g, 0, none⟩)] W fun e w' => e = .returned (.tuple #[.int .i64 ((m : Int)), .bool true]) ∧ Hid (∃ t, t.length + 1 = m ∧ (∀ x, x ∈ t → x ≤ (m : Int)) ∧ HQ w w' g (most : Int) t [])) := fun W g m H hm hm2 => by
    obtain ⟨t, e, e1, e2⟩ := full_head true m hm
    rw [e] at H
    refine (t_first H (by omega)).mono ?_
    rintro e w' ⟨he, hr⟩
    exact ⟨he, t, e1, e2, hr.out⟩
  have HP : Hid (∀ W g m t, t.length + 1 = m → m ≤ most → (∀ x, x ∈ t → x ≤ (m : Int)) → HQ w W g (most : Int) t [] → Calls Try.prog 10 #[.pointer (some ⟨g, 0, none⟩), .int .i64 100] W fun e w' => e = .returned (.int .i64 0) ∧ Hid (HQ w w' g (most : Int) (t ++ [100]) [])) := fun W g m t ht hm hx H => by
    have hy : mayQ (most : Int) t 100 = 0 := may_yes (fun e => by have := hx _ e; omega) (by omega)
    exact t_put H (by omega) 100 hy (put_yes hy)
  have HL2 : Hid (∀ W g m t, t.length + 1 = m → m ≤ 50 → HQ w W g (most : Int) (t ++ [100]) [] → Calls Try.prog 14 #[.pointer (some ⟨g, 0, none⟩)] W fun e w' => ∃ x c, e = .returned (.slice x m c) ∧ Hid (HQ w w' g (most : Int) (t ++ [100]) [])) := fun W g m t ht hm H => t_len H (by simp; omega) (by simp; omega)
  go_enter Try.func5, Try.ntmps5
  go_wp2_with fail
  refine Calls.mono (HA.out _) ?_
  rintro e w0 ⟨rfl, k0⟩
  have H0 := hid ((hold_start w).quiet k0)
  clear HA k0
  go_wp2_with fail
  refine Calls.mono (HN.out _ H0.out) ?_
  rintro e w1 ⟨g, rfl, H1⟩
  clear H0 HN
  go_wp2_with fail
  go_loopg [8] n (fun q iv wr => ∃ (k : Nat) (x : Int), iv = .int .i64 x ∧ x = (k : Int) + 1 ∧ q + k = n ∧ Hid (HQ w wr g (most : Int) (fullL true (min k most)) []))
  case atStart => exact ⟨0, 1, rfl, rfl, rfl, by rw [Nat.zero_min]; exact H1⟩
  case round =>
    clear H1
    obtain ⟨k, x, rfl, hx, hk, HJ⟩ := hrel
    by_cases hj : k < n
    · have HK := hid hk
      have HX := hid hx
      have hxn : x ≤ (n : Int) := by omega
      have hx0 : 1 ≤ x := by omega
      by_cases hm : k < most
      · have hxm : x ≤ (most : Int) := by omega
        rw [Nat.min_eq_left (by omega)] at HJ
        have HC := hid (HY.out wr g k x HJ.out hx hm)
        have hm' := hid hm
        clear hk hx HY HZ HL HF0 HF HP HL2 HJ hm
        go_wp2_with fail
        refine Calls.mono HC.out ?_
        rintro e w3 ⟨rfl, H3⟩
        go_wp2
        have hk := HK.out
        go_roundg (gk - 1)
        case measure => omega
        case rel => exact ⟨k + 1, x + 1, rfl, by rw [HX.out]; simp, by omega, by rw [Nat.min_eq_left hm'.out]; exact H3⟩
      · have hxm : (most : Int) < x := by omega
        rw [Nat.min_eq_right (by omega)] at HJ
        have HC := hid (HZ.out wr g x HJ.out hxm)
        have hm' := hid hm
        clear hk hx HY HZ HL HF0 HF HP HL2 HJ hm
        go_wp2_with fail
        refine Calls.mono HC.out ?_
        rintro e w3 ⟨rfl, H3⟩
        go_wp2
        have hk := HK.out
        go_roundg (gk - 1)
        case measure => omega
        case rel => exact ⟨k + 1, x + 1, rfl, by rw [HX.out]; simp, by omega, by rw [Nat.min_eq_right (by have := hm'.out; omega)]; exact H3⟩
    · have hxn : (n : Int) < x := by omega
      obtain rfl : k = n := by omega
      have hmin : ∀ W ts t, (Builtin.min_ ts t #[.int .i64 (k : Int), .int .i64 (most : Int)]).run Try.prog W = .ok (.int .i64 ((min k most : Nat) : Int)) W := fun W ts t => by
        have e : (if (most : Int) < (k : Int) then (most : Int) else (k : Int)) = ((min k most : Nat) : Int) := by
          split <;> omega
        rw [← e]
        exact run_min_int2 ..
      have hm50 : min k most ≤ 50 := by omega
      have hmm := hid (show min k most ≤ most by omega)
      generalize min k most = m at *
      have HC := hid (HL.out wr g m HJ.out hm50)
      clear hk hx hj HJ HY HZ HL
      by_cases h0 : m = 0
      · subst h0
        clear HF HP HL2
        go_wp2_with fail
        refine Calls.mono HC.out ?_
        rintro e w3 ⟨xa, xc, rfl, H3⟩
        go_wp2_with fail
        refine Calls.mono (HF0.out _ _ H3.out) ?_
        rintro e w4 ⟨rfl, rfl⟩
        go_wp2
        go_ret
        exact ⟨rfl, H3.out.below⟩
      · have hm1 : (1 : Int) ≤ (m : Int) := by omega
        have hm2 : ((m : Int) == 0) = false := by simpa using h0
        have hm0 : 0 < m := by omega
        clear HF0
        go_wp2_with fail
        refine Calls.mono HC.out ?_
        rintro e w3 ⟨xa, xc, rfl, H3⟩
        go_wp2_with fail
        refine Calls.mono (HF.out _ _ _ H3.out hm0 hm50) ?_
        rintro e w4 ⟨rfl, H4⟩
        obtain ⟨t, t1, t2, H4⟩ := H4.out
        have HC2 := hid (HP.out w4 g m t t1 hmm.out t2 H4)
        have HC3 := hid (fun W H => HL2.out W g m t t1 hm50 H)
        clear HP HL2 HF t2 H4 HC
        go_wp2_with fail
        refine Calls.mono HC2.out ?_
        rintro e w5 ⟨rfl, H5⟩
        go_wp2_with fail
        refine Calls.mono (HC3.out _ H5.out) ?_
        rintro e w6 ⟨xa2, xc2, rfl, H6⟩
        go_wp2
        go_ret
        refine ⟨?_, H6.out.below⟩
        first | rfl | simp
set_option maxRecDepth 100000 in
set_option maxHeartbeats 4000000 in
theorem full_false (most n : Nat) (w : World) (h1 : 1 ≤ most) (h2 : most ≤ 50) (h3 : n ≤ 60) : Calls Try.prog 5 #[.int .i64 (most : Int), .int .i64 (n : Int), .bool false] w (Fine w) := by
  have HA : Hid (∀ W, Calls Try.prog 7 #[] W fun e w' => e = .returned (.bool true) ∧ Keeps nobody W w') := alive_ok
  have HN : Hid (∀ W, Hold w W [] → Calls Try.prog 8 #[.int .i64 (most : Int)] W fun e w' => ∃ g, e = .returned (.pointer (some ⟨g, 0, none⟩)) ∧ Hid (HQ w w' g (most : Int) (fullL false 0) [])) := fun W H => by rw [full_zero]; exact t_new H (most : Int) (by omega)
  have HY : Hid (∀ W g (k : Nat) (x : Int), HQ w W g (most : Int) (fullL false k) [] → x = (k : Int) + 1 → k < most → Calls Try.prog 10 #[.pointer (some ⟨g, 0, none⟩), .int .i64 x] W fun e w' => e = .returned (.int .i64 0) ∧ Hid (HQ w w' g (most : Int) (fullL false (k + 1)) [])) := fun W g k x H hx hk =>
    t_put H (by rw [full_len]; omega) x (full_may _ _ _ _ (by omega) hk) (by rw [put_yes (full_may _ _ _ _ (by omega) hk), full_put k x hx])
  have HZ : Hid (∀ W g (x : Int), HQ w W g (most : Int) (fullL false most) [] → (most : Int) < x → Calls Try.prog 10 #[.pointer (some ⟨g, 0, none⟩), .int .i64 x] W fun e w' => e = .returned (.int .i64 13) ∧ Hid (HQ w w' g (most : Int) (fullL false most) [])) := fun W g x H hx =>
    t_put H (by rw [full_len]; omega) x (full_busy _ _ _ hx) (put_no (by rw [full_busy _ _ _ hx]; decide))
  have HL : Hid (∀ W g m, HQ w W g (most : Int) (fullL false m) [] → m ≤ 50 → Calls Try.prog 14 #[.pointer (some ⟨g, 0, none⟩)] W fun e w' => ∃ x c, e = .returned (.slice x m c) ∧ Hid (HQ w w' g (most : Int) (fullL false m) [])) := fun W g m H hm => t_len H (by rw [full_len]; omega) (full_len _ _)
  have HF0 : Hid (∀ W g, HQ w W g (most : Int) (fullL false 0) [] → Calls Try.prog 9 #[.pointer (some ⟨g, 0, none⟩)] W fun e w' => e = .returned (.tuple #[.int .i64 0, .bool false]) ∧ W = w') := fun W g H => by rw [full_zero] at H; exact t_first0 H
  have HF : Hid (∀ W g m, HQ w W g (most : Int) (fullL false m) [] → 0 < m → m ≤ 50 → Calls Try.prog 9 #[.pointer (some ⟨g, 0, none⟩)] W fun e w' => e = .returned (.tuple #[.int .i64 (1), .bool true]) ∧ Hid (∃ t, t.length + 1 = m ∧ (∀ x, x ∈ t → x ≤ (m : Int)) ∧ HQ w w' g (most : Int) t [])) := fun W g m H hm hm2 => by
    obtain ⟨t, e, e1, e2⟩ := full_head false m hm
    rw [e] at H
    refine (t_first H (by omega)).mono ?_
    rintro e w' ⟨he, hr⟩
    exact ⟨he, t, e1, e2, hr.out⟩
  have HP : Hid (∀ W g m t, t.length + 1 = m → m ≤ most → (∀ x, x ∈ t → x ≤ (m : Int)) → HQ w W g (most : Int) t [] → Calls Try.prog 10 #[.pointer (some ⟨g, 0, none⟩), .int .i64 100] W fun e w' => e = .returned (.int .i64 0) ∧ Hid (HQ w w' g (most : Int) (t ++ [100]) [])) := fun W g m t ht hm hx H => by
    have hy : mayQ (most : Int) t 100 = 0 := may_yes (fun e => by have := hx _ e; omega) (by omega)
    exact t_put H (by omega) 100 hy (put_yes hy)
  have HL2 : Hid (∀ W g m t, t.length + 1 = m → m ≤ 50 → HQ w W g (most : Int) (t ++ [100]) [] → Calls Try.prog 14 #[.pointer (some ⟨g, 0, none⟩)] W fun e w' => ∃ x c, e = .returned (.slice x m c) ∧ Hid (HQ w w' g (most : Int) (t ++ [100]) [])) := fun W g m t ht hm H => t_len H (by simp; omega) (by simp; omega)
  go_enter Try.func5, Try.ntmps5
  go_wp2_with fail
  refine Calls.mono (HA.out _) ?_
  rintro e w0 ⟨rfl, k0⟩
  have H0 := hid ((hold_start w).quiet k0)
  clear HA k0
  go_wp2_with fail
  refine Calls.mono (HN.out _ H0.out) ?_
  rintro e w1 ⟨g, rfl, H1⟩
  clear H0 HN
  go_wp2_with fail
  go_loopg [8] n (fun q iv wr => ∃ (k : Nat) (x : Int), iv = .int .i64 x ∧ x = (k : Int) + 1 ∧ q + k = n ∧ Hid (HQ w wr g (most : Int) (fullL false (min k most)) []))
  case atStart => exact ⟨0, 1, rfl, rfl, rfl, by rw [Nat.zero_min]; exact H1⟩
  case round =>
    clear H1
    obtain ⟨k, x, rfl, hx, hk, HJ⟩ := hrel
    by_cases hj : k < n
    · have HK := hid hk
      have HX := hid hx
      have hxn : x ≤ (n : Int) := by omega
      have hx0 : 1 ≤ x := by omega
      by_cases hm : k < most
      · have hxm : x ≤ (most : Int) := by omega
        rw [Nat.min_eq_left (by omega)] at HJ
        have HC := hid (HY.out wr g k x HJ.out hx hm)
        have hm' := hid hm
        clear hk hx HY HZ HL HF0 HF HP HL2 HJ hm
        go_wp2_with fail
        refine Calls.mono HC.out ?_
        rintro e w3 ⟨rfl, H3⟩
        go_wp2
        have hk := HK.out
        go_roundg (gk - 1)
        case measure => omega
        case rel => exact ⟨k + 1, x + 1, rfl, by rw [HX.out]; simp, by omega, by rw [Nat.min_eq_left hm'.out]; exact H3⟩
      · have hxm : (most : Int) < x := by omega
        rw [Nat.min_eq_right (by omega)] at HJ
        have HC := hid (HZ.out wr g x HJ.out hxm)
        have hm' := hid hm
        clear hk hx HY HZ HL HF0 HF HP HL2 HJ hm
        go_wp2_with fail
        refine Calls.mono HC.out ?_
        rintro e w3 ⟨rfl, H3⟩
        go_wp2
        have hk := HK.out
        go_roundg (gk - 1)
        case measure => omega
        case rel => exact ⟨k + 1, x + 1, rfl, by rw [HX.out]; simp, by omega, by rw [Nat.min_eq_right (by have := hm'.out; omega)]; exact H3⟩
    · have hxn : (n : Int) < x := by omega
      obtain rfl : k = n := by omega
      have hmin : ∀ W ts t, (Builtin.min_ ts t #[.int .i64 (k : Int), .int .i64 (most : Int)]).run Try.prog W = .ok (.int .i64 ((min k most : Nat) : Int)) W := fun W ts t => by
        have e : (if (most : Int) < (k : Int) then (most : Int) else (k : Int)) = ((min k most : Nat) : Int) := by
          split <;> omega
        rw [← e]
        exact run_min_int2 ..
      have hm50 : min k most ≤ 50 := by omega
      have hmm := hid (show min k most ≤ most by omega)
      generalize min k most = m at *
      have HC := hid (HL.out wr g m HJ.out hm50)
      clear hk hx hj HJ HY HZ HL
      by_cases h0 : m = 0
      · subst h0
        clear HF HP HL2
        go_wp2_with fail
        refine Calls.mono HC.out ?_
        rintro e w3 ⟨xa, xc, rfl, H3⟩
        go_wp2_with fail
        refine Calls.mono (HF0.out _ _ H3.out) ?_
        rintro e w4 ⟨rfl, rfl⟩
        go_wp2
        go_ret
        exact ⟨rfl, H3.out.below⟩
      · have hm1 : (1 : Int) ≤ (m : Int) := by omega
        have hm2 : ((m : Int) == 0) = false := by simpa using h0
        have hm0 : 0 < m := by omega
        clear HF0
        go_wp2_with fail
        refine Calls.mono HC.out ?_
        rintro e w3 ⟨xa, xc, rfl, H3⟩
        go_wp2_with fail
        refine Calls.mono (HF.out _ _ _ H3.out hm0 hm50) ?_
        rintro e w4 ⟨rfl, H4⟩
        obtain ⟨t, t1, t2, H4⟩ := H4.out
        have HC2 := hid (HP.out w4 g m t t1 hmm.out t2 H4)
        have HC3 := hid (fun W H => HL2.out W g m t t1 hm50 H)
        clear HP HL2 HF t2 H4 HC
        go_wp2_with fail
        refine Calls.mono HC2.out ?_
        rintro e w5 ⟨rfl, H5⟩
        go_wp2_with fail
        refine Calls.mono (HC3.out _ H5.out) ?_
        rintro e w6 ⟨xa2, xc2, rfl, H6⟩
        go_wp2
        go_ret
        refine ⟨?_, H6.out.below⟩
        first | rfl | simp
theorem full_walk (most n : Int) (back : Bool) (w : World) : Calls Try.prog 5 #[.int .i64 most, .int .i64 n, .bool back] w (Fine w) := by
  by_cases h : most < 1 ∨ 50 < most ∨ n < 0 ∨ 60 < n
  · exact full_bad most n back w h
  · obtain ⟨a, rfl⟩ := Int.eq_ofNat_of_zero_le (show 0 ≤ most by omega)
    obtain ⟨b, rfl⟩ := Int.eq_ofNat_of_zero_le (show 0 ≤ n by omega)
    cases back with
    | true => exact full_true a b w (by omega) (by omega) (by omega)
    | false => exact full_false a b w (by omega) (by omega) (by omega)
end Go.Proofs.Ytkodpoijdaoihaa
