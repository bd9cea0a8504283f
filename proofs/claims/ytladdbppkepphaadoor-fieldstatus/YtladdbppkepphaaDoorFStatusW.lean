/-
  FieldStatus: the walk.
-/
import Derived.Test.YtladdbppkepphaaDoorFStatS
namespace Go.Proofs.YtladdbppkepphaaDoor
open Go.RowKit

theorem conv_one (y : Nat) (w : World) : (convert 42 9 (.slice (some ⟨w.heap.size, 0, none⟩) 1 1)).run Tryd.prog (w.alloc (.cells #[.int .u8 (y : Int)] 5)) = .ok (.string (str [y])) (w.alloc (.cells #[.int .u8 (y : Int)] 5)) :=
  conv_own (w.alloc (.cells #[.int .u8 (y : Int)] 5)) w.heap.size (.slice (some ⟨w.heap.size, 0, none⟩) 1 1) _ [y] _ (ownsRow_one w _ (Nat.le_refl _) y) rfl
theorem str_join (l m : List Nat) : str l ++ str m = str (l ++ m) := by
  apply ByteArray.ext
  simp [str_data]
/-- What is done of a number's digits, what is left. -/
def Dig (n v : Nat) (ds : List Nat) : Prop := ds = [] ∧ v = n ∨ ds ≠ [] ∧ decD n = (if v = 0 then [] else decD v) ++ ds
theorem Dig.step {n v : Nat} {ds : List Nat} (h : Dig n v ds) (hv : 0 < v ∨ ds = []) : Dig n (v / 10) ((48 + v % 10) :: ds) := by
  right
  refine ⟨by simp, ?_⟩
  rcases h with ⟨rfl, rfl⟩ | ⟨hne, h⟩
  · exact decD_step v
  · rw [h, if_neg (by rcases hv with h | h; omega; exact absurd h hne), decD_step v, List.append_assoc]
    rfl
theorem Dig.len {n v : Nat} {ds : List Nat} (h : Dig n v ds) (hn : n ≤ 100000) : ds.length ≤ 6 := by
  rcases h with ⟨rfl, _⟩ | ⟨_, h⟩
  · simp
  · have h1 := decD_len n hn
    rw [h, List.length_append] at h1
    omega
theorem Dig.end {n : Nat} {ds : List Nat} (h : Dig n 0 ds) (hne : ds ≠ []) : ds = decD n := by
  rcases h with ⟨rfl, _⟩ | ⟨_, h⟩
  · exact absurd rfl hne
  · rw [h, if_pos rfl, List.nil_append]

attribute [local irreducible] responseE trailersE str
set_option maxRecDepth 100000 in
set_option maxHeartbeats 4000000 in
theorem status_main (n : Nat) (a : Option Addr) (c : Nat) (more : List Fld) (W : World) (hn : n ≤ 100000) (h : Lies W a more nobody) (hz : Sized more) (h40 : more.length ≤ 40) (ht : trailersE more = 0)
    (HF : Hid (Calls Tryd.prog 9 #[.slice a more.length c] W fun e w' => e = .returned (.bool true) ∧ Keeps nobody W w'))
    (HT : Hid (∀ w, Keeps nobody W w → Calls Tryd.prog 24 #[.slice a more.length c] w fun e w' => e = .returned (.int .i64 0) ∧ Keeps nobody w w'))
    (HA : Hid (∀ W, Calls Tryd.prog 10 #[] W fun e w' => e = .returned (.bool true) ∧ Keeps nobody W w'))
    (HP : Hid (∀ (w : World) (p : Option Addr) (m : List Fld) (n c : Nat) (E : Nat), responseE m = E → Lies w p m nobody → m.length ≤ 1000 → Sized m → m.length ≤ c → c ≤ maxLen → n = m.length → Calls Tryd.prog 22 #[.slice p n c] w fun e w' => e = .returned (.int .i64 (E : Int)) ∧ Keeps nobody w w')) :
    Calls Tryd.prog 6 #[.int .i64 (n : Int), .slice a more.length c] W fun e w' => e = .returned (.bool true) ∧ Below W.heap.size W w' := by
  have H := hid h
  have HZ := hid (And.intro hz ht)
  clear h hz ht
  go_enter Tryd.func6, Tryd.ntmps6
  go_wp2_with fail
  refine Calls.mono HF.out ?_
  rintro e w1 ⟨rfl, k1⟩
  go_wp2_with fail
  refine Calls.mono (HT.out _ k1) ?_
  rintro e w2 ⟨rfl, k2⟩
  go_wp2_with fail
  refine Calls.mono (HA.out _) ?_
  rintro e w3 ⟨rfl, k3⟩
  have kW3 := (k1.then k2).then k3
  have hs0 : (⟨#[]⟩ : ByteArray) = str [] := by unfold str; rfl
  go_wp2_with fail
  go_loopg [5, 6] (n + 1) (fun k d v wr => ∃ (v' : Nat) (ds : List Nat), d = .string (str ds) ∧ v = .int .i64 v' ∧ k = v' + (if ds = [] then 1 else 0) ∧ v' ≤ 100000 ∧ Dig n v' ds ∧ Keeps nobody W wr)
  case atStart => exact ⟨n, [], by rw [hs0], rfl, by simp, hn, .inl ⟨rfl, rfl⟩, kW3⟩
  case round =>
    obtain ⟨v, ds, rfl, rfl, hk, hv, hd, hK⟩ := hrel
    clear hs0
    by_cases hgo : 0 < v ∨ ds = []
    · have hd2 := hd.step hgo
      have hl := hd.len hn
      have hsz : (str ds).size ≤ 6 := by rw [str_size]; exact hl
      have hmod : v % 10 ≤ 9 := by omega
      have hvd : v / 10 ≤ v := by omega
      have hvd2 : v / 10 ≤ 100000 := by omega
      have hlt : 0 < v → v / 10 < v := by omega
      have hm2 : ((v : Int).tmod 10) = ((v % 10 : Nat) : Int) := by rw [Int.tmod_eq_emod_of_nonneg (by omega)]; simp
      have hq2 : ((v : Int).tdiv 10) = ((v / 10 : Nat) : Int) := by rw [Int.tdiv_eq_ediv_of_nonneg (by omega)]; simp
      generalize v % 10 = r at *
      generalize v / 10 = u at *
      have hconv := conv_one (48 + r)
      have hj := str_join [48 + r] ds
      have hs1 : (str [48 + r]).size = 1 := str_size _
      push_cast at hconv
      rw [List.singleton_append] at hj
      have hsum : (str ((48 + r) :: ds)).size ≤ 7 := by rw [str_size]; simp; omega
      have HD := hid (And.intro hk (And.intro hd2 (And.intro hlt hj)))
      clear hk hd2 hlt hd hl hj
      generalize str [48 + r] = s1 at *
      by_cases hv0 : 0 < v
      · clear hgo
        go_wp2
        obtain ⟨hk, hd2, hlt, hj⟩ := HD.out
        go_roundg (u + 0)
        case measure => have := hlt hv0; omega
        case rel => exact ⟨u, (48 + r) :: ds, by rw [hj], rfl, by simp, hvd2, hd2, hK.then (keeps_alloc _ _)⟩
      · obtain rfl : ds = [] := hgo.resolve_left hv0
        have hE : (str []).toList.isEmpty = true := by
          have : str [] = ⟨#[]⟩ := by unfold str; rfl
          rw [this, ByteArray.toList_eq]
          rfl
        clear hgo
        go_wp2
        obtain ⟨hk, hd2, hlt, hj⟩ := HD.out
        rw [if_pos trivial] at hk
        go_roundg (u + 0)
        case measure => omega
        case rel => exact ⟨u, [48 + r], by rw [hj], rfl, by simp, hvd2, hd2, hK.then (keeps_alloc _ _)⟩
    · have hv0 : ¬ 0 < v := fun h => hgo (.inl h)
      have hne : ds ≠ [] := fun h => hgo (.inr h)
      obtain rfl : v = 0 := by omega
      have hds := hd.end hne
      have hl := hd.len hn
      have hpos : 0 < (str ds).size := by
        rw [str_size]
        exact List.length_pos_iff.2 hne
      have hE := isEmpty_of_size _ hpos
      have hsz : (str ds).size ≤ 6 := by rw [str_size]; exact hl
      obtain ⟨hz, ht⟩ := HZ.out
      have hval : valueB (str ds) = true := digits_value ds (by omega) (by rw [hds]; exact decD_digits n)
      have e0 := status_ahead (str ds) more hval ht
      have hst := stat_dec n hn
      rw [← hds] at hst
      have hz1 : Sized ([(sStatus, str ds)] ++ more) := by
        intro f hf
        rcases List.mem_append.1 hf with hf | hf
        · simp only [List.mem_singleton] at hf
          subst hf
          exact ⟨by show sStatus.size ≤ _; decide, by show (str ds).size ≤ _; omega⟩
        · exact hz f hf
      have hz2 : Sized (more ++ [(sStatus, ⟨#[50, 48, 48]⟩)]) := by
        intro f hf
        rcases List.mem_append.1 hf with hf | hf
        · exact hz f hf
        · simp only [List.mem_singleton] at hf
          subst hf
          exact ⟨by decide, by decide⟩
      rw [hst] at e0
      clear hst hval hl hds hd hk hgo hv0 hpos
      have HZ2 := hid (And.intro hz1 hz2)
      clear hz hz1 hz2 HZ
      generalize str ds = sd at *
      by_cases hr1 : n < 100
      · have qa : ((100 : Int) ≤ (n : Int)) = False := by simp; omega
        have e1 : responseE ([(sStatus, sd)] ++ more) = 3 := by rw [e0, decide_eq_false (by omega)]; rfl
        clear e0
        by_cases hm : more = []
        · have hlen : ((more.length : Int) == 0) = true := by rw [hm]; rfl
          obtain ⟨hz1, _⟩ := HZ2.out
          clear ht hm
          obtain ⟨p1, c1, w4, r1, R1⟩ := ahead_ok (H.out.quiet hK) c sStatus sd (by omega) 22
          have kW4 := hK.then R1.out.2
          have L1 := hid R1.out.1.lies
          have C1 := hid R1.out.1.cap
          have RR1 := hid r1
          clear r1
          go_wp2_with (at_builtin; refine wpList_append_run rfl _ _ 22 22 rfl _ _ rfl rfl RR1.out ?_)
          refine Calls.mono (HP.out w4 p1 ([(sStatus, sd)] ++ more) _ c1 _ e1 L1.out (by simp; omega) hz1 C1.out.1 C1.out.2 (by simp)) ?_
          rintro e w5 ⟨rfl, k5⟩
          have kW5 := kW4.then k5
          go_wp2
          go_ret
          refine ⟨congrArg (fun b => Ending.returned (Value.bool b)) (show _ = true from ?_), below_of_keeps kW5⟩
          first | rfl | (simp; omega)
        · have e2 := status_behind more ht hm
          have hlen0 : 0 < more.length := List.length_pos_iff.2 hm
          have hlen : ((more.length : Int) == 0) = false := by rw [beq_eq_false_iff_ne]; omega
          clear hm hlen0
          obtain ⟨hz1, hz2⟩ := HZ2.out
          clear ht
          obtain ⟨p1, c1, w4, r1, R1⟩ := ahead_ok (H.out.quiet hK) c sStatus sd (by omega) 22
          have kW4 := hK.then R1.out.2
          have L1 := hid R1.out.1.lies
          have C1 := hid R1.out.1.cap
          have RR1 := hid r1
          clear r1
          go_wp2_with (at_builtin; refine wpList_append_run rfl _ _ 22 22 rfl _ _ rfl rfl RR1.out ?_)
          refine Calls.mono (HP.out w4 p1 ([(sStatus, sd)] ++ more) _ c1 _ e1 L1.out (by simp; omega) hz1 C1.out.1 C1.out.2 (by simp)) ?_
          rintro e w5 ⟨rfl, k5⟩
          have kW5 := kW4.then k5
          obtain ⟨p2, c2, w6, r2, R2⟩ := copied_ok (H.out.quiet kW5) c (by omega) 22
          obtain ⟨p3, c3, w7, r3, R3⟩ := behind_ok R2.out.1 sStatus ⟨#[50, 48, 48]⟩ (by omega) R2.out.2.size 22
          have kW7 := R2.out.1.fresh (kW5.then R2.out.2) kW5.size R3.out.2
          have L3 := hid R3.out.1.lies
          have C3 := hid R3.out.1.cap
          have RR2 := hid r2
          have RR3 := hid r3
          clear r2 r3
          go_wp2_with (at_builtin; first | refine wpList_append_run_g (by kernel_rfl) _ _ 22 22 rfl (.slice none 0 0) (.slice a more.length c) rfl rfl RR2.out ?_ | refine wpList_append_run_g (by kernel_rfl) _ _ 22 22 rfl (.slice p2 more.length c2) (.slice (some ⟨w6.heap.size, 0, none⟩) 1 1) rfl rfl RR3.out ?_)
          refine Calls.mono (HP.out w7 p3 (more ++ [(sStatus, ⟨#[50, 48, 48]⟩)]) _ c3 7 e2 L3.out (by simp; omega) hz2 C3.out.1 C3.out.2 (by simp)) ?_
          rintro e w8 ⟨rfl, k8⟩
          go_wp2
          go_ret
          refine ⟨congrArg (fun b => Ending.returned (Value.bool b)) (show _ = true from ?_), below_of_keeps (kW7.then k8)⟩
          first | rfl | (simp; omega)
      · by_cases hr2 : n ≤ 599
        · have qa : ((100 : Int) ≤ (n : Int)) = True := by simp; omega
          have qb : ((n : Int) ≤ 599) = True := by simp; omega
          have e1 : responseE ([(sStatus, sd)] ++ more) = 0 := by rw [e0, decide_eq_true (by omega)]; rfl
          clear e0
          by_cases hm : more = []
          · have hlen : ((more.length : Int) == 0) = true := by rw [hm]; rfl
            obtain ⟨hz1, _⟩ := HZ2.out
            clear ht hm
            obtain ⟨p1, c1, w4, r1, R1⟩ := ahead_ok (H.out.quiet hK) c sStatus sd (by omega) 22
            have kW4 := hK.then R1.out.2
            have L1 := hid R1.out.1.lies
            have C1 := hid R1.out.1.cap
            have RR1 := hid r1
            clear r1
            go_wp2_with (at_builtin; refine wpList_append_run rfl _ _ 22 22 rfl _ _ rfl rfl RR1.out ?_)
            refine Calls.mono (HP.out w4 p1 ([(sStatus, sd)] ++ more) _ c1 _ e1 L1.out (by simp; omega) hz1 C1.out.1 C1.out.2 (by simp)) ?_
            rintro e w5 ⟨rfl, k5⟩
            have kW5 := kW4.then k5
            go_wp2
            go_ret
            refine ⟨congrArg (fun b => Ending.returned (Value.bool b)) (show _ = true from ?_), below_of_keeps kW5⟩
            first | rfl | (simp; omega)
          · have e2 := status_behind more ht hm
            have hlen0 : 0 < more.length := List.length_pos_iff.2 hm
            have hlen : ((more.length : Int) == 0) = false := by rw [beq_eq_false_iff_ne]; omega
            clear hm hlen0
            obtain ⟨hz1, hz2⟩ := HZ2.out
            clear ht
            obtain ⟨p1, c1, w4, r1, R1⟩ := ahead_ok (H.out.quiet hK) c sStatus sd (by omega) 22
            have kW4 := hK.then R1.out.2
            have L1 := hid R1.out.1.lies
            have C1 := hid R1.out.1.cap
            have RR1 := hid r1
            clear r1
            go_wp2_with (at_builtin; refine wpList_append_run rfl _ _ 22 22 rfl _ _ rfl rfl RR1.out ?_)
            refine Calls.mono (HP.out w4 p1 ([(sStatus, sd)] ++ more) _ c1 _ e1 L1.out (by simp; omega) hz1 C1.out.1 C1.out.2 (by simp)) ?_
            rintro e w5 ⟨rfl, k5⟩
            have kW5 := kW4.then k5
            obtain ⟨p2, c2, w6, r2, R2⟩ := copied_ok (H.out.quiet kW5) c (by omega) 22
            obtain ⟨p3, c3, w7, r3, R3⟩ := behind_ok R2.out.1 sStatus ⟨#[50, 48, 48]⟩ (by omega) R2.out.2.size 22
            have kW7 := R2.out.1.fresh (kW5.then R2.out.2) kW5.size R3.out.2
            have L3 := hid R3.out.1.lies
            have C3 := hid R3.out.1.cap
            have RR2 := hid r2
            have RR3 := hid r3
            clear r2 r3
            go_wp2_with (at_builtin; first | refine wpList_append_run_g (by kernel_rfl) _ _ 22 22 rfl (.slice none 0 0) (.slice a more.length c) rfl rfl RR2.out ?_ | refine wpList_append_run_g (by kernel_rfl) _ _ 22 22 rfl (.slice p2 more.length c2) (.slice (some ⟨w6.heap.size, 0, none⟩) 1 1) rfl rfl RR3.out ?_)
            refine Calls.mono (HP.out w7 p3 (more ++ [(sStatus, ⟨#[50, 48, 48]⟩)]) _ c3 7 e2 L3.out (by simp; omega) hz2 C3.out.1 C3.out.2 (by simp)) ?_
            rintro e w8 ⟨rfl, k8⟩
            go_wp2
            go_ret
            refine ⟨congrArg (fun b => Ending.returned (Value.bool b)) (show _ = true from ?_), below_of_keeps (kW7.then k8)⟩
            first | rfl | (simp; omega)
        · have qa : ((100 : Int) ≤ (n : Int)) = True := by simp; omega
          have qb : ((n : Int) ≤ 599) = False := by simp; omega
          have e1 : responseE ([(sStatus, sd)] ++ more) = 3 := by rw [e0, decide_eq_false (by omega)]; rfl
          clear e0
          by_cases hm : more = []
          · have hlen : ((more.length : Int) == 0) = true := by rw [hm]; rfl
            obtain ⟨hz1, _⟩ := HZ2.out
            clear ht hm
            obtain ⟨p1, c1, w4, r1, R1⟩ := ahead_ok (H.out.quiet hK) c sStatus sd (by omega) 22
            have kW4 := hK.then R1.out.2
            have L1 := hid R1.out.1.lies
            have C1 := hid R1.out.1.cap
            have RR1 := hid r1
            clear r1
            go_wp2_with (at_builtin; refine wpList_append_run rfl _ _ 22 22 rfl _ _ rfl rfl RR1.out ?_)
            refine Calls.mono (HP.out w4 p1 ([(sStatus, sd)] ++ more) _ c1 _ e1 L1.out (by simp; omega) hz1 C1.out.1 C1.out.2 (by simp)) ?_
            rintro e w5 ⟨rfl, k5⟩
            have kW5 := kW4.then k5
            go_wp2
            go_ret
            refine ⟨congrArg (fun b => Ending.returned (Value.bool b)) (show _ = true from ?_), below_of_keeps kW5⟩
            first | rfl | (simp; omega)
          · have e2 := status_behind more ht hm
            have hlen0 : 0 < more.length := List.length_pos_iff.2 hm
            have hlen : ((more.length : Int) == 0) = false := by rw [beq_eq_false_iff_ne]; omega
            clear hm hlen0
            obtain ⟨hz1, hz2⟩ := HZ2.out
            clear ht
            obtain ⟨p1, c1, w4, r1, R1⟩ := ahead_ok (H.out.quiet hK) c sStatus sd (by omega) 22
            have kW4 := hK.then R1.out.2
            have L1 := hid R1.out.1.lies
            have C1 := hid R1.out.1.cap
            have RR1 := hid r1
            clear r1
            go_wp2_with (at_builtin; refine wpList_append_run rfl _ _ 22 22 rfl _ _ rfl rfl RR1.out ?_)
            refine Calls.mono (HP.out w4 p1 ([(sStatus, sd)] ++ more) _ c1 _ e1 L1.out (by simp; omega) hz1 C1.out.1 C1.out.2 (by simp)) ?_
            rintro e w5 ⟨rfl, k5⟩
            have kW5 := kW4.then k5
            obtain ⟨p2, c2, w6, r2, R2⟩ := copied_ok (H.out.quiet kW5) c (by omega) 22
            obtain ⟨p3, c3, w7, r3, R3⟩ := behind_ok R2.out.1 sStatus ⟨#[50, 48, 48]⟩ (by omega) R2.out.2.size 22
            have kW7 := R2.out.1.fresh (kW5.then R2.out.2) kW5.size R3.out.2
            have L3 := hid R3.out.1.lies
            have C3 := hid R3.out.1.cap
            have RR2 := hid r2
            have RR3 := hid r3
            clear r2 r3
            go_wp2_with (at_builtin; first | refine wpList_append_run_g (by kernel_rfl) _ _ 22 22 rfl (.slice none 0 0) (.slice a more.length c) rfl rfl RR2.out ?_ | refine wpList_append_run_g (by kernel_rfl) _ _ 22 22 rfl (.slice p2 more.length c2) (.slice (some ⟨w6.heap.size, 0, none⟩) 1 1) rfl rfl RR3.out ?_)
            refine Calls.mono (HP.out w7 p3 (more ++ [(sStatus, ⟨#[50, 48, 48]⟩)]) _ c3 7 e2 L3.out (by simp; omega) hz2 C3.out.1 C3.out.2 (by simp)) ?_
            rintro e w8 ⟨rfl, k8⟩
            go_wp2
            go_ret
            refine ⟨congrArg (fun b => Ending.returned (Value.bool b)) (show _ = true from ?_), below_of_keeps (kW7.then k8)⟩
            first | rfl | (simp; omega)
end Go.Proofs.YtladdbppkepphaaDoor
