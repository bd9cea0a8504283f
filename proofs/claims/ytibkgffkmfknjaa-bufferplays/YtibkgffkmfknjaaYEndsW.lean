/-
  The law BufferEnds as a walk.
-/
import Derived.Test.YtibkgffkmfknjaaYAlive
namespace Go.Proofs.Ytibkgffkmfknjaa
open Go.RowKit

theorem cut_both (B : ByteArray) (k : Nat) : B.extract 0 k ++ B.extract k B.size = B := by
  apply nums_inj
  have e : (nums B).take B.size = nums B := List.take_of_length_le (by rw [nums_length]; exact Nat.le_refl _)
  rw [nums_append, nums_extract, nums_extract, List.drop_zero, e, List.take_append_drop]
theorem getK_le (n : Int) (B : ByteArray) : getK n B ≤ B.size := by unfold getK; omega
theorem empty_size : (⟨#[]⟩ : ByteArray).size = 0 := rfl
theorem may_first (m : Nat) (s : ByteArray) (h : s.size ≤ m) : mayB m false ⟨#[]⟩ s = true := by
  have h0 : (⟨#[]⟩ : ByteArray).size = 0 := rfl
  simp only [mayB, Bool.not_false, Bool.true_and, decide_eq_true_eq]
  omega
theorem put_first (m : Nat) (s : ByteArray) (h : s.size ≤ m) : putB m false ⟨#[]⟩ s = s := by
  rw [putB, may_first m s h, if_pos rfl, none_append]
theorem put_behind (m : Nat) (B b : ByteArray) : putB m true B b = B := rfl
theorem done_of (B : ByteArray) (h : B.size ≠ 0) (o : Bool) : doneB o B = false := by
  have : (B.size == 0) = false := by simpa using h
  rw [doneB, this, Bool.and_false]
/-- One round: some bytes come out. -/
theorem ends_step (s G B : ByteArray) (c : Int) (j : Nat) (hs : s.size ≤ 300) (h : G ++ B = s) (hB : B.size ≠ 0) (hj : j ≤ G.size) (hc : 1 ≤ c) :
    ∃ k F R, getK c B = k ∧ B.extract 0 k = F ∧ B.extract k B.size = R ∧ (G ++ F) ++ R = s ∧ j + 1 ≤ (G ++ F).size ∧ R.size < B.size ∧ F.size ≤ 300 ∧ G.size ≤ 300 ∧ j ≤ 300 := by
  refine ⟨_, _, _, rfl, rfl, rfl, ?_⟩
  have hk := getK_le c B
  have hk1 : 1 ≤ getK c B := by unfold getK; omega
  have hz := congrArg ByteArray.size h
  rw [ByteArray.size_append] at hz
  refine ⟨by rw [ByteArray.append_assoc, cut_both B _, h], ?_, ?_, ?_, by omega, by omega⟩
  · rw [ByteArray.size_append, extract_size _ _ _ hk]
    omega
  · rw [extract_size _ _ _ (Nat.le_refl _)]
    omega
  · rw [extract_size _ _ _ hk]
    omega
theorem fifty (n : Int) : ∃ r q : Int, n.tmod 50 = r ∧ (r + 50).tmod 50 = q ∧ -50 < r ∧ r < 50 ∧ 0 ≤ q ∧ q < 50 := by
  have h1 := Int.lt_tmod_of_pos n (show (0 : Int) < 50 by decide)
  have h2 := Int.tmod_lt_of_pos n (show (0 : Int) < 50 by decide)
  refine ⟨_, _, rfl, rfl, h1, h2, ?_, Int.tmod_lt_of_pos _ (by decide)⟩
  rw [Int.tmod_eq_emod_of_nonneg (by omega)]
  omega
attribute [local irreducible] nums str getK doneB mayB putB

set_option maxRecDepth 100000 in
theorem ends_off (s more : ByteArray) (n : Int) (w : World) (hs : s.size ≤ 140737488355328) (hm : more.size ≤ 140737488355328) (h : 300 < s.size + more.size) : Calls Try.prog 6 #[.string s, .string more, .int .i64 n] w (Fine w) := by
  have HA : Hid (∀ W, Calls Try.prog 7 #[] W fun e w' => e = .returned (.bool true) ∧ Keeps nobody W w') := alive_ok
  have h' : (300 : Int) < (s.size : Int) + (more.size : Int) := by omega
  clear h
  go_enter Try.func6, Try.ntmps6
  go_wp2_with fail
  refine Calls.mono (HA.out _) ?_
  rintro e w1 ⟨rfl, k1⟩
  go_wp2
  go_ret
  exact ⟨rfl, below_of_keeps k1⟩

set_option maxRecDepth 100000 in
set_option maxHeartbeats 4000000 in
theorem ends_main (s more : ByteArray) (n : Int) (w : World) (h : s.size + more.size ≤ 300) : Calls Try.prog 6 #[.string s, .string more, .int .i64 n] w (Fine w) := by
  have HA : Hid (∀ W, Calls Try.prog 7 #[] W fun e w' => e = .returned (.bool true) ∧ Keeps nobody W w') := alive_ok
  have HN : Hid (∀ W, Hold w W [] → Calls Try.prog 8 #[.int .i64 1000] W fun e w' => ∃ g v, e = .returned (.pointer (some ⟨g, 0, none⟩)) ∧ Hid (Hold w w' [bfT g v 1000 false ⟨#[]⟩])) := fun W h => t_new h 1000 (by decide) (by decide)
  have HP : Hid (∀ W g v, Hold w W [bfT g v 1000 false ⟨#[]⟩] → Calls Try.prog 9 #[.pointer (some ⟨g, 0, none⟩), .string s] W fun e w' => e = .returned (.bool true) ∧ ∃ v', Hid (Hold w w' [bfT g v' 1000 false s])) := fun W g v hh => t_put hh s (by rw [empty_size]; omega) (may_first _ _ (by omega)) (put_first _ _ (by omega))
  have HT : Hid (∀ W g v, Hold w W [bfT g v 1000 false s] → Calls Try.prog 14 #[.pointer (some ⟨g, 0, none⟩)] W fun e w' => e = .returned (.bool false) ∧ w' = W) := fun W g v hh => t_ended hh
  have HE : Hid (∀ W g v, Hold w W [bfT g v 1000 false s] → Calls Try.prog 10 #[.pointer (some ⟨g, 0, none⟩)] W fun e w' => e = .returned (.bool true) ∧ Hid (Hold w w' [bfT g v 1000 true s])) := fun W g v hh => t_end hh rfl
  have HF : Hid (∀ W g v, Hold w W [bfT g v 1000 true s] → Calls Try.prog 10 #[.pointer (some ⟨g, 0, none⟩)] W fun e w' => e = .returned (.bool false) ∧ Hid (Hold w w' [bfT g v 1000 true s])) := fun W g v hh => t_end hh rfl
  have HM : Hid (∀ W g v, Hold w W [bfT g v 1000 true s] → Calls Try.prog 9 #[.pointer (some ⟨g, 0, none⟩), .string more] W fun e w' => e = .returned (.bool false) ∧ ∃ v', Hid (Hold w w' [bfT g v' 1000 true s])) := fun W g v hh => t_put hh more (by omega) (by unfold mayB; rfl) (put_behind _ _ _)
  have HD : Hid (∀ B r W g v, doneB true B = r → Hold w W [bfT g v 1000 true B] → Calls Try.prog 15 #[.pointer (some ⟨g, 0, none⟩)] W fun e w' => e = .returned (.bool r) ∧ w' = W) := fun B r W g v hr hh => t_done hh hr
  have HG : Hid (∀ c B k F R W g v, getK c B = k → B.extract 0 k = F → B.extract k B.size = R → Hold w W [bfT g v 1000 true B] → Calls Try.prog 11 #[.pointer (some ⟨g, 0, none⟩), .int .i64 c] W fun e w' => e = .returned (.string F) ∧ ∃ v', Hid (Hold w w' [bfT g v' 1000 true R])) := fun c B k F R W g v hk hF hR hh => t_get hh c hk hF hR
  have HX : Hid (∀ W g v, Hold w W [bfT g v 1000 true ⟨#[]⟩] → Calls Try.prog 13 #[.pointer (some ⟨g, 0, none⟩)] W fun e w' => e = .returned (.int .i64 0) ∧ ∃ v', Hid (Hold w w' [bfT g v' 1000 true ⟨#[]⟩])) := fun W g v hh => t_drop hh
  obtain ⟨r, q, hr, hq, r1, r2, q1, q2⟩ := fifty n
  have HS := hid (fun G B j h1 h2 h3 => ends_step s G B (1 + q) j (by omega) h1 h2 h3 (by omega))
  have hz : s.size ≤ 300 := by omega
  have hz2 : more.size ≤ 300 := by omega
  have h' : ¬ ((300 : Int) < (s.size : Int) + (more.size : Int)) := by omega
  have hd : ∃ r, doneB true s = r ∧ s.toList.isEmpty = r := by
    by_cases h0 : 0 < s.size
    · exact ⟨false, done_of s (by omega) true, isEmpty_of_size s h0⟩
    · rw [eq_empty_of_size s h0]
      exact ⟨true, by unfold doneB; rfl, by decide +kernel⟩
  obtain ⟨rd, hd1, hd2⟩ := hd
  have HD1 := hid (fun W g v => HD.out s rd W g v hd1)
  clear h hd1
  go_enter Try.func6, Try.ntmps6
  go_wp2_with fail
  refine Calls.mono (HA.out _) ?_
  rintro e w0 ⟨rfl, k0⟩
  have H0 := hid ((hold_start w).quiet k0)
  clear HA k0
  go_wp2_with fail
  refine Calls.mono (HN.out _ H0.out) ?_
  rintro e w1 ⟨g, v, rfl, H1⟩
  clear H0 HN
  go_wp2_with fail
  refine Calls.mono (HP.out _ _ _ H1.out) ?_
  rintro e w2 ⟨rfl, v2, H2⟩
  clear H1 HP
  go_wp2_with fail
  refine Calls.mono (HT.out _ _ _ H2.out) ?_
  rintro e w3 ⟨rfl, rfl⟩
  clear HT
  go_wp2_with fail
  refine Calls.mono (HE.out _ _ _ H2.out) ?_
  rintro e w4 ⟨rfl, H4⟩
  clear HE H2
  go_wp2_with fail
  refine Calls.mono (HF.out _ _ _ H4.out) ?_
  rintro e w5 ⟨rfl, H5⟩
  clear HF H4
  go_wp2_with fail
  refine Calls.mono (HM.out _ _ _ H5.out) ?_
  rintro e w6 ⟨rfl, v6, H6⟩
  clear HM H5
  go_wp2_with fail
  refine Calls.mono (HD1.out _ _ _ H6.out) ?_
  rintro e w7 ⟨rfl, rfl⟩
  clear HD1
  go_wp2_with fail
  go_loopg [8, 9] s.size (fun k gv kv wr => ∃ (j : Nat) (v : Value) (G B : ByteArray), gv = .string G ∧ kv = .int .i64 (j : Int) ∧ k = B.size ∧ Hid (G ++ B = s ∧ j ≤ G.size ∧ Hold w wr [bfT g v 1000 true B]))
  case atStart => exact ⟨0, v6, ⟨#[]⟩, s, rfl, rfl, rfl, none_append s, Nat.le_refl _, H6.out⟩
  case round =>
    clear H6
    obtain ⟨j, v, G, B, rfl, rfl, rfl, HJ⟩ := hrel
    by_cases h0 : B.size = 0
    · obtain rfl : B = ⟨#[]⟩ := eq_empty_of_size B (by omega)
      obtain rfl : G = s := by have := HJ.out.1; rwa [append_none'] at this
      have H8 := hid HJ.out.2.2
      have hjs : j ≤ 300 := by have := HJ.out.2.1; omega
      have z1 : (G.toList == G.toList) = true := beq_list_of_eq rfl
      have HD2 := hid (fun W g v => HD.out ⟨#[]⟩ true W g v (by unfold doneB; rfl))
      have HG2 := hid (fun W g v => HG.out 5 ⟨#[]⟩ 0 ⟨#[]⟩ ⟨#[]⟩ W g v (by unfold getK; rfl) (by decide +kernel) (by decide +kernel))
      clear HJ HD HG HS h0
      by_cases hj4 : j < 400
      · go_wp2_with fail
        refine Calls.mono (HD2.out _ _ _ H8.out) ?_
        rintro e w8 ⟨rfl, rfl⟩
        go_wp2_with fail
        refine Calls.mono (HD2.out _ _ _ H8.out) ?_
        rintro e w8 ⟨rfl, rfl⟩
        go_wp2_with fail
        refine Calls.mono (HG2.out _ _ _ H8.out) ?_
        rintro e w9 ⟨rfl, v9, H9⟩
        go_wp2_with fail
        refine Calls.mono (HX.out _ _ _ H9.out) ?_
        rintro e w9 ⟨rfl, v10, H10⟩
        go_wp2
        go_ret
        exact ⟨rfl, H10.out.below⟩
      · omega
    · obtain ⟨k, F, R, e1, e2, e3, e4, e5, e6, e7, e8, e9⟩ := HS.out G B j HJ.out.1 h0 HJ.out.2.1
      have HD2 := hid (fun W g v => HD.out B false W g v (done_of B h0 true))
      have HG2 := hid (fun W g v => HG.out (1 + q) B k F R W g v e1 e2 e3)
      have H8 := hid HJ.out.2.2
      have HE := hid (And.intro e4 (And.intro e5 e6))
      clear HJ HD HG HX HS h0 e1 e2 e3 e4 e5 e6
      go_wp2_with fail
      refine Calls.mono (HD2.out _ _ _ H8.out) ?_
      rintro e w8 ⟨rfl, rfl⟩
      go_wp2_with fail
      refine Calls.mono (HG2.out _ _ _ H8.out) ?_
      rintro e w9 ⟨rfl, v9, H9⟩
      go_wp2
      go_roundg R.size
      case measure => exact HE.out.2.2
      case rel => exact ⟨j + 1, v9, G ++ F, R, rfl, by simp, rfl, HE.out.1, HE.out.2.1, H9.out⟩
theorem ends_true (s more : ByteArray) (n : Int) (w : World) (hs : s.size ≤ 140737488355328) (hm : more.size ≤ 140737488355328) : Calls Try.prog 6 #[.string s, .string more, .int .i64 n] w (Fine w) := by
  by_cases h : 300 < s.size + more.size
  · exact ends_off s more n w hs hm h
  · exact ends_main s more n w (by omega)
end Go.Proofs.Ytibkgffkmfknjaa
