/-
  The law BufferPlays as a walk.
-/
import Derived.Test.YtibkgffkmfknjaaYEndsW
import Derived.Test.YtibkgffkmfknjaaYOpen
import Derived.Test.YtibkgffkmfknjaaGRec
import Derived.Deep.DeepCutAuto
import Derived.Deep.CutBlock
namespace Go.Proofs.Ytibkgffkmfknjaa
open Go.RowKit

theorem max_zero (x : Int) (ts : Array TypeId) (t : TypeId) (W : World) : (Builtin.max_ ts t #[.int .i64 x, .int .i64 0]).run Try.prog W = .ok (.int .i64 ((x.toNat : Nat) : Int)) W := by
  rw [run_max_int2]
  have : (if x < 0 then (0 : Int) else x) = ((x.toNat : Nat) : Int) := by split <;> omega
  rw [this]
theorem slice_upto (b : ByteArray) (j : Nat) (h : j ≤ b.size) (w : World) : (Instr.slice 9 (.string b) none (some (.int .i64 (j : Int))) none).run Try.prog w = .ok (.string (b.extract 0 j)) w := by
  rw [run_slice_string_h w 9 b Try.underlying9 .i64 (j : Int) (by omega) (by omega)]
  simp
theorem may_yes (m : Nat) (B x : ByteArray) (h : B.size + x.size ≤ m) : mayB m false B x = true ∧ putB m false B x = B ++ x := by
  have e : mayB m false B x = true := by simp [mayB, h]
  exact ⟨e, by rw [putB, e, if_pos rfl]⟩
theorem may_no (m : Nat) (B x : ByteArray) (h : ¬ B.size + x.size ≤ m) : mayB m false B x = false ∧ putB m false B x = B := by
  have e : mayB m false B x = false := by simp [mayB, h]
  exact ⟨e, by rw [putB, e, if_neg (by decide)]⟩
theorem may_over (m : Nat) (B x : ByteArray) : mayB m true B x = false ∧ putB m true B x = B := ⟨rfl, rfl⟩
attribute [local irreducible] nums str getK doneB mayB putB

set_option maxRecDepth 100000 in
theorem plays_off (m : Int) (a : Option Addr) (n cap : Nat) (w : World) (h : 100 < n) (hn : n ≤ 140737488355328) : Calls Try.prog 3 #[.int .i64 m, .slice a n cap] w (Fine w) := by
  have HA : Hid (∀ W, Calls Try.prog 7 #[] W fun e w' => e = .returned (.bool true) ∧ Keeps nobody W w') := alive_ok
  go_enter Try.func3, Try.ntmps3
  go_wp2_with fail
  refine Calls.mono (HA.out _) ?_
  rintro e w1 ⟨rfl, k1⟩
  go_wp2
  go_ret
  exact ⟨rfl, below_of_keeps k1⟩

set_option maxRecDepth 100000 in
set_option maxHeartbeats 1000000 in
theorem plays_none (m : Int) (a : Option Addr) (n cap : Nat) (w : World) (hn : n ≤ 100) (hm : m < 1) : Calls Try.prog 3 #[.int .i64 m, .slice a n cap] w (Fine w) := by
  have HA : Hid (∀ W, Calls Try.prog 7 #[] W fun e w' => e = .returned (.bool true) ∧ Keeps nobody W w') := alive_ok
  have HN : Hid (∀ W, Calls Try.prog 8 #[.int .i64 m] W fun e w' => e = .returned (.pointer none) ∧ W = w') := fun W => new_no m W hm
  have HP : Hid (∀ W, Calls Try.prog 9 #[.pointer none, .string ⟨#[]⟩] W fun e w' => e = .returned (.bool false) ∧ Keeps nobody W w') := fun W => put_nil _ W
  have HE : Hid (∀ W, Calls Try.prog 10 #[.pointer none] W fun e w' => e = .returned (.bool false) ∧ W = w') := end_nil
  have HG : Hid (∀ W, Calls Try.prog 11 #[.pointer none, .int .i64 1] W fun e w' => e = .returned (.string ⟨#[]⟩) ∧ W = w') := fun W => get_nil 1 W
  have HL : Hid (∀ W, Calls Try.prog 12 #[.pointer none] W fun e w' => e = .returned (.int .i64 0) ∧ W = w') := len_nil
  have HX : Hid (∀ W, Calls Try.prog 13 #[.pointer none] W fun e w' => e = .returned (.int .i64 0) ∧ W = w') := drop_nil
  have HT : Hid (∀ W, Calls Try.prog 14 #[.pointer none] W fun e w' => e = .returned (.bool true) ∧ W = w') := ended_nil
  have HD : Hid (∀ W, Calls Try.prog 15 #[.pointer none] W fun e w' => e = .returned (.bool true) ∧ W = w') := done_nil
  go_enter Try.func3, Try.ntmps3
  go_wp2_with fail
  refine Calls.mono (HA.out _) ?_
  rintro e w1 ⟨rfl, k1⟩
  go_wp2_with fail
  refine Calls.mono (HN.out _) ?_
  rintro e w2 ⟨rfl, rfl⟩
  go_wp2_with fail
  refine Calls.mono (HP.out _) ?_
  rintro e w2 ⟨rfl, k2⟩
  go_wp2_with fail
  refine Calls.mono (HE.out _) ?_
  rintro e w3 ⟨rfl, rfl⟩
  go_wp2_with fail
  refine Calls.mono (HG.out _) ?_
  rintro e w3 ⟨rfl, rfl⟩
  go_wp2_with fail
  refine Calls.mono (HL.out _) ?_
  rintro e w3 ⟨rfl, rfl⟩
  go_wp2_with fail
  refine Calls.mono (HX.out _) ?_
  rintro e w3 ⟨rfl, rfl⟩
  go_wp2_with fail
  refine Calls.mono (HT.out _) ?_
  rintro e w3 ⟨rfl, rfl⟩
  go_wp2_with fail
  refine Calls.mono (HD.out _) ?_
  rintro e w3 ⟨rfl, rfl⟩
  go_wp2
  go_ret
  exact ⟨rfl, below_of_keeps (k1.then k2)⟩

/-- What lies there within a round. -/
abbrev opT (g : Nat) (k n : Int) (s : ByteArray) : Thing := recT g #[.int .i64 k, .int .i64 n, .string s] 30
theorem Hold.op {W w : World} {g : Nat} {k n : Int} {s : ByteArray} {t : Thing} (h : Hold W w [t, opT g k n s]) : w.cell? ⟨g, 0, none⟩ = some (.int .i64 k) ∧ w.cell? ⟨g, 1, none⟩ = some (.int .i64 n) ∧ w.cell? ⟨g, 2, none⟩ = some (.string s) := by
  obtain ⟨h1, _, _⟩ := h.cellsOf (g := g) (cs := #[.int .i64 k, .int .i64 n, .string s]) (T := 30) (by simp)
  exact ⟨h1 0, h1 1, h1 2⟩

set_option maxRecDepth 100000 in
set_option maxHeartbeats 8000000 in
theorem plays_main (m : Nat) (a : Option Addr) (b off cap : Nat) (l : List Doing) (w : World) (h1 : 1 ≤ m) (h2 : m ≤ 9223372036854775807) (hn : l.length ≤ 100) (ha : Hid (l = [] ∨ a = some ⟨b, off, none⟩)) (HC : Hid (∀ W, Below w.heap.size w W → AtO W b off l)) (hl : ∀ f ∈ l, f.s.size ≤ 140737488355328) : Calls Try.prog 3 #[.int .i64 (m : Int), .slice a l.length cap] w (Fine w) := by
  have HA : Hid (∀ W, Calls Try.prog 7 #[] W fun e w' => e = .returned (.bool true) ∧ Keeps nobody W w') := alive_ok
  have HN : Hid (∀ W, Hold w W [] → Calls Try.prog 8 #[.int .i64 (m : Int)] W fun e w' => ∃ g v, e = .returned (.pointer (some ⟨g, 0, none⟩)) ∧ Hid (Hold w w' [bfT g v m false ⟨#[]⟩])) := fun W h => t_new h m h1 h2
  have HP : Hid (∀ o B x r C W g v ts, B.size + x.size ≤ 31000 → mayB m o B x = r → putB m o B x = C → Hold w W (bfT g v m o B :: ts) → Calls Try.prog 9 #[.pointer (some ⟨g, 0, none⟩), .string x] W fun e w' => e = .returned (.bool r) ∧ ∃ v', Hid (Hold w w' (bfT g v' m o C :: ts))) := fun o B x r C W g v ts hB hr hC hh => t_put hh x (by omega) hr hC
  have HG : Hid (∀ o c B k F R W g v ts, getK c B = k → B.extract 0 k = F → B.extract k B.size = R → Hold w W (bfT g v m o B :: ts) → Calls Try.prog 11 #[.pointer (some ⟨g, 0, none⟩), .int .i64 c] W fun e w' => e = .returned (.string F) ∧ ∃ v', Hid (Hold w w' (bfT g v' m o R :: ts))) := fun o c B k F R W g v ts hk hF hR hh => t_get hh c hk hF hR
  have HE : Hid (∀ o r B W g v ts, (!o) = r → Hold w W (bfT g v m o B :: ts) → Calls Try.prog 10 #[.pointer (some ⟨g, 0, none⟩)] W fun e w' => e = .returned (.bool r) ∧ Hid (Hold w w' (bfT g v m true B :: ts))) := fun o r B W g v ts hr hh => t_end hh hr
  have HX : Hid (∀ o B W g v ts, Hold w W (bfT g v m o B :: ts) → Calls Try.prog 13 #[.pointer (some ⟨g, 0, none⟩)] W fun e w' => e = .returned (.int .i64 (B.size : Int)) ∧ ∃ v', Hid (Hold w w' (bfT g v' m true ⟨#[]⟩ :: ts))) := fun o B W g v ts hh => t_drop hh
  have HL : Hid (∀ o B W g v ts, Hold w W (bfT g v m o B :: ts) → Calls Try.prog 12 #[.pointer (some ⟨g, 0, none⟩)] W fun e w' => e = .returned (.int .i64 (B.size : Int)) ∧ w' = W) := fun o B W g v ts hh => t_len hh
  have HT : Hid (∀ o B W g v ts, Hold w W (bfT g v m o B :: ts) → Calls Try.prog 14 #[.pointer (some ⟨g, 0, none⟩)] W fun e w' => e = .returned (.bool o) ∧ w' = W) := fun o B W g v ts hh => t_ended hh
  have HD : Hid (∀ o B r W g v ts, doneB o B = r → Hold w W (bfT g v m o B :: ts) → Calls Try.prog 15 #[.pointer (some ⟨g, 0, none⟩)] W fun e w' => e = .returned (.bool r) ∧ w' = W) := fun o B r W g v ts hr hh => t_done hh hr
  have HS := hid hl
  clear hl
  go_enter Try.func3, Try.ntmps3
  go_wp2_with fail
  refine Calls.mono (HA.out _) ?_
  rintro e w0 ⟨rfl, k0⟩
  have H0 := hid ((hold_start w).quiet k0)
  clear HA k0
  go_wp2_with fail
  refine Calls.mono (HN.out _ H0.out) ?_
  rintro e w1 ⟨g, v, rfl, H1⟩
  clear H0 HN
  go_wp2_with fail
  go_loopg [7, 8, 62] l.length (fun k sv ev iv wr => ∃ (j : Nat) (v : Value) (o : Bool) (B : ByteArray), sv = .string B ∧ ev = .bool o ∧ iv = .int .i64 (j : Int) ∧ k + j = l.length ∧ Hid (B.size ≤ 300 * j ∧ Hold w wr [bfT g v m o B]))
  case atStart => exact ⟨0, v, false, ⟨#[]⟩, rfl, rfl, rfl, rfl, Nat.zero_le _, H1.out⟩
  case round =>
    clear H1
    obtain ⟨j, v, o, B, rfl, rfl, rfl, hk, HJ⟩ := hrel
    by_cases hj : j < l.length
    · obtain rfl : a = some ⟨b, off, none⟩ := by
        rcases ha.out with h | h
        · rw [h] at hj; simp at hj
        · exact h
      obtain ⟨⟨kd, nn, x⟩, hx⟩ : ∃ f, l[j]? = some f := ⟨_, List.getElem?_eq_getElem hj⟩
      have hsx := HS.out _ (List.mem_of_getElem? hx)
      obtain ⟨c0, c1, c2⟩ := HC.out _ HJ.out.2.below j _ hx
      simp only at hsx c0 c1 c2
      have hBs : B.size ≤ 30000 := by have := HJ.out.1; omega
      have HK := hid hk
      clear hk hx HS HC
      by_cases h3 : 300 < x.size
      · clear HP HG HE HX HL HT HD
        go_wp2
        go_ret
        exact ⟨rfl, (HJ.out.2.quiet (keeps_alloc _ _)).below⟩
      · have h3' : x.size ≤ 300 := by omega
        clear h3
        have H2 := hid (HJ.out.2.newrec2 #[.int .i64 kd, .int .i64 nn, .string x] 30)
        have HB := hid HJ.out.1
        clear HJ
        have hbz : B.size + x.size ≤ 31000 := by omega
        go_upto_block 2 with fail
        go_cut [7, 8] (fun sv ev wx => ∃ (v' : Value) (o' : Bool) (B' : ByteArray), sv = .string B' ∧ ev = .bool o' ∧ Hid (B'.size ≤ 300 * (j + 1) ∧ Hold w wx [bfT g v' m o' B', opT wr.heap.size kd nn x]))
        case first =>
          clear HL HT HD
          by_cases k1 : kd = 1
          · subst k1
            clear HG HE HX
            cases o with
            | true =>
              have HP2 := hid (fun W => HP.out true B x false B W g v [opT wr.heap.size 1 nn x] hbz (may_over m B x).1 (may_over m B x).2)
              clear HP
              go_wp2_with fail
              refine Calls.mono (HP2.out _ H2.out) ?_
              rintro e w3 ⟨rfl, v3, H3⟩
              go_wp2_with fail
              go_meet
              exact ⟨v3, true, B, rfl, rfl, by have := HB.out; omega, H3.out⟩
            | false =>
              by_cases hf : B.size + x.size ≤ m
              · have HP2 := hid (fun W => HP.out false B x true (B ++ x) W g v [opT wr.heap.size 1 nn x] hbz (may_yes m B x hf).1 (may_yes m B x hf).2)
                have t1 : (x.size : Int) ≤ (m : Int) := by omega
                have hd : (m : Int) - (x.size : Int) = ((m - x.size : Nat) : Int) := by omega
                have hr : m - x.size ≤ 9223372036854775807 := by omega
                have t2 : B.size ≤ m - x.size := by omega
                clear HP hf
                generalize m - x.size = r at *
                go_wp2_with fail
                refine Calls.mono (HP2.out _ H2.out) ?_
                rintro e w3 ⟨rfl, v3, H3⟩
                obtain ⟨d0, d1, d2⟩ := H3.out.op
                go_wp2_with fail
                go_meet
                exact ⟨v3, false, B ++ x, rfl, rfl, by rw [ByteArray.size_append]; have := HB.out; omega, H3.out⟩
              · have HP2 := hid (fun W => HP.out false B x false B W g v [opT wr.heap.size 1 nn x] hbz (may_no m B x hf).1 (may_no m B x hf).2)
                clear HP
                by_cases t1 : x.size ≤ m
                · have t1' : (x.size : Int) ≤ (m : Int) := by omega
                  have hd : (m : Int) - (x.size : Int) = ((m - x.size : Nat) : Int) := by omega
                  have hr : m - x.size ≤ 9223372036854775807 := by omega
                  have t2 : ¬ B.size ≤ m - x.size := by omega
                  clear hf t1
                  generalize m - x.size = r at *
                  go_wp2_with fail
                  refine Calls.mono (HP2.out _ H2.out) ?_
                  rintro e w3 ⟨rfl, v3, H3⟩
                  go_wp2_with fail
                  go_meet
                  exact ⟨v3, false, B, rfl, rfl, by have := HB.out; omega, H3.out⟩
                · have t1' : ¬ (x.size : Int) ≤ (m : Int) := by omega
                  clear hf t1
                  go_wp2_with fail
                  refine Calls.mono (HP2.out _ H2.out) ?_
                  rintro e w3 ⟨rfl, v3, H3⟩
                  go_wp2_with fail
                  go_meet
                  exact ⟨v3, false, B, rfl, rfl, by have := HB.out; omega, H3.out⟩
          · have q1 : (kd == 1) = false := by simpa using k1
            by_cases k2 : kd = 2
            · subst k2
              clear HP HE HX
              have hmax := max_zero nn
              have hmin : ∀ ts t W, (Builtin.min_ ts t #[.int .i64 ((nn.toNat : Nat) : Int), .int .i64 (B.size : Int)]).run Try.prog W = .ok (.int .i64 ((getK nn B : Nat) : Int)) W := fun ts t W => by
                have := min_nat nn.toNat B.size ts t W
                unfold getK
                exact this
              have hkB := getK_le nn B
              have hs1 := slice_upto B (getK nn B) hkB
              have hs2 := slice_from B (getK nn B) hkB
              have hRs : (B.extract (getK nn B) B.size).size ≤ 300 * (j + 1) := by
                rw [extract_size _ _ _ (Nat.le_refl _)]
                have := HB.out
                omega
              have HR := hid hRs
              have HG2 := hid (fun W v => HG.out o nn B (getK nn B) _ _ W g v [opT wr.heap.size 2 nn x] rfl rfl rfl)
              clear HG hRs
              generalize B.extract 0 (getK nn B) = F at *
              generalize B.extract (getK nn B) B.size = R at *
              generalize getK nn B = kk at *
              generalize nn.toNat = z at *
              have z1 : (F.toList == F.toList) = true := beq_list_of_eq rfl
              go_wp2_with fail
              go_region_law (go_simp; go_at_call 11; refine Calls.mono (HG2.out _ _ (by first | exact H2.out | exact H2.out.quiet (Keeps.refl _ _).drew)) ?_; rintro e w3 ⟨rfl, v3, H3⟩)
              all_goals
                go_wp2_with fail
                go_meet
                exact ⟨v3, o, R, rfl, rfl, HR.out, H3.out⟩
            · have q2 : (kd == 2) = false := by simpa using k2
              by_cases k3 : kd = 3
              · subst k3
                clear HP HG HX
                cases o with
                | true =>
                  have HE2 := hid (fun W => HE.out true false B W g v [opT wr.heap.size 3 nn x] rfl)
                  clear HE
                  go_wp2_with fail
                  refine Calls.mono (HE2.out _ H2.out) ?_
                  rintro e w3 ⟨rfl, H3⟩
                  go_wp2_with fail
                  go_meet
                  exact ⟨v, true, B, rfl, rfl, by have := HB.out; omega, H3.out⟩
                | false =>
                  have HE2 := hid (fun W => HE.out false true B W g v [opT wr.heap.size 3 nn x] rfl)
                  clear HE
                  go_wp2_with fail
                  refine Calls.mono (HE2.out _ H2.out) ?_
                  rintro e w3 ⟨rfl, H3⟩
                  go_wp2_with fail
                  go_meet
                  exact ⟨v, true, B, rfl, rfl, by have := HB.out; omega, H3.out⟩
              · have q3 : (kd == 3) = false := by simpa using k3
                by_cases k4 : kd = 4
                · subst k4
                  clear HP HG HE
                  go_wp2_with fail
                  refine Calls.mono (HX.out _ _ _ _ _ _ H2.out) ?_
                  rintro e w3 ⟨rfl, v3, H3⟩
                  go_wp2_with fail
                  go_meet
                  exact ⟨v3, true, ⟨#[]⟩, rfl, rfl, Nat.zero_le _, H3.out⟩
                · have q4 : (kd == 4) = false := by simpa using k4
                  clear HP HG HE HX
                  go_wp2_with fail
                  go_meet
                  exact ⟨v, o, B, rfl, rfl, by have := HB.out; omega, H2.out⟩
        case rest =>
          obtain ⟨v', o', B', rfl, rfl, H5⟩ := hcut
          clear HP HG HE HX H2 HB hBs hbz c0 c1 c2
          have H6 := hid H5.out.2
          have hd : ∃ r, doneB o' B' = r ∧ (o' && B'.toList.isEmpty) = r := by
            by_cases h0 : 0 < B'.size
            · exact ⟨false, done_of B' (by omega) o', by rw [isEmpty_of_size B' h0, Bool.and_false]⟩
            · rw [eq_empty_of_size B' h0]
              exact ⟨o', by unfold doneB; cases o' <;> rfl, by cases o' <;> decide +kernel⟩
          obtain ⟨r, hd1, hd2⟩ := hd
          have HD2 := hid (fun W v ts => HD.out o' B' r W g v ts hd1)
          clear HD hd1
          cases o' with
          | true =>
            go_wp2_with fail
            refine Calls.mono (HL.out _ _ _ _ _ _ H6.out) ?_
            rintro e w3 ⟨rfl, rfl⟩
            go_wp2_with fail
            refine Calls.mono (HT.out _ _ _ _ _ _ H6.out) ?_
            rintro e w3 ⟨rfl, rfl⟩
            go_wp2_with fail
            refine Calls.mono (HD2.out _ _ _ H6.out) ?_
            rintro e w3 ⟨rfl, rfl⟩
            simp only [Bool.true_and] at hd2
            go_wp2
            have hk := HK.out
            go_roundg (gk - 1)
            case measure => omega
            case rel => exact ⟨j + 1, v', true, B', rfl, rfl, by simp, by omega, H5.out.1, H6.out.sub (by simp)⟩
          | false =>
            have hr0 : r = false := by rw [← hd2]; rfl
            subst hr0
            clear hd2
            go_wp2_with fail
            refine Calls.mono (HL.out _ _ _ _ _ _ H6.out) ?_
            rintro e w3 ⟨rfl, rfl⟩
            go_wp2_with fail
            refine Calls.mono (HT.out _ _ _ _ _ _ H6.out) ?_
            rintro e w3 ⟨rfl, rfl⟩
            go_wp2_with fail
            refine Calls.mono (HD2.out _ _ _ H6.out) ?_
            rintro e w3 ⟨rfl, rfl⟩
            go_wp2
            have hk := HK.out
            go_roundg (gk - 1)
            case measure => omega
            case rel => exact ⟨j + 1, v', false, B', rfl, rfl, by simp, by omega, H5.out.1, H6.out.sub (by simp)⟩
    · clear HP HG HE HX HL HT HD hk
      go_wp2
      go_ret
      exact ⟨rfl, HJ.out.2.below⟩
theorem plays_true (m : Int) (a : Option Addr) (cap : Nat) (l : List Doing) (w : World) (_ : -9223372036854775808 ≤ m) (hm : m ≤ 9223372036854775807) (h : Ops w a l) : Calls Try.prog 3 #[.int .i64 m, .slice a l.length cap] w (Fine w) := by
  by_cases ho : 100 < l.length
  · exact plays_off m a _ cap w ho h.2.1
  · by_cases h1 : m < 1
    · exact plays_none m a _ cap w (by omega) h1
    · obtain ⟨m, rfl⟩ := Int.eq_ofNat_of_zero_le (show 0 ≤ m by omega)
      obtain ⟨b, off, ha, hC⟩ := h.at
      exact plays_main m a b off cap l w (by omega) (by omega) (by omega) ha hC h.2.2
end Go.Proofs.Ytibkgffkmfknjaa
