/-
  The law BufferBounds as a walk.
-/
import Derived.Test.YtibkgffkmfknjaaYEndsW
import Derived.Test.YtibkgffkmfknjaaYOpen
namespace Go.Proofs.Ytibkgffkmfknjaa
open Go.RowKit
attribute [local irreducible] nums str getK doneB mayB putB

set_option maxRecDepth 100000 in
theorem bounds_off (m : Int) (a : Option Addr) (n cap : Nat) (w : World) (h : m < 1 ∨ 1000 < m ∨ 40 < n) (hn : n ≤ 140737488355328) : Calls Try.prog 5 #[.int .i64 m, .slice a n cap] w (Fine w) := by
  have HA : Hid (∀ W, Calls Try.prog 7 #[] W fun e w' => e = .returned (.bool true) ∧ Keeps nobody W w') := alive_ok
  by_cases h1 : m < 1
  · clear h
    go_enter Try.func5, Try.ntmps5
    go_wp2_with fail
    refine Calls.mono (HA.out _) ?_
    rintro e w1 ⟨rfl, k1⟩
    go_wp2
    go_ret
    exact ⟨rfl, below_of_keeps k1⟩
  · have h1' : 1 ≤ m := by omega
    by_cases h2 : 1000 < m
    · clear h h1
      go_enter Try.func5, Try.ntmps5
      go_wp2_with fail
      refine Calls.mono (HA.out _) ?_
      rintro e w1 ⟨rfl, k1⟩
      go_wp2
      go_ret
      exact ⟨rfl, below_of_keeps k1⟩
    · have h3 : 40 < n := by omega
      have h2' : m ≤ 1000 := by omega
      clear h h1 h2
      go_enter Try.func5, Try.ntmps5
      go_wp2_with fail
      refine Calls.mono (HA.out _) ?_
      rintro e w1 ⟨rfl, k1⟩
      go_wp2
      go_ret
      exact ⟨rfl, below_of_keeps k1⟩

set_option maxRecDepth 100000 in
set_option maxHeartbeats 4000000 in
theorem bounds_main (m : Nat) (a : Option Addr) (b off cap : Nat) (l : List ByteArray) (w : World) (h1 : 1 ≤ m) (h2 : m ≤ 1000) (hn : l.length ≤ 40) (ha : Hid (l = [] ∨ a = some ⟨b, off, none⟩)) (HC : Hid (∀ W, Below w.heap.size w W → AtS W b off l)) (hl : ∀ x ∈ l, x.size ≤ 140737488355328) : Calls Try.prog 5 #[.int .i64 (m : Int), .slice a l.length cap] w (Fine w) := by
  have HA : Hid (∀ W, Calls Try.prog 7 #[] W fun e w' => e = .returned (.bool true) ∧ Keeps nobody W w') := alive_ok
  have HN : Hid (∀ W, Hold w W [] → Calls Try.prog 8 #[.int .i64 (m : Int)] W fun e w' => ∃ g v, e = .returned (.pointer (some ⟨g, 0, none⟩)) ∧ Hid (Hold w w' [bfT g v m false ⟨#[]⟩])) := fun W h => t_new h m h1 (by omega)
  have HP : Hid (∀ B x r C W g v, B.size ≤ m → x.size ≤ 600 → mayB m false B x = r → putB m false B x = C → Hold w W [bfT g v m false B] → Calls Try.prog 9 #[.pointer (some ⟨g, 0, none⟩), .string x] W fun e w' => e = .returned (.bool r) ∧ ∃ v', Hid (Hold w w' [bfT g v' m false C])) := fun B x r C W g v hB hx hr hC hh => t_put hh x (by omega) hr hC
  have HQ : Hid (∀ W g v, Hold w W [bfT g v m true ⟨#[]⟩] → Calls Try.prog 9 #[.pointer (some ⟨g, 0, none⟩), .string ⟨#[]⟩] W fun e w' => e = .returned (.bool false) ∧ ∃ v', Hid (Hold w w' [bfT g v' m true ⟨#[]⟩])) := fun W g v hh => t_put hh _ (by rw [empty_size]; omega) (by unfold mayB; rfl) (put_behind _ _ _)
  have HL : Hid (∀ o B (N : Nat) W g v, B.size = N → Hold w W [bfT g v m o B] → Calls Try.prog 12 #[.pointer (some ⟨g, 0, none⟩)] W fun e w' => e = .returned (.int .i64 (N : Int)) ∧ w' = W) := fun o B N W g v hN hh => hN ▸ t_len hh
  have HD : Hid (∀ W g v, Hold w W [bfT g v m true ⟨#[]⟩] → Calls Try.prog 15 #[.pointer (some ⟨g, 0, none⟩)] W fun e w' => e = .returned (.bool true) ∧ w' = W) := fun W g v hh => t_done hh (by unfold doneB; rfl)
  have HX : Hid (∀ B W g v, Hold w W [bfT g v m false B] → Calls Try.prog 13 #[.pointer (some ⟨g, 0, none⟩)] W fun e w' => e = .returned (.int .i64 (B.size : Int)) ∧ ∃ v', Hid (Hold w w' [bfT g v' m true ⟨#[]⟩])) := fun B W g v hh => t_drop hh
  have HS := hid hl
  clear hl
  go_enter Try.func5, Try.ntmps5
  go_wp2_with fail
  refine Calls.mono (HA.out _) ?_
  rintro e w0 ⟨rfl, k0⟩
  have H0 := hid ((hold_start w).quiet k0)
  clear HA k0
  go_wp2_with fail
  refine Calls.mono (HN.out _ H0.out) ?_
  rintro e w1 ⟨g, v, rfl, H1⟩
  clear H0 HN
  go_wp2_with fail
  go_loopg [6, 31] l.length (fun k nv iv wr => ∃ (j : Nat) (v : Value) (B : ByteArray), nv = .int .i64 (B.size : Int) ∧ iv = .int .i64 (j : Int) ∧ k + j = l.length ∧ B.size ≤ m ∧ Hid (Hold w wr [bfT g v m false B]))
  case atStart => exact ⟨0, v, ⟨#[]⟩, rfl, rfl, rfl, Nat.zero_le _, H1.out⟩
  case round =>
    clear H1
    obtain ⟨j, v, B, rfl, rfl, hk, hB, HJ⟩ := hrel
    by_cases hj : j < l.length
    · obtain rfl : a = some ⟨b, off, none⟩ := by
        rcases ha.out with h | h
        · rw [h] at hj; simp at hj
        · exact h
      obtain ⟨x, hx⟩ : ∃ x, l[j]? = some x := ⟨_, List.getElem?_eq_getElem hj⟩
      have hsx := HS.out x (List.mem_of_getElem? hx)
      have c0 := HC.out _ HJ.out.below j x hx
      have HK := hid hk
      clear hk hx HS HC HX HQ HD
      by_cases h6 : 600 < x.size
      · clear HP HL
        go_wp2
        go_ret
        exact ⟨rfl, HJ.out.below⟩
      · have h6' : x.size ≤ 600 := by omega
        clear h6
        by_cases hf : B.size + x.size ≤ m
        · have e1 : mayB m false B x = true := by simp [mayB, hf]
          have e2 : putB m false B x = B ++ x := by rw [putB, e1, if_pos rfl]
          have e3 : (B ++ x).size = B.size + x.size := ByteArray.size_append
          have HP2 := hid (fun W g v => HP.out B x true (B ++ x) W g v hB h6' e1 e2)
          have hs : (B.size : Int) + (x.size : Int) = ((B.size + x.size : Nat) : Int) := by omega
          have HE := hid e3
          clear HP e1 e2 e3
          generalize B ++ x = C at *
          have HL2 := hid (fun W g v => HL.out false C (B.size + x.size) W g v HE.out)
          generalize B.size + x.size = N at *
          clear HL
          go_wp2_with fail
          refine Calls.mono (HP2.out _ _ _ HJ.out) ?_
          rintro e w3 ⟨rfl, v3, H3⟩
          go_wp2_with fail
          refine Calls.mono (HL2.out _ _ _ H3.out) ?_
          rintro e w4 ⟨rfl, rfl⟩
          go_wp2
          have hk := HK.out
          go_roundg (gk - 1)
          case measure => omega
          case rel => exact ⟨j + 1, v3, C, by rw [HE.out], by simp, by omega, by rw [HE.out]; exact hf, H3.out⟩
        · have e1 : mayB m false B x = false := by simp [mayB, hf]
          have e2 : putB m false B x = B := by rw [putB, e1, if_neg (by decide)]
          have HP2 := hid (fun W g v => HP.out B x false B W g v hB h6' e1 e2)
          have HL2 := hid (fun W g v => HL.out false B B.size W g v rfl)
          clear HP HL e1 e2
          have hs : (B.size : Int) + (x.size : Int) = ((B.size + x.size : Nat) : Int) := by omega
          have hN : B.size + x.size ≤ 1600 := by omega
          generalize B.size + x.size = N at *
          go_wp2_with fail
          refine Calls.mono (HP2.out _ _ _ HJ.out) ?_
          rintro e w3 ⟨rfl, v3, H3⟩
          go_wp2_with fail
          refine Calls.mono (HL2.out _ _ _ H3.out) ?_
          rintro e w4 ⟨rfl, rfl⟩
          go_wp2
          have hk := HK.out
          go_roundg (gk - 1)
          case measure => omega
          case rel => exact ⟨j + 1, v3, B, rfl, by simp, by omega, hB, H3.out⟩
    · have HL2 := hid (fun W g v => HL.out true ⟨#[]⟩ 0 W g v rfl)
      clear HP HL HS HC hk
      go_wp2_with fail
      refine Calls.mono (HX.out _ _ _ _ HJ.out) ?_
      rintro e w3 ⟨rfl, v3, H3⟩
      go_wp2_with fail
      refine Calls.mono (HL2.out _ _ _ H3.out) ?_
      rintro e w4 ⟨rfl, rfl⟩
      go_wp2_with fail
      refine Calls.mono (HD.out _ _ _ H3.out) ?_
      rintro e w4 ⟨rfl, rfl⟩
      go_wp2_with fail
      refine Calls.mono (HQ.out _ _ _ H3.out) ?_
      rintro e w5 ⟨rfl, v5, H5⟩
      go_wp2
      go_ret
      exact ⟨rfl, H5.out.below⟩
theorem bounds_true (m : Int) (a : Option Addr) (cap : Nat) (l : List ByteArray) (w : World) (h : Strs w a l) : Calls Try.prog 5 #[.int .i64 m, .slice a l.length cap] w (Fine w) := by
  by_cases ho : m < 1 ∨ 1000 < m ∨ 40 < l.length
  · exact bounds_off m a _ cap w ho h.2.1
  · obtain ⟨m, rfl⟩ := Int.eq_ofNat_of_zero_le (show 0 ≤ m by omega)
    obtain ⟨b, off, ha, hC⟩ := h.at
    exact bounds_main m a b off cap l w (by omega) (by omega) (by omega) ha hC h.2.2
end Go.Proofs.Ytibkgffkmfknjaa
