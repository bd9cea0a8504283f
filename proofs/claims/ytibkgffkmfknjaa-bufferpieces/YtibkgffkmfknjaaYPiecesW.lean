/-
  The law BufferPieces as a walk.
-/
import Derived.Test.YtibkgffkmfknjaaYEndsW
import Derived.Test.YtibkgffkmfknjaaYOpen
namespace Go.Proofs.Ytibkgffkmfknjaa
open Go.RowKit

/-- One round: a piece goes in, and some bytes come out. -/
theorem pieces_step (A G B x : ByteArray) (c : Int) (h : G ++ B = A) :
    ∃ k F R, getK c (B ++ x) = k ∧ (B ++ x).extract 0 k = F ∧ (B ++ x).extract k (B ++ x).size = R ∧ (G ++ F) ++ R = A ++ x ∧ F.size ≤ B.size + x.size := by
  refine ⟨_, _, _, rfl, rfl, rfl, ?_, ?_⟩
  · rw [ByteArray.append_assoc, cut_both, ← ByteArray.append_assoc, h]
  · rw [extract_size _ _ _ (getK_le _ _), ← ByteArray.size_append]
    exact getK_le _ _
theorem pieces_last (B : ByteArray) (h : B.size ≤ 18000) : getK 1099511627776 B = B.size ∧ B.extract 0 B.size = B ∧ B.extract B.size B.size = ⟨#[]⟩ := by
  refine ⟨by unfold getK; omega, extract_all B _ (Nat.le_refl _), eq_empty_of_size _ ?_⟩
  rw [extract_size _ _ _ (Nat.le_refl _)]
  omega
attribute [local irreducible] nums str getK doneB mayB putB

set_option maxRecDepth 100000 in
theorem pieces_off (a a2 : Option Addr) (n cap n2 cap2 : Nat) (w : World) (h : 60 < n ∨ 200 < n2) (hn : n ≤ 140737488355328) (hn2 : n2 ≤ 140737488355328) : Calls Try.prog 4 #[.slice a n cap, .slice a2 n2 cap2] w (Fine w) := by
  have HA : Hid (∀ W, Calls Try.prog 7 #[] W fun e w' => e = .returned (.bool true) ∧ Keeps nobody W w') := alive_ok
  by_cases h1 : 60 < n
  · clear h
    go_enter Try.func4, Try.ntmps4
    go_wp2_with fail
    refine Calls.mono (HA.out _) ?_
    rintro e w1 ⟨rfl, k1⟩
    go_wp2
    go_ret
    exact ⟨rfl, below_of_keeps k1⟩
  · have h1' : n ≤ 60 := by omega
    have h3 : 200 < n2 := by omega
    clear h h1
    go_enter Try.func4, Try.ntmps4
    go_wp2_with fail
    refine Calls.mono (HA.out _) ?_
    rintro e w1 ⟨rfl, k1⟩
    go_wp2
    go_ret
    exact ⟨rfl, below_of_keeps k1⟩

set_option maxRecDepth 100000 in
set_option maxHeartbeats 4000000 in
theorem pieces_main (a a2 : Option Addr) (b off cap b2 off2 cap2 : Nat) (l : List ByteArray) (q : List Int) (w : World) (hn : l.length ≤ 60) (hn2 : q.length ≤ 200) (ha : Hid (l = [] ∨ a = some ⟨b, off, none⟩)) (HC : Hid (∀ W, Below w.heap.size w W → AtS W b off l)) (ha2 : Hid (q = [] ∨ a2 = some ⟨b2, off2, none⟩)) (HC2 : Hid (∀ W, Below w.heap.size w W → AtI W b2 off2 q)) (hl : ∀ x ∈ l, x.size ≤ 140737488355328) :
    Calls Try.prog 4 #[.slice a l.length cap, .slice a2 q.length cap2] w (Fine w) := by
  have HA : Hid (∀ W, Calls Try.prog 7 #[] W fun e w' => e = .returned (.bool true) ∧ Keeps nobody W w') := alive_ok
  have HN : Hid (∀ W, Hold w W [] → Calls Try.prog 8 #[.int .i64 100000] W fun e w' => ∃ g v, e = .returned (.pointer (some ⟨g, 0, none⟩)) ∧ Hid (Hold w w' [bfT g v 100000 false ⟨#[]⟩])) := fun W h => t_new h 100000 (by decide) (by decide)
  have HP : Hid (∀ B x W g v, B.size ≤ 18000 → x.size ≤ 300 → Hold w W [bfT g v 100000 false B] → Calls Try.prog 9 #[.pointer (some ⟨g, 0, none⟩), .string x] W fun e w' => e = .returned (.bool true) ∧ ∃ v', Hid (Hold w w' [bfT g v' 100000 false (B ++ x)])) := fun B x W g v hB hx hh => by
    have e1 : mayB 100000 false B x = true := by
      unfold mayB
      simp only [Bool.not_false, Bool.true_and, decide_eq_true_eq]
      omega
    exact t_put hh x (by omega) e1 (by rw [putB, e1, if_pos rfl])
  have HG : Hid (∀ c B k F R W g v, getK c B = k → B.extract 0 k = F → B.extract k B.size = R → Hold w W [bfT g v 100000 false B] → Calls Try.prog 11 #[.pointer (some ⟨g, 0, none⟩), .int .i64 c] W fun e w' => e = .returned (.string F) ∧ ∃ v', Hid (Hold w w' [bfT g v' 100000 false R])) := fun c B k F R W g v hk hF hR hh => t_get hh c hk hF hR
  have HL : Hid (∀ W g v, Hold w W [bfT g v 100000 false ⟨#[]⟩] → Calls Try.prog 12 #[.pointer (some ⟨g, 0, none⟩)] W fun e w' => e = .returned (.int .i64 0) ∧ w' = W) := fun W g v hh => t_len hh
  have HS := hid hl
  clear hl
  go_enter Try.func4, Try.ntmps4
  go_wp2_with fail
  refine Calls.mono (HA.out _) ?_
  rintro e w0 ⟨rfl, k0⟩
  have H0 := hid ((hold_start w).quiet k0)
  clear HA k0
  go_wp2_with fail
  refine Calls.mono (HN.out _ H0.out) ?_
  rintro e w1 ⟨g, v, rfl, H1⟩
  clear H0 HN
  go_wp2_with fail
  go_loopg [6, 7, 28] l.length (fun k nv ov iv wr => ∃ (j : Nat) (v : Value) (A G B : ByteArray), nv = .string A ∧ ov = .string G ∧ iv = .int .i64 (j : Int) ∧ k + j = l.length ∧ Hid (G ++ B = A ∧ A.size ≤ 300 * j ∧ Hold w wr [bfT g v 100000 false B]))
  case atStart => exact ⟨0, v, ⟨#[]⟩, ⟨#[]⟩, ⟨#[]⟩, rfl, rfl, rfl, rfl, none_append _, Nat.zero_le _, H1.out⟩
  case round =>
    clear H1
    obtain ⟨j, v, A, G, B, rfl, rfl, rfl, hk, HJ⟩ := hrel
    have hsz := congrArg ByteArray.size HJ.out.1
    rw [ByteArray.size_append] at hsz
    have hA : A.size ≤ 18000 := by have := HJ.out.2.1; omega
    have hB : B.size ≤ 18000 := by omega
    have hG : G.size ≤ 18000 := by omega
    clear hsz
    have H2 := hid HJ.out.2.2
    by_cases hj : j < l.length
    · obtain rfl : a = some ⟨b, off, none⟩ := by
        rcases ha.out with h | h
        · rw [h] at hj; simp at hj
        · exact h
      obtain ⟨x, hx⟩ : ∃ x, l[j]? = some x := ⟨_, List.getElem?_eq_getElem hj⟩
      have hsx := HS.out x (List.mem_of_getElem? hx)
      have c0 := HC.out _ H2.out.below j x hx
      have HK := hid hk
      clear hk hx HS HC HL
      by_cases h3 : 300 < x.size
      · clear HP HG
        go_wp2
        go_ret
        exact ⟨rfl, H2.out.below⟩
      · have h3' : x.size ≤ 300 := by omega
        clear h3
        have HP2 := hid (fun W g v => HP.out B x W g v hB h3')
        clear HP
        by_cases hq : j < q.length
        · obtain rfl : a2 = some ⟨b2, off2, none⟩ := by
            rcases ha2.out with h | h
            · rw [h] at hq; simp at hq
            · exact h
          obtain ⟨y, hy⟩ : ∃ y, q[j]? = some y := ⟨_, List.getElem?_eq_getElem hq⟩
          obtain ⟨k, F, R, e1, e2, e3, e4, e5⟩ := pieces_step A G B x y HJ.out.1
          have HG2 := hid (fun W g v => HG.out y (B ++ x) k F R W g v e1 e2 e3)
          have hF : F.size ≤ 18300 := by omega
          have HE := hid (And.intro e4 (show A.size ≤ 300 * j from HJ.out.2.1))
          have HC3 := hid (fun W (hW : Below w.heap.size w W) => HC2.out W hW j y hy)
          clear HG HJ e1 e2 e3 e4 e5 HC2 hy
          generalize B ++ x = C at *
          go_wp2_with fail
          refine Calls.mono (HP2.out _ _ _ H2.out) ?_
          rintro e w3 ⟨rfl, v3, H3⟩
          have d0 := HC3.out _ H3.out.below
          go_wp2_with fail
          refine Calls.mono (HG2.out _ _ _ H3.out) ?_
          rintro e w4 ⟨rfl, v4, H4⟩
          go_wp2
          have hk := HK.out
          go_roundg (gk - 1)
          case measure => omega
          case rel => exact ⟨j + 1, v4, A ++ x, G ++ F, R, rfl, rfl, by simp, by omega, HE.out.1, by rw [ByteArray.size_append]; have := HE.out.2; omega, H4.out⟩
        · have HE := hid (And.intro HJ.out.1 (show A.size ≤ 300 * j from HJ.out.2.1))
          clear HG HJ HC2
          go_wp2_with fail
          refine Calls.mono (HP2.out _ _ _ H2.out) ?_
          rintro e w3 ⟨rfl, v3, H3⟩
          go_wp2
          have hk := HK.out
          go_roundg (gk - 1)
          case measure => omega
          case rel => exact ⟨j + 1, v3, A ++ x, G, B ++ x, rfl, rfl, by simp, by omega, by rw [← ByteArray.append_assoc, HE.out.1], by rw [ByteArray.size_append]; have := HE.out.2; omega, H3.out⟩
    · obtain ⟨e1, e2, e3⟩ := pieces_last B hB
      have HG2 := hid (fun W g v => HG.out 1099511627776 B B.size B ⟨#[]⟩ W g v e1 e2 e3)
      have z1 : ((G ++ B).toList == A.toList) = true := beq_list_of_eq HJ.out.1
      clear HP HG HS HC HC2 hk e1 e2 e3 HJ
      go_wp2_with fail
      refine Calls.mono (HG2.out _ _ _ H2.out) ?_
      rintro e w3 ⟨rfl, v3, H3⟩
      go_wp2_with fail
      refine Calls.mono (HL.out _ _ _ H3.out) ?_
      rintro e w4 ⟨rfl, rfl⟩
      go_wp2
      go_ret
      exact ⟨rfl, H3.out.below⟩
theorem pieces_true (a : Option Addr) (cap : Nat) (l : List ByteArray) (a2 : Option Addr) (cap2 : Nat) (q : List Int) (w : World) (h : Strs w a l) (h2 : Ints w a2 q) : Calls Try.prog 4 #[.slice a l.length cap, .slice a2 q.length cap2] w (Fine w) := by
  by_cases ho : 60 < l.length ∨ 200 < q.length
  · exact pieces_off a a2 _ cap _ cap2 w ho h.2.1 h2.2
  · obtain ⟨b, off, ha, hC⟩ := h.at
    obtain ⟨b2, off2, ha2, hC2⟩ := h2.at
    exact pieces_main a a2 b off cap b2 off2 cap2 l q w (by omega) (by omega) ha hC ha2 hC2 h.2.2
end Go.Proofs.Ytibkgffkmfknjaa
