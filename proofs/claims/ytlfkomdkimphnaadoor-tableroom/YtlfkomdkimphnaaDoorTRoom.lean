/-
  The law TableRoom as a walk.
-/
import Derived.Test.YtlfkomdkimphnaaDoorTLaw
namespace Go.Proofs.YtlfkomdkimphnaaDoor
open Go.RowKit

/-- What is there is some of what was added last: the k-th from the end. -/
theorem adds_tail (size : Nat) (l : List Fld) : ∃ m, m ≤ l.length ∧ adds size l = (l.reverse).take m := by
  by_cases h : l = []
  · subst h; exact ⟨0, by simp, rfl⟩
  · have : ∀ l : List Fld, ∃ m, m ≤ l.length ∧ adds size l.reverse = l.take m := by
      intro l
      induction l with
      | nil => exact ⟨0, by simp, rfl⟩
      | cons f l ih =>
        obtain ⟨m, hm, he⟩ := ih
        rw [List.reverse_cons, adds_snoc, he]
        unfold addL
        split
        · have := keep_prefix (l.take m) ((size : Int) - cost f)
          have hk := keep_length (l.take m) ((size : Int) - cost f)
          rw [List.length_take] at hk
          refine ⟨(keep ((size : Int) - cost f) (l.take m)).length + 1, by simp; omega, ?_⟩
          rw [this, List.take_take]
          simp only [List.take_succ_cons, List.length_take]
          congr 2
          omega
        · exact ⟨0, by simp, by simp⟩
    obtain ⟨m, hm, he⟩ := this l.reverse
    rw [List.reverse_reverse] at he
    exact ⟨m, by simpa using hm, he⟩
theorem adds_at (size : Nat) (l : List Fld) (j : Nat) (hj : j < l.length) : (adds size (l.take (j + 1))).length ≤ j + 1 ∧ ∀ k (hk : k < (adds size (l.take (j + 1))).length), ∃ hi : j - k < l.length, (adds size (l.take (j + 1)))[k] = l[j - k] := by
  obtain ⟨m, hm, he⟩ := adds_tail size (l.take (j + 1))
  have hl : (l.take (j + 1)).length = j + 1 := by rw [List.length_take]; omega
  rw [hl] at hm
  have hlen : (adds size (l.take (j + 1))).length = m := by rw [he, List.length_take, List.length_reverse, hl]; omega
  refine ⟨by omega, fun k hk => ⟨by omega, ?_⟩⟩
  simp only [he, List.getElem_take, List.getElem_reverse, hl]
  congr 1
theorem addL_some (size : Nat) (f : Fld) (l : List Fld) : (0 < (addL size f l).length) ↔ cost f ≤ size := by
  unfold addL
  split
  · simp; assumption
  · simp; omega

set_option maxRecDepth 100000 in
set_option maxHeartbeats 4000000 in
theorem tableRoom_true (size : Int) (a : Option Addr) (cap : Nat) (l : List Fld) (w : World) (hE : Env w) (hF : Flds w a l) : Calls Tryd.prog 4 #[.int .i64 size, .slice a l.length cap] w (Fine w) := by
  have hA : Hid (Calls Tryd.prog 9 #[] w fun e w' => e = .returned (.bool true) ∧ Below w.heap.size w w') := alive_true w hE
  have hlen := hF.len
  by_cases hgo : (0 ≤ size ∧ size ≤ 512) ∧ l.length ≤ 60
  · obtain ⟨⟨h1, h2⟩, h3⟩ := hgo
    obtain ⟨n, rfl⟩ : ∃ n : Nat, size = (n : Int) := ⟨size.toNat, by omega⟩
    have hn : n ≤ 512 := by omega
    have HF := hid hF
    clear hF hE h1 h2
    go_enter Tryd.func4, Tryd.ntmps4
    go_wp2_with fail
    refine Calls.mono hA.out ?_
    rintro e w1 ⟨rfl, hB1⟩
    go_wp2_with fail
    refine Calls.mono (g_new hB1 n hn) ?_
    rintro e w2 ⟨g, v2, rfl, G2, _, _⟩
    go_wp2
    go_loopg [32] l.length (fun k iv wr => ∃ (j : Nat) (v : Value), iv = .int .i64 j ∧ k + j = l.length ∧ Hid (Good w wr g v n (adds n (l.take j))))
    case atStart => exact ⟨0, v2, rfl, rfl, by simpa [adds, Hid] using G2⟩
    case round =>
      obtain ⟨j, v, rfl, hk, G⟩ := hrel
      clear G2 hB1
      by_cases hj : j < l.length
      · obtain ⟨b, off, rfl, hb, hc⟩ := HF.out.addr (by omega)
        obtain ⟨c0, c1⟩ := hc wr j hj G.out.below
        obtain ⟨s0, s1⟩ := HF.out.size j hj
        have hsn := hid (adds_take n l j hj)
        have hsm := hid (addL_some n (l[j]'hj) (adds n (l.take j)))
        have hat := hid (adds_at n l j hj)
        have hfits := hid (adds_fits n (l.take (j + 1)))
        have HC := hid hc
        have hbw : b < wr.heap.size := Nat.lt_of_lt_of_le hb G.out.below.size
        obtain ⟨f, hf⟩ : ∃ f, l[j]'hj = f := ⟨_, rfl⟩
        rw [hf] at c0 c1 s0 s1 hsn hsm
        clear hc HF hf
        obtain ⟨fa, fb⟩ := f
        simp only at c0 c1 s0 s1
        by_cases hbig : 800 < fa.size + fb.size
        · have hBe := (G.out.quiet (keeps_alloc wr (.cells #[.string fa, .string fb] 28))).below
          clear G hsn hsm hat hfits HC
          have hbig' : (800 : Int) < (fa.size : Int) + (fb.size : Int) := by omega
          go_wp2
          go_ret
          exact ⟨rfl, hBe⟩
        · have hbig' : ¬ (800 : Int) < (fa.size : Int) + (fb.size : Int) := by omega
          have HK := hid hk
          clear hk
          have hC : Hid (∀ w, Calls Tryd.prog 25 #[fval (fa, fb)] w fun e w' => e = .returned (.int .i64 (cost (fa, fb) : Int)) ∧ w' = w.alloc (.cells #[.string fa, .string fb] 28)) := fun w => cost_ok (fa, fb) w (by simp only; omega)
          go_wp2_with fail
          have KB := keeps_alloc wr (.cells #[.string fa, .string fb] 28)
          have GB := G.out.quiet KB
          refine Calls.mono (g_add GB (fa, fb) (by simp only; omega)) ?_
          rintro e w3 ⟨rfl, v3, G3, K3, _⟩
          have hbx : w3.heap[wr.heap.size]? = some (.cells #[.string fa, .string fb] 28 (0, 0)) := by
            rw [K3.block _ (by simp) (fun hk => by have := G.out.tab.footlt _ hk; omega)]; exact heap_alloc_new wr _
          rw [← hsn.out] at G3 hsm
          generalize hL : adds n (l.take (j + 1)) = L at *
          have HL := hid hL
          clear hL
          clear hsn GB KB G K3 c0 c1
          go_wp2_with fail
          refine Calls.mono (g_all G3) ?_
          rintro e w4 ⟨s4, c4, rfl, R4, G4, K4⟩
          have hll := G4.tab.length
          go_wp2_with fail
          refine Calls.mono (g_used G4) ?_
          rintro e w5 ⟨rfl, G5, K5⟩
          have hbx5 : w5.heap[wr.heap.size]? = some (.cells #[.string fa, .string fb] 28 (0, 0)) := by
            have hlt := (Array.getElem?_eq_some_iff.1 hbx).1
            rw [(K4.then K5).block _ hlt id]; exact hbx
          have x0 : w5.cell? ⟨wr.heap.size, 0, none⟩ = some (.string fa) := by simp [World.cell?, hbx5]
          have x1 : w5.cell? ⟨wr.heap.size, 1, none⟩ = some (.string fb) := by simp [World.cell?, hbx5]
          have R5 := hid (K5.row R4 (fun _ _ => id))
          have q1 : ¬ n < sum L := by have := hfits.out; omega
          have q2 : ¬ (j : Int) + 1 < (L.length : Int) := by have := hat.out.1; omega
          have q2' : (L.length : Int) ≤ (j : Int) + 1 := by omega
          have hcc : cost (fa, fb) ≤ 832 := by unfold cost; simp only; omega
          have q3 : (decide (0 < L.length) == decide (cost (fa, fb) ≤ n)) = true := by
            have := hsm.out
            by_cases h : cost (fa, fb) ≤ n
            · rw [decide_eq_true (this.2 h), decide_eq_true h]; rfl
            · rw [decide_eq_false (fun h6 => h (this.1 h6)), decide_eq_false h]; rfl
          have G5' := hid G5
          clear hbx hbx5 G3 G4 R4 hsm hfits K4 G5
          go_wp2_with fail
          refine Calls.mono (hC.out _) ?_
          rintro e w6 ⟨rfl, hw6⟩
          have K6 : Keeps nobody w5 w6 := by rw [hw6]; exact keeps_alloc w5 _
          have G6 := hid (G5'.out.quiet K6)
          have R6 := hid (K6.row R5.out (fun _ _ => id))
          generalize cost (fa, fb) = c at *
          clear hw6 G5' R5 hC x0 x1 K6
          go_wp2
          obtain ⟨go, hgo⟩ : ∃ go : Nat, go = gk := ⟨_, rfl⟩
          subst hgo
          obtain ⟨wo, hwo⟩ : ∃ wo : World, wo = wr := ⟨_, rfl⟩
          subst hwo
          go_loopg [73] L.length (fun kk iv wx => ∃ q : Nat, iv = .int .i64 q ∧ kk + q = L.length ∧ Keeps nobody w6 wx)
          case atStart => exact ⟨0, rfl, rfl, Keeps.refl _ _⟩
          case round =>
            obtain ⟨q, rfl, hkq, hKq⟩ := hrel
            by_cases hq : q < L.length
            · obtain ⟨hi, hLq⟩ := hat.out.2 q hq
              have hqj : q ≤ j := by omega
              rcases R6.out.2 with ⟨_, hn0⟩ | ⟨rb, cc, cur, hs4, _, _, hnc, hcm, _⟩
              · omega
              · simp only [Value.slice.injEq] at hs4
                obtain ⟨rfl, _, rfl⟩ := hs4
                have hrb := (R6.out.lt rb rfl).2
                obtain ⟨d0, d1⟩ := row_cells R6.out q hq
                rw [← hKq.cell (p := ⟨rb, q * 2, none⟩) hrb id] at d0
                rw [← hKq.cell (p := ⟨rb, q * 2 + 1, none⟩) hrb id] at d1
                have GX := G6.out.quiet hKq
                obtain ⟨e0, e1⟩ := HC.out wr (j - q) hi GX.below
                rw [hLq] at d0 d1
                have hp : (j : Int) - (q : Int) = ((j - q : Nat) : Int) := by omega
                have hpl : j - q < l.length := hi
                generalize l[j - q] = x at *
                obtain ⟨xa, xb⟩ := x
                simp only at d0 d1 e0 e1
                generalize j - q = p at *
                have hbX : b < wr.heap.size := Nat.lt_of_lt_of_le hb GX.below.size
                have hrX : rb < wr.heap.size := Nat.lt_of_lt_of_le hrb hKq.size
                have z1 : (xa.toList == xa.toList) = true := beq_list_of_eq rfl
                have z2 : (xb.toList == xb.toList) = true := beq_list_of_eq rfl
                have HKq := hid hkq
                unfold maxLen at hcm
                clear hat hkq hLq GX HC R6 G6 q1 q2 q3
                go_wp2
                go_region
                go_wp2
                have hkq := HKq.out
                go_roundg (gk - 1)
                case measure => omega
                case rel => exact ⟨q + 1, by simp, by omega, hKq.drew⟩
            · have H7 := hid (G6.out.quiet hKq)
              clear hat HC R6 G6 q1 q3 hkq
              go_wp2
              have hk := HK.out
              go_roundg (go - 1)
              case measure => omega
              case rel => exact ⟨j + 1, v3, by simp, by omega, by rw [HL.out]; exact H7⟩
      · have hBe := G.out.below
        clear G HF
        go_wp2
        go_ret
        exact ⟨rfl, hBe⟩
  · have hbad : size < 0 ∨ 0 ≤ size ∧ 512 < size ∨ (0 ≤ size ∧ size ≤ 512) ∧ (60 : Int) < l.length := by omega
    clear hgo hF hE
    rcases hbad with h1 | ⟨h1, h2⟩ | ⟨⟨h1, h2⟩, h3⟩
    all_goals
      go_enter Tryd.func4, Tryd.ntmps4
      go_wp2_with fail
      refine Calls.mono hA.out ?_
      rintro e w1 ⟨rfl, hB1⟩
      go_wp2
      go_ret
      exact ⟨rfl, hB1⟩
end Go.Proofs.YtlfkomdkimphnaaDoor
