/-
  The law SplitPlays as a walk.
-/
import Derived.Test.YtkogkkjdcackcaaLPlayS
import Derived.Test.YtkogkkjdcackcaaLCat
import Derived.Deep.DeepCutAuto
namespace Go.Proofs.Ytkogkkjdcackcaa
open Go.RowKit
attribute [local irreducible] putA right nums str nextR fedN fedB

set_option maxRecDepth 100000 in
theorem plays_off (m : Int) (a a2 : Option Addr) (n cap n2 cap2 : Nat) (w : World) (h : 60 < n) : Calls Try.prog 3 #[.int .i64 m, .slice a n cap, .slice a2 n2 cap2] w (Fine w) := by
  have HA : Hid (∀ W, Calls Try.prog 9 #[] W fun e w' => e = .returned (.bool true) ∧ Keeps nobody W w') := alive_ok
  go_enter Try.func3, Try.ntmps3
  go_wp2_with fail
  refine Calls.mono (HA.out _) ?_
  rintro e w1 ⟨rfl, k1⟩
  go_wp2
  go_ret
  exact ⟨rfl, below_of_keeps k1⟩

set_option maxRecDepth 100000 in
theorem plays_none (m : Int) (a a2 : Option Addr) (n cap n2 cap2 : Nat) (w : World) (h : n ≤ 60) (hm : m < 64 ∨ 512 < m) : Calls Try.prog 3 #[.int .i64 m, .slice a n cap, .slice a2 n2 cap2] w (Fine w) := by
  have HA : Hid (∀ W, Calls Try.prog 9 #[] W fun e w' => e = .returned (.bool true) ∧ Keeps nobody W w') := alive_ok
  have HN : Hid (∀ W, Calls Try.prog 10 #[.int .i64 m] W fun e w' => e = .returned (.pointer none) ∧ W = w') := fun W => new_no m W hm
  have HX : Hid (∀ W, Calls Try.prog 11 #[.pointer none] W fun e w' => e = .returned (.tuple #[.agg #[.int .i64 0, .int .i64 0, .int .i64 0, .string ⟨#[]⟩], .bool false, .int .i64 8]) ∧ Keeps nobody W w') := next_nil
  have HF : Hid (∀ W s, Calls Try.prog 12 #[.pointer none, .string s] W fun e w' => e = .returned (.int .i64 0) ∧ W = w') := fun W s => feed_nil s W
  have HH : Hid (∀ W, Calls Try.prog 13 #[.pointer none] W fun e w' => e = .returned (.int .i64 0) ∧ W = w') := held_nil
  have HO : Hid (∀ W, Calls Try.prog 14 #[.pointer none] W fun e w' => e = .returned (.bool true) ∧ W = w') := over_nil
  by_cases h1 : m < 64
  · clear hm
    go_enter Try.func3, Try.ntmps3
    go_wp2_with fail
    refine Calls.mono (HA.out _) ?_
    rintro e w1 ⟨rfl, k1⟩
    go_wp2_with fail
    refine Calls.mono (HN.out _) ?_
    rintro e w2 ⟨rfl, rfl⟩
    go_wp2_with fail
    refine Calls.mono (HX.out _) ?_
    rintro e w2 ⟨rfl, k2⟩
    go_wp2_with fail
    refine Calls.mono (HF.out _ _) ?_
    rintro e w3 ⟨rfl, rfl⟩
    go_wp2_with fail
    refine Calls.mono (HH.out _) ?_
    rintro e w3 ⟨rfl, rfl⟩
    go_wp2_with fail
    refine Calls.mono (HO.out _) ?_
    rintro e w3 ⟨rfl, rfl⟩
    go_wp2
    go_ret
    exact ⟨rfl, below_of_keeps ((k1.then k2).alloc _)⟩
  · have h2 : 512 < m := by omega
    have h3 : 64 ≤ m := by omega
    clear hm h1
    go_enter Try.func3, Try.ntmps3
    go_wp2_with fail
    refine Calls.mono (HA.out _) ?_
    rintro e w1 ⟨rfl, k1⟩
    go_wp2_with fail
    refine Calls.mono (HN.out _) ?_
    rintro e w2 ⟨rfl, rfl⟩
    go_wp2_with fail
    refine Calls.mono (HX.out _) ?_
    rintro e w2 ⟨rfl, k2⟩
    go_wp2_with fail
    refine Calls.mono (HF.out _ _) ?_
    rintro e w3 ⟨rfl, rfl⟩
    go_wp2_with fail
    refine Calls.mono (HH.out _) ?_
    rintro e w3 ⟨rfl, rfl⟩
    go_wp2_with fail
    refine Calls.mono (HO.out _) ?_
    rintro e w3 ⟨rfl, rfl⟩
    go_wp2
    go_ret
    exact ⟨rfl, below_of_keeps ((k1.then k2).alloc _)⟩

set_option maxRecDepth 100000 in
set_option maxHeartbeats 4000000 in
theorem plays_main (m : Nat) (a a2 : Option Addr) (b off cap b2 off2 cap2 : Nat) (l : List ByteArray) (qs : List Int) (w : World) (h1 : 64 ≤ m) (h2 : m ≤ 512) (hn : l.length ≤ 60)
    (ha : Hid (l = [] ∨ a = some ⟨b, off, none⟩)) (HC : Hid (∀ W, Below w.heap.size w W → AtS W b off l)) (ha2 : Hid (qs = [] ∨ a2 = some ⟨b2, off2, none⟩)) (HC2 : Hid (∀ W, Below w.heap.size w W → AtI W b2 off2 qs))
    (hsz : ∀ x ∈ l, x.size ≤ 140737488355328) : Calls Try.prog 3 #[.int .i64 (m : Int), .slice a l.length cap, .slice a2 qs.length cap2] w (Fine w) := by
  have HA : Hid (∀ W, Calls Try.prog 9 #[] W fun e w' => e = .returned (.bool true) ∧ Keeps nobody W w') := alive_ok
  have HS : Hid (∀ x ∈ l, x.size ≤ 140737488355328) := hsz
  have HN : Hid (∀ W ts, Hold w W ts → Calls Try.prog 10 #[.int .i64 (m : Int)] W fun e w' => ∃ g v, e = .returned (.pointer (some ⟨g, 0, none⟩)) ∧ Hid (Hold w w' (spT g v m false ⟨#[]⟩ :: ts))) := fun W ts h => t_new h m h1 h2
  have HF : Hid (∀ o B b W g v ts, B.size + b.size ≤ 140737488355328 → Hold w W (spT g v m o B :: ts) → Calls Try.prog 12 #[.pointer (some ⟨g, 0, none⟩), .string b] W fun e w' => e = .returned (.int .i64 (fedN o b : Int)) ∧ ∃ v', Hid (Hold w w' (spT g v' m o (fedB o B b) :: ts))) := fun o B b W g v ts hs h => t_fed h b hs
  have HX : Hid (∀ o B W g v ts, Hold w W (spT g v m o B :: ts) → Calls Try.prog 11 #[.pointer (some ⟨g, 0, none⟩)] W fun e w' => e = .returned (nextV (nextR m o B).1) ∧ ∃ v', Hid (Hold w w' (spT g v' m (nextR m o B).2.1 (nextR m o B).2.2 :: ts))) := fun o B W g v ts h => t_next h
  have HY : Hid (∀ o B W rg t ts, Hold w W (t :: rpT rg m o B :: ts) → Calls Try.prog 15 #[.pointer (some ⟨rg, 0, none⟩)] W fun e w' => e = .returned (nextV (nextR m o B).1) ∧ Hid (Hold w w' (t :: rpT rg m (nextR m o B).2.1 (nextR m o B).2.2 :: ts))) := fun o B W rg t ts h => t_rnext h
  have HH : Hid (∀ o B W g v ts, Hold w W (spT g v m o B :: ts) → Calls Try.prog 13 #[.pointer (some ⟨g, 0, none⟩)] W fun e w' => e = .returned (.int .i64 (B.size : Int)) ∧ w' = W) := fun o B W g v ts h => (t_held h).mono fun _ _ h => ⟨h.1, h.2.symm⟩
  have HO : Hid (∀ o B W g v ts, Hold w W (spT g v m o B :: ts) → Calls Try.prog 14 #[.pointer (some ⟨g, 0, none⟩)] W fun e w' => e = .returned (.bool o) ∧ w' = W) := fun o B W g v ts h => (t_over h).mono fun _ _ h => ⟨h.1, h.2.symm⟩
  clear hsz
  go_enter Try.func3, Try.ntmps3
  go_wp2_with fail
  refine Calls.mono (HA.out _) ?_
  rintro e w1 ⟨rfl, k1⟩
  have H1 := hid ((hold_start w).quiet k1)
  clear k1 HA
  go_wp2_with fail
  refine Calls.mono (HN.out _ _ H1.out) ?_
  rintro e w2 ⟨g, v, rfl, H2⟩
  have H3 := hid (H2.out.rnew m)
  clear H1 HN H2
  go_wp2_with fail
  generalize w2.heap.size = rg at *
  go_loopg [76] l.length (fun k i wr => ∃ (j : Nat) (v : Value) (o : Bool) (B : ByteArray), i = .int .i64 (j : Int) ∧ k + j = l.length ∧ Hid (B.size ≤ 900 * j ∧ Hold w wr [spT g v m o B, rpT rg m o B]))
  case atStart => exact ⟨0, v, false, ⟨#[]⟩, rfl, rfl, by decide, H3.out⟩
  case round =>
    clear H3
    obtain ⟨j, v, o, B, rfl, hk, HJ⟩ := hrel
    by_cases hj : j < l.length
    · obtain rfl : a = some ⟨b, off, none⟩ := by
        rcases ha.out with h | h
        · rw [h] at hj; simp at hj
        · exact h
      obtain ⟨x, hx⟩ : ∃ x, l[j]? = some x := ⟨_, List.getElem?_eq_getElem hj⟩
      have hsx := HS.out x (List.mem_of_getElem? hx)
      have c0 := HC.out _ HJ.out.2.below j x hx
      have hBs : B.size ≤ 54000 := by have := HJ.out.1; omega
      have HK := hid hk
      clear hk hx HS HC
      by_cases h9 : 900 < x.size
      · clear HF HX HY HH HO
        go_wp2
        go_ret
        exact ⟨rfl, HJ.out.2.below⟩
      · obtain ⟨r0, r1, r2, r3⟩ := HJ.out.2.rp.cells
        go_upto_if 89 with fail
        go_cut [15] (fun n wx => n = .int .i64 (fedN o x : Int) ∧ Hid (Hold w wx [spT g v m o B, rpT rg m o (fedB o B x)]))
        case first =>
          clear HF HX HY HH HO
          cases o
          · have hcat : B.size + x.size ≤ 54900 := by omega
            have H4 := hid (HJ.out.2.rput x (by rw [ByteArray.size_append]; omega))
            go_wp2_with fail
            go_meet
            exact ⟨by unfold fedN; rfl, by unfold fedB; exact H4⟩
          · have H4 := hid HJ.out.2
            go_wp2_with fail
            go_meet
            exact ⟨by unfold fedN; rfl, by unfold fedB; exact H4⟩
        case rest =>
          obtain ⟨rfl, H4⟩ := hcut
          have hF := hid (fun W g v ts => HF.out o B x W g v ts (by omega))
          have hfs : (fedB o B x).size ≤ 54900 := by have := fedB_size o B x; omega
          have HZ : Hid ((fedB o B x).size ≤ 900 * (j + 1)) := by
            have := fedB_size o B x
            have := HJ.out.1
            show (fedB o B x).size ≤ 900 * (j + 1)
            omega
          clear HF HJ r0 r1 r2 r3 hBs c0
          generalize fedB o B x = B1 at *
          generalize fedN o x = n1 at *
          go_wp2_with fail
          refine Calls.mono (hF.out _ _ _ _ H4.out) ?_
          rintro e w5 ⟨rfl, v5, H5⟩
          clear hF H4
          go_upto_if 106 with fail
          go_cut [16] (fun k wx => ∃ q : Nat, k = .int .i64 (q : Int) ∧ q ≤ 9 ∧ wx = w5)
          case first =>
            clear HX HY HH HO
            by_cases hq : j < qs.length
            · obtain rfl : a2 = some ⟨b2, off2, none⟩ := by
                rcases ha2.out with h | h
                · rw [h] at hq; simp at hq
                · exact h
              obtain ⟨y, hy⟩ : ∃ y, qs[j]? = some y := ⟨_, List.getElem?_eq_getElem hq⟩
              have c0 := HC2.out _ H5.out.below j y hy
              have hmax := max_zero y
              generalize y.toNat = z at *
              have hmin : ∀ ts t W, (Builtin.min_ ts t #[.int .i64 (z : Int), .int .i64 9]).run Try.prog W = .ok (.int .i64 ((min z 9 : Nat) : Int)) W := fun ts t W => min_nat z 9 ts t W
              have hz9 : min z 9 ≤ 9 := Nat.min_le_right _ _
              generalize min z 9 = z9 at *
              clear hy
              go_wp2_with fail
              go_meet
              exact ⟨z9, rfl, hz9, rfl⟩
            · go_wp2_with fail
              go_meet
              exact ⟨1, rfl, by decide, rfl⟩
          case rest =>
            obtain ⟨q, rfl, hq9, rfl⟩ := hcut
            go_wp2_with fail
            obtain ⟨go, hgo⟩ : ∃ go : Nat, go = gk := ⟨_, rfl⟩
            subst hgo
            go_loopg [16] q (fun k s wr => ∃ (v : Value) (o : Bool) (B : ByteArray), s = .int .i64 (k : Int) ∧ k ≤ 9 ∧ Hid (B.size ≤ 900 * (j + 1) ∧ Hold w wr [spT g v m o B, rpT rg m o B]))
            case atStart => exact ⟨v5, o, B1, rfl, hq9, HZ.out, H5.out⟩
            case round =>
              clear H5 HZ hfs
              obtain ⟨v, o, B, rfl, hk9, HJ⟩ := hrel
              by_cases hk : gk = 0
              · subst hk
                obtain ⟨r0, r1, r2, r3⟩ := HJ.out.2.rp.cells
                have hH := hid (fun n => HH.out o B (wr.drewN n) g v _ (HJ.out.2.quiet ((Keeps.refl _ _).drewN n)))
                have hO := hid (fun n => HO.out o B (wr.drewN n) g v _ (HJ.out.2.quiet ((Keeps.refl _ _).drewN n)))
                have hBs : B.size ≤ 54000 := by have := HJ.out.1; omega
                clear HX HY HH HO
                go_wp2_with fail
                go_quiet (first | (go_at_call 13; exact Calls.quiet_of_same (hH.out _)) | (go_at_call 14; exact Calls.quiet_of_same (hO.out _)))
                go_wp2
                have hk := HK.out
                go_roundg (go - 1)
                case measure => omega
                case rel => exact ⟨j + 1, v, o, B, by simp, by omega, HJ.out.1, HJ.out.2.quiet ((Keeps.refl _ _).drewN _)⟩
              · obtain ⟨r, rfl⟩ : ∃ r, gk = r + 1 := ⟨gk - 1, by omega⟩
                clear hk
                have hX := hid (fun W v ts => HX.out o B W g v ts)
                have hY := hid (fun W t ts => HY.out o B W rg t ts)
                have hsz2 := nextR_size m o B
                clear HX HY HH HO
                have H6 := hid HJ.out.2
                have HB6 : Hid ((nextR m o B).2.2.size ≤ 900 * (j + 1)) := Nat.le_trans hsz2 HJ.out.1
                clear hsz2 HJ
                generalize nextR m o B = N at *
                obtain ⟨⟨⟨fk, ff, fi, fb⟩, nb, ne⟩, o2, B2⟩ := N
                simp only at hX hY HB6
                go_wp2_with fail
                refine Calls.mono (hX.out _ _ _ H6.out) ?_
                rintro e w7 ⟨rfl, v7, H7⟩
                have H8 := hid (H7.out.box3 ⟨fk, ff, fi, fb⟩)
                clear H6 H7 hX
                go_wp2_with fail
                refine Calls.mono (hY.out _ _ _ H8.out) ?_
                rintro e w9 ⟨rfl, H9⟩
                have HT := hid (H9.out.quiet (keeps_alloc w9 (frobj fk ff fi fb)))
                obtain ⟨b0, b1, b2, b3, _⟩ := HT.out.bx (g := w7.heap.size) (f := ⟨fk, ff, fi, fb⟩) (by simp)
                simp only at b0 b1 b2 b3
                clear H8 H9 hY
                go_wp2
                go_roundg r
                case measure => omega
                case rel => exact ⟨v7, o2, B2, by simp, by omega, HB6.out, HT.out.sub (by simp)⟩
    · have hj2 : l.length ≤ j := by omega
      clear HF HX HY HH HO hk hj
      go_wp2
      go_ret
      exact ⟨rfl, HJ.out.2.below⟩
theorem atS_of {W : World} {a : Option Addr} {l : List ByteArray} (h : Strs W a l) : ∃ b off, (l = [] ∨ a = some ⟨b, off, none⟩) ∧ ∀ w, Below W.heap.size W w → AtS w b off l := by
  rcases h.1 with rfl | ⟨b, off, rfl, hb, hc⟩
  · exact ⟨0, 0, .inl rfl, fun w _ i x hi => by simp at hi⟩
  · exact ⟨b, off, .inr rfl, fun w hw i x hi => (below_cell hw hb).trans (hc i x hi)⟩
theorem atI_of {W : World} {a : Option Addr} {l : List Int} (h : Ints W a l) : ∃ b off, (l = [] ∨ a = some ⟨b, off, none⟩) ∧ ∀ w, Below W.heap.size W w → AtI w b off l := by
  rcases h.1 with rfl | ⟨b, off, rfl, hb, hc⟩
  · exact ⟨0, 0, .inl rfl, fun w _ i x hi => by simp at hi⟩
  · exact ⟨b, off, .inr rfl, fun w hw i x hi => (below_cell hw hb).trans (hc i x hi)⟩
theorem plays_true (m : Int) (a : Option Addr) (cap : Nat) (l : List ByteArray) (a2 : Option Addr) (cap2 : Nat) (qs : List Int) (w : World) (hS : Strs w a l) (hI : Ints w a2 qs) : Calls Try.prog 3 #[.int .i64 m, .slice a l.length cap, .slice a2 qs.length cap2] w (Fine w) := by
  by_cases h : 60 < l.length
  · exact plays_off m a a2 l.length cap qs.length cap2 w h
  · by_cases hm : m < 64 ∨ 512 < m
    · exact plays_none m a a2 l.length cap qs.length cap2 w (by omega) hm
    · obtain ⟨m, rfl⟩ := Int.eq_ofNat_of_zero_le (show 0 ≤ m by omega)
      obtain ⟨b, off, h1, h2⟩ := atS_of hS
      obtain ⟨b2, off2, h3, h4⟩ := atI_of hI
      exact plays_main m a a2 b off cap b2 off2 cap2 l qs w (by omega) (by omega) (by omega) h1 h2 h3 h4 hS.2.2
end Go.Proofs.Ytkogkkjdcackcaa
