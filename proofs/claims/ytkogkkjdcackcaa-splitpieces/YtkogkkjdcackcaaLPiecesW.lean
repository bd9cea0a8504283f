/-
  The law SplitPieces as a walk.
-/
import Derived.Test.YtkogkkjdcackcaaLPieceS
import Derived.Test.YtkogkkjdcackcaaLPlaysW
namespace Go.Proofs.Ytkogkkjdcackcaa
open Go.RowKit

theorem Hold.to_pieces {W w : World} {g sc kc lc : Nat} {v sl : Value} {B : ByteArray} {k : Nat} (h : Hold W w [vrT kc (.int .i64 (k : Int)) 3, vrT sc (.pointer (some ⟨g, 0, none⟩)) 25, spT g v 512 false B, vrT lc sl 38]) : Hold W w (pieces g sc kc lc v B k sl) :=
  h.perm ((List.Perm.cons _ (List.Perm.swap _ _ _)).trans (List.Perm.swap _ _ _))
theorem Few.drop_size {l : List Frm} (h : Few 512 l) (hn : l.length ≤ 30) (k : Nat) (B R : ByteArray) (e : B ++ R = catA (l.drop k)) : B.size + R.size ≤ 15630 := by
  have h1 := catA_size 512 (l.drop k) fun f hf => h f (List.mem_of_mem_drop hf)
  have h2 : (l.drop k).length ≤ 30 := by simp; omega
  have h3 := Nat.mul_le_mul (Nat.le_refl (512 + 9)) h2
  rw [← e, ByteArray.size_append] at h1
  omega
theorem cut_join (B S : ByteArray) (q : Nat) (T : ByteArray) (h : B ++ S = T) : B ++ S.extract 0 q ++ S.extract q S.size = T := by
  rw [ByteArray.append_assoc, parts_join, h]
attribute [local irreducible] putA right nums str nextR catA Few

set_option maxRecDepth 100000 in
theorem pieces_off0 (a a2 : Option Addr) (n cap n2 cap2 : Nat) (w : World) (h : 30 < n) : Calls Try.prog 4 #[.slice a n cap, .slice a2 n2 cap2] w (Fine w) := by
  have HA : Hid (∀ W, Calls Try.prog 9 #[] W fun e w' => e = .returned (.bool true) ∧ Keeps nobody W w') := alive_ok
  go_enter Try.func4, Try.ntmps4
  go_wp2_with fail
  refine Calls.mono (HA.out _) ?_
  rintro e w1 ⟨rfl, k1⟩
  go_wp2
  go_ret
  exact ⟨rfl, below_of_keeps ((keeps_alloc _ _).then k1)⟩
set_option maxRecDepth 100000 in
theorem pieces_off1 (a a2 : Option Addr) (n cap n2 cap2 : Nat) (w : World) (h0 : n ≤ 30) (h : 100 < n2) : Calls Try.prog 4 #[.slice a n cap, .slice a2 n2 cap2] w (Fine w) := by
  have HA : Hid (∀ W, Calls Try.prog 9 #[] W fun e w' => e = .returned (.bool true) ∧ Keeps nobody W w') := alive_ok
  go_enter Try.func4, Try.ntmps4
  go_wp2_with fail
  refine Calls.mono (HA.out _) ?_
  rintro e w1 ⟨rfl, k1⟩
  go_wp2
  go_ret
  exact ⟨rfl, below_of_keeps ((keeps_alloc _ _).then k1)⟩

set_option maxRecDepth 100000 in
set_option maxHeartbeats 4000000 in
theorem pieces_main (a a2 : Option Addr) (b off cap b2 off2 cap2 : Nat) (l : List Frm) (qs : List Int) (w : World) (hn : l.length ≤ 30) (hn2 : qs.length ≤ 100)
    (ha : Hid (l = [] ∨ a = some ⟨b, off, none⟩)) (HC : Hid (∀ W, Below w.heap.size w W → At W b off l)) (ha2 : Hid (qs = [] ∨ a2 = some ⟨b2, off2, none⟩)) (HC2 : Hid (∀ W, Below w.heap.size w W → AtI W b2 off2 qs))
    (hsz : ∀ f ∈ l, f.body.size ≤ 140737488355328) : Calls Try.prog 4 #[.slice a l.length cap, .slice a2 qs.length cap2] w (Fine w) := by
  have HA : Hid (∀ W, Calls Try.prog 9 #[] W fun e w' => e = .returned (.bool true) ∧ Keeps nobody W w') := alive_ok
  have HS : Hid (∀ f ∈ l, f.body.size ≤ 140737488355328) := hsz
  have HN : Hid (∀ W ts, Hold w W ts → Calls Try.prog 10 #[.int .i64 512] W fun e w' => ∃ g v, e = .returned (.pointer (some ⟨g, 0, none⟩)) ∧ Hid (Hold w w' (spT g v 512 false ⟨#[]⟩ :: ts))) := fun W ts h => t_new h 512 (by decide) (by decide)
  have HP : Hid (∀ (f : Frm) W, Calls Try.prog 16 #[.agg #[.int .i64 f.kind, .int .i64 f.flags, .int .i64 f.id, .string f.body]] W fun e w' => e = .returned (.tuple #[.string (putA f), .bool (decide (right f))]) ∧ Keeps nobody W w') := fput_ok
  have HF : Hid (∀ B b W g v ts, B.size + b.size ≤ 140737488355328 → Hold w W (spT g v 512 false B :: ts) → Calls Try.prog 12 #[.pointer (some ⟨g, 0, none⟩), .string b] W fun e w' => e = .returned (.int .i64 (b.size : Int)) ∧ ∃ v', Hid (Hold w w' (spT g v' 512 false (B ++ b) :: ts))) := fun B b W g v ts hs h => t_feed h b hs
  have HH : Hid (∀ B W g v ts, Hold w W (spT g v 512 false B :: ts) → Calls Try.prog 13 #[.pointer (some ⟨g, 0, none⟩)] W fun e w' => e = .returned (.int .i64 (B.size : Int)) ∧ W = w') := fun B W g v ts h => t_held h
  have HQ : Hid (Few 512 l → ∀ g sc kc lc v B R k W, B ++ R = catA (l.drop k) → k ≤ l.length → Hold w W (pieces g sc kc lc v B k (.slice a l.length cap)) →
      Calls Try.prog 17 #[.pointer (some ⟨sc, 0, none⟩), .pointer (some ⟨kc, 0, none⟩), .pointer (some ⟨lc, 0, none⟩)] W fun e w' => e = .returned (.bool true) ∧
      ∃ k' v' B', Hid (B' ++ R = catA (l.drop k') ∧ k' ≤ l.length ∧ (R = ⟨#[]⟩ → l.length ≤ k') ∧ Hold w w' (pieces g sc kc lc v' B' k' (.slice a l.length cap)))) := fun hF g sc kc lc v B R k W hB hk hH => piece_ok w W g sc kc lc v B R k a b off cap l hn ha HC hF hB hk hH
  have hmf : ∀ (fn : Fn) (first cap : Array Value) (w : World), (Instr.makeFunc fn first cap).run Try.prog w = .ok (.func fn first cap) w := fun _ _ _ _ => rfl
  have H0 := hid ((hold_start w).var (.slice a l.length cap) 38)
  have HD : Hid (∀ W ts, Hold w W ts → At W b off l) := fun W ts h => HC.out W h.below
  have HD2 : Hid (∀ W ts, Hold w W ts → AtI W b2 off2 qs) := fun W ts h => HC2.out W h.below
  clear hsz HC HC2
  go_enter Try.func4, Try.ntmps4
  go_wp2_with fail
  refine Calls.mono (HA.out _) ?_
  rintro e w1 ⟨rfl, k1⟩
  have H1 := hid (H0.out.quiet k1)
  generalize w.heap.size = lc at *
  clear k1 HA H0
  obtain ⟨l0, _, _⟩ := H1.out.vr (g := lc) (v := .slice a l.length cap) (T := 38) (by simp)
  go_wp2_with fail
  clear l0
  go_loopg [5, 31] l.length (fun k s i wr => ∃ (j : Nat) (S : ByteArray), s = .string S ∧ i = .int .i64 (j : Int) ∧ k + j = l.length ∧ Hid (S = catA (l.take j) ∧ Few 512 (l.take j) ∧ Hold w wr [vrT lc (.slice a l.length cap) 38]))
  case atStart => exact ⟨0, ⟨#[]⟩, rfl, rfl, rfl, by unfold catA; simp, by unfold Few; simp, H1.out⟩
  case round =>
    clear H1
    obtain ⟨j, S, rfl, rfl, hk, HJ⟩ := hrel
    have hBs : S.size ≤ 521 * 30 := by
      have := catA_size 512 _ HJ.out.2.1
      rw [← HJ.out.1] at this
      have hl : (l.take j).length ≤ 30 := by simp; omega
      have := Nat.mul_le_mul (show 512 + 9 ≤ 521 by omega) hl
      omega
    by_cases hj : j < l.length
    · obtain rfl : a = some ⟨b, off, none⟩ := by
        rcases ha.out with h | h
        · rw [h] at hj; simp at hj
        · exact h
      obtain ⟨f, hf⟩ : ∃ f, l[j]? = some f := ⟨_, List.getElem?_eq_getElem hj⟩
      have hsf := HS.out f (List.mem_of_getElem? hf)
      obtain ⟨c0, c1, c2, c3⟩ := HD.out _ _ HJ.out.2.2 j f hf
      have hP := hid (HP.out f)
      have HL := hid hf
      have HK := hid hk
      clear HP HD HS hf hk HF HH HQ HN HD2
      by_cases hr : right f
      · rw [decide_eq_true hr] at hP
        have hps := put_size f hr
        have HR := hid hr
        obtain ⟨fk, ff, fi, fb⟩ := f
        simp only at c0 c1 c2 c3 hsf hps
        clear hr
        have hbx := fun W => bx_new W ⟨fk, ff, fi, fb⟩
        by_cases h9 : fb.size ≤ 512
        · have HT := hid (catA_take l j _ HL.out)
          generalize putA ⟨fk, ff, fi, fb⟩ = PF at *
          go_wp2_with fail
          refine Calls.mono (hP.out _) ?_
          rintro e w3 ⟨rfl, k3⟩
          obtain ⟨b0, b1, b2, b3, _⟩ := (hbx wr).keeps k3 (fun h => h)
          simp only at b0 b1 b2 b3
          have H3 := hid ((HJ.out.2.2.quiet (keeps_alloc wr (frobj fk ff fi fb))).quiet k3)
          clear k3 hP c0 c1 c2 c3 hbx
          go_wp2
          have hk := HK.out
          go_roundg (gk - 1)
          case measure => omega
          case rel => exact ⟨j + 1, S ++ PF, rfl, by simp, by omega, by rw [HT.out, HJ.out.1], HJ.out.2.1.take_snoc HL.out HR.out h9, H3.out⟩
        · have h9' : 512 < fb.size := by omega
          generalize putA ⟨fk, ff, fi, fb⟩ = PF at *
          clear h9
          go_wp2_with fail
          refine Calls.mono (hP.out _) ?_
          rintro e w3 ⟨rfl, k3⟩
          obtain ⟨b0, b1, b2, b3, _⟩ := (hbx wr).keeps k3 (fun h => h)
          simp only at b0 b1 b2 b3
          have H3 := hid ((HJ.out.2.2.quiet (keeps_alloc wr (frobj fk ff fi fb))).quiet k3)
          clear k3 hP c0 c1 c2 c3 hbx
          go_wp2
          go_ret
          exact ⟨rfl, H3.out.below⟩
      · rw [decide_eq_false hr] at hP
        obtain ⟨fk, ff, fi, fb⟩ := f
        simp only at c0 c1 c2 c3 hsf
        clear hr
        generalize putA ⟨fk, ff, fi, fb⟩ = PF at *
        go_wp2_with fail
        refine Calls.mono (hP.out _) ?_
        rintro e w3 ⟨rfl, k3⟩
        have H3 := hid ((HJ.out.2.2.quiet (keeps_alloc wr (frobj fk ff fi fb))).quiet k3)
        clear k3 hP c0 c1 c2 c3
        go_wp2
        go_ret
        exact ⟨rfl, H3.out.below⟩
    · have hL : l.take j = l := List.take_of_length_le (by omega)
      rw [hL] at HJ
      have hj2 : l.length ≤ j := by omega
      have hQ := hid (HQ.out HJ.out.2.1)
      have HW := hid (HJ.out.2.1.drop_size hn)
      have HB := hid HJ.out.1
      have H2 := hid HJ.out.2.2
      clear hL hk HP HS HJ HD HQ
      go_wp2_with fail
      refine Calls.mono (HN.out _ _ H2.out) ?_
      rintro e w3 ⟨g, v3, rfl, H3⟩
      have H4 := hid (H3.out.var (.pointer (some ⟨g, 0, none⟩)) 25)
      have H5 := hid (H4.out.var (.int .i64 ((0 : Nat) : Int)) 3)
      have e5 : (w3.alloc (.cells #[.pointer (some ⟨g, 0, none⟩)] 25)).heap.size = w3.heap.size + 1 := by simp
      rw [e5] at H5
      have H6 := hid H5.out.to_pieces
      clear H2 H3 H4 H5 e5 HN
      go_wp2_with fail
      generalize w3.heap.size + 1 = kc at *
      generalize w3.heap.size = sc at *
      clear hj hj2
      obtain ⟨go, hgo⟩ : ∃ go : Nat, go = gk := ⟨_, rfl⟩
      subst hgo
      go_loopg [5, 58] qs.length (fun k s i wr => ∃ (j kk : Nat) (v : Value) (B S : ByteArray), s = .string S ∧ i = .int .i64 (j : Int) ∧ k + j = qs.length ∧ Hid (B ++ S = catA (l.drop kk) ∧ kk ≤ l.length ∧ Hold w wr (pieces g sc kc lc v B kk (.slice a l.length cap))))
      case atStart =>
        refine ⟨0, 0, v3, ⟨#[]⟩, S, rfl, rfl, rfl, ?_, Nat.zero_le _, H6.out⟩
        rw [none_append, List.drop_zero]
        exact HB.out
      case round =>
        clear H6 HB hBs
        obtain ⟨j, kk, v, B, S, rfl, rfl, hk, HJ⟩ := hrel
        have hBS := HW.out _ _ _ HJ.out.1
        obtain ⟨s0, s1, s2⟩ := HJ.out.2.2.vr (g := sc) (v := .pointer (some ⟨g, 0, none⟩)) (T := 25) (by simp)
        by_cases hj : j < qs.length
        · obtain rfl : a2 = some ⟨b2, off2, none⟩ := by
            rcases ha2.out with h | h
            · rw [h] at hj; simp at hj
            · exact h
          obtain ⟨y, hy⟩ : ∃ y, qs[j]? = some y := ⟨_, List.getElem?_eq_getElem hj⟩
          have c0 := HD2.out _ _ HJ.out.2.2 j y hy
          have hmax := max_zero y
          generalize y.toNat = z at *
          have hmin := min_nat z S.size
          have hz9 : min z S.size ≤ S.size := Nat.min_le_right _ _
          generalize min z S.size = q at *
          have hcj := hid (cut_join B S q _ HJ.out.1)
          have z1 : (S.extract 0 q).size = q := by rw [extract_size _ _ _ hz9]; omega
          have hF := hid (fun W v ts => HF.out B (S.extract 0 q) W g v ts (by omega))
          have sl1 : ∀ W, (Instr.slice 9 (.string S) none (some (.int .i64 (q : Int))) none).run Try.prog W = .ok (.string (S.extract 0 q)) W := fun W => by
            rw [run_slice_string_h W 9 S Try.underlying9 .i64 (q : Int) (by omega) (by omega)]
            simp
          have sl2 := slice_from S q hz9
          have HK := hid hk
          clear hk hy HF HH HD2 z1 HW
          generalize S.extract 0 q = S1 at *
          generalize S.extract q S.size = S2 at *
          go_wp2_with fail
          have hF2 := hid (fun n v ts => hF.out (wr.drewN n) v ts)
          go_region_law (go_simp; go_at_call 12; refine Calls.mono (hF.out _ _ _ (HJ.out.2.2.quiet (by first | exact Keeps.refl _ _ | exact (Keeps.refl _ _).drew))) ?_; rintro e w5 ⟨rfl, v5, H5⟩)
          all_goals
            have hQ2 := hid (hQ.out g sc kc lc v5 (B ++ S1) S2 kk w5 hcj.out HJ.out.2.1 H5.out)
            go_wp2_with fail
            refine Calls.mono hQ2.out ?_
            rintro e w6 ⟨rfl, k6, v6, B6, H6⟩
            go_wp2
            have hk := HK.out
            go_roundg (gk - 1)
            case measure => omega
            case rel => exact ⟨j + 1, k6, v6, B6, S2, rfl, by simp, by omega, H6.out.1, H6.out.2.1, H6.out.2.2.2⟩
        · have hj2 : qs.length ≤ j := by omega
          have hF := hid (fun W v ts => HF.out B S W g v ts (by omega))
          have HE : Hid (B ++ S ++ ⟨#[]⟩ = catA (l.drop kk)) := by
            show _ = _
            rw [append_none']
            exact HJ.out.1
          clear hk hj HF HD2 HW
          go_wp2_with fail
          refine Calls.mono (hF.out _ _ _ HJ.out.2.2) ?_
          rintro e w5 ⟨rfl, v5, H5⟩
          have hQ2 := hid (hQ.out g sc kc lc v5 (B ++ S) ⟨#[]⟩ kk w5 HE.out HJ.out.2.1 H5.out)
          clear hQ hF s0 s1 s2
          go_wp2_with fail
          refine Calls.mono hQ2.out ?_
          rintro e w6 ⟨rfl, k6, v6, B6, H6⟩
          obtain ⟨hB6, hk6, he6, hh6⟩ := H6.out
          obtain rfl : k6 = l.length := by have := he6 trivial; omega
          obtain rfl : B6 = ⟨#[]⟩ := by
            rw [append_none', List.drop_length] at hB6
            rw [hB6]
            unfold catA
            rfl
          obtain ⟨s0, _, _⟩ := hh6.vr (g := sc) (v := .pointer (some ⟨g, 0, none⟩)) (T := 25) (by simp)
          obtain ⟨k0, _, _⟩ := hh6.vr (g := kc) (v := .int .i64 (l.length : Int)) (T := 3) (by simp)
          obtain ⟨l0, _, _⟩ := hh6.vr (g := lc) (v := .slice a l.length cap) (T := 38) (by simp)
          have H7 := hid hh6
          clear hh6 hB6 hk6 he6 hQ2 H6 H5
          go_wp2_with fail
          refine Calls.mono (HH.out _ _ _ _ _ H7.out) ?_
          rintro e w7 ⟨rfl, rfl⟩
          go_wp2
          go_ret
          exact ⟨rfl, H7.out.below⟩
theorem pieces_true (a : Option Addr) (cap : Nat) (l : List Frm) (a2 : Option Addr) (cap2 : Nat) (qs : List Int) (w : World) (hF : Frs w a l) (hI : Ints w a2 qs) : Calls Try.prog 4 #[.slice a l.length cap, .slice a2 qs.length cap2] w (Fine w) := by
  by_cases h : 30 < l.length
  · exact pieces_off0 a a2 l.length cap qs.length cap2 w h
  · by_cases h2 : 100 < qs.length
    · exact pieces_off1 a a2 l.length cap qs.length cap2 w (by omega) h2
    · obtain ⟨b2, off2, h3, h4⟩ := atI_of hI
      obtain ⟨f1, _, f3⟩ := hF
      rcases f1 with rfl | ⟨b, off, rfl, hb, hc⟩
      · exact pieces_main a a2 0 0 cap b2 off2 cap2 [] qs w (by simp) (by omega) (.inl rfl) (fun W _ i f hi => by simp at hi) h3 h4 f3
      · exact pieces_main _ a2 b off cap b2 off2 cap2 l qs w (by omega) (by omega) (.inr rfl) (fun W hW => at_of hb hc W hW) h3 h4 f3
end Go.Proofs.Ytkogkkjdcackcaa
