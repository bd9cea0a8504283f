/-
  The law SplitGreat as a walk.
-/
import Derived.Test.YtkogkkjdcackcaaLCat
namespace Go.Proofs.Ytkogkkjdcackcaa
open Go.RowKit

def bigA (V : Nat) : ByteArray := str (bigL 3 V)
theorem bigA_size (V : Nat) : (bigA V).size = 3 := by rw [bigA, str_size, bigL_three]; rfl
theorem bigA_num (V : Nat) (h : V < 16777216) : num3 (bigA V) = V := by
  have e : nums (bigA V) = [V / 65536 % 256, V / 256 % 256, V % 256] := by
    rw [bigA, bigL_three, nums_str]
    intro x hx
    simp only [List.mem_cons, List.not_mem_nil, or_false] at hx
    omega
  rw [num3, nums_extract, e]
  simp [numL]
  omega
theorem big_next (m V : Nat) (h : m < V) (hV : V < 16777216) : nextR m false (bigA V) = ((noF, false, 5), true, ⟨#[]⟩) :=
  nextR_great _ _ ⟨by rw [bigA_size]; exact Nat.le_refl _, by rw [bigA_num V hV]; exact h⟩
attribute [local irreducible] putA right nums str nextR bigA catA Few

theorem great_off0 (m o : Int) (n cap : Nat) (a : Option Addr) (w : World) (bad : m < 64) : Calls Try.prog 5 #[.int .i64 m, .int .i64 o, .slice a n cap] w (Fine w) := by
  have HA : Hid (∀ W, Calls Try.prog 9 #[] W fun e w' => e = .returned (.bool true) ∧ Keeps nobody W w') := alive_ok
  go_enter Try.func5, Try.ntmps5
  go_wp2_with fail
  refine Calls.mono (HA.out _) ?_
  rintro e w1 ⟨rfl, k1⟩
  go_wp2
  go_ret
  exact ⟨rfl, below_of_keeps k1⟩

theorem great_off1 (m o : Int) (n cap : Nat) (a : Option Addr) (w : World) (g0 : 64 ≤ m) (bad : 512 < m) : Calls Try.prog 5 #[.int .i64 m, .int .i64 o, .slice a n cap] w (Fine w) := by
  have HA : Hid (∀ W, Calls Try.prog 9 #[] W fun e w' => e = .returned (.bool true) ∧ Keeps nobody W w') := alive_ok
  go_enter Try.func5, Try.ntmps5
  go_wp2_with fail
  refine Calls.mono (HA.out _) ?_
  rintro e w1 ⟨rfl, k1⟩
  go_wp2
  go_ret
  exact ⟨rfl, below_of_keeps k1⟩

theorem great_off2 (m o : Int) (n cap : Nat) (a : Option Addr) (w : World) (g0 : 64 ≤ m) (g1 : m ≤ 512) (bad : o < 1) : Calls Try.prog 5 #[.int .i64 m, .int .i64 o, .slice a n cap] w (Fine w) := by
  have HA : Hid (∀ W, Calls Try.prog 9 #[] W fun e w' => e = .returned (.bool true) ∧ Keeps nobody W w') := alive_ok
  go_enter Try.func5, Try.ntmps5
  go_wp2_with fail
  refine Calls.mono (HA.out _) ?_
  rintro e w1 ⟨rfl, k1⟩
  go_wp2
  go_ret
  exact ⟨rfl, below_of_keeps k1⟩

theorem great_off3 (m o : Int) (n cap : Nat) (a : Option Addr) (w : World) (g0 : 64 ≤ m) (g1 : m ≤ 512) (g2 : 1 ≤ o) (bad : 1000 < o) : Calls Try.prog 5 #[.int .i64 m, .int .i64 o, .slice a n cap] w (Fine w) := by
  have HA : Hid (∀ W, Calls Try.prog 9 #[] W fun e w' => e = .returned (.bool true) ∧ Keeps nobody W w') := alive_ok
  go_enter Try.func5, Try.ntmps5
  go_wp2_with fail
  refine Calls.mono (HA.out _) ?_
  rintro e w1 ⟨rfl, k1⟩
  go_wp2
  go_ret
  exact ⟨rfl, below_of_keeps k1⟩

theorem great_off4 (m o : Int) (n cap : Nat) (a : Option Addr) (w : World) (g0 : 64 ≤ m) (g1 : m ≤ 512) (g2 : 1 ≤ o) (g3 : o ≤ 1000) (bad : 10 < n) : Calls Try.prog 5 #[.int .i64 m, .int .i64 o, .slice a n cap] w (Fine w) := by
  have HA : Hid (∀ W, Calls Try.prog 9 #[] W fun e w' => e = .returned (.bool true) ∧ Keeps nobody W w') := alive_ok
  go_enter Try.func5, Try.ntmps5
  go_wp2_with fail
  refine Calls.mono (HA.out _) ?_
  rintro e w1 ⟨rfl, k1⟩
  go_wp2
  go_ret
  exact ⟨rfl, below_of_keeps k1⟩

set_option maxRecDepth 100000 in
set_option maxHeartbeats 2000000 in
theorem great_main (m o : Nat) (a : Option Addr) (b off cap : Nat) (l : List Frm) (w : World) (h1 : 64 ≤ m) (h2 : m ≤ 512) (h3 : 1 ≤ o) (h4 : o ≤ 1000) (hn : l.length ≤ 10)
    (ha : Hid (l = [] ∨ a = some ⟨b, off, none⟩)) (HC : Hid (∀ W, Below w.heap.size w W → At W b off l)) (hsz : ∀ f ∈ l, f.body.size ≤ 140737488355328) : Calls Try.prog 5 #[.int .i64 (m : Int), .int .i64 (o : Int), .slice a l.length cap] w (Fine w) := by
  have HA : Hid (∀ W, Calls Try.prog 9 #[] W fun e w' => e = .returned (.bool true) ∧ Keeps nobody W w') := alive_ok
  have HS : Hid (∀ f ∈ l, f.body.size ≤ 140737488355328) := hsz
  have HN : Hid (∀ W ts, Hold w W ts → Calls Try.prog 10 #[.int .i64 (m : Int)] W fun e w' => ∃ g v, e = .returned (.pointer (some ⟨g, 0, none⟩)) ∧ Hid (Hold w w' (spT g v m false ⟨#[]⟩ :: ts))) := fun W ts h => t_new h m h1 h2
  have HP : Hid (∀ (f : Frm) W, Calls Try.prog 16 #[.agg #[.int .i64 f.kind, .int .i64 f.flags, .int .i64 f.id, .string f.body]] W fun e w' => e = .returned (.tuple #[.string (putA f), .bool (decide (right f))]) ∧ Keeps nobody W w') := fput_ok
  have HF : Hid (∀ B b W g v ts, B.size + b.size ≤ 140737488355328 → Hold w W (spT g v m false B :: ts) → Calls Try.prog 12 #[.pointer (some ⟨g, 0, none⟩), .string b] W fun e w' => e = .returned (.int .i64 (b.size : Int)) ∧ ∃ v', Hid (Hold w w' (spT g v' m false (B ++ b) :: ts))) := fun B b W g v ts hs h => t_feed h b hs
  have HG : Hid (∀ W, Calls Try.prog 18 #[.int .i64 ((m + o : Nat) : Int), .int .i64 3] W fun e w' => e = .returned (.string (bigA (m + o))) ∧ Keeps nobody W w') := fun W => by
    unfold bigA
    exact big_ok (m + o) 3 W (by omega) (by decide) (by decide)
  have HX : Hid (∀ f T W g v ts, right f → f.body.size ≤ m → Hold w W (spT g v m false (putA f ++ T) :: ts) → Calls Try.prog 11 #[.pointer (some ⟨g, 0, none⟩)] W fun e w' => e = .returned (.tuple #[frval f, .bool true, .int .i64 0]) ∧ ∃ v', Hid (Hold w w' (spT g v' m false T :: ts))) := fun f T W g v ts hr hs h => by
    have := t_next h
    rwa [next_put m hr hs] at this
  have HY : Hid (∀ W g v ts, Hold w W (spT g v m false (bigA (m + o)) :: ts) → Calls Try.prog 11 #[.pointer (some ⟨g, 0, none⟩)] W fun e w' => e = .returned (.tuple #[.agg #[.int .i64 0, .int .i64 0, .int .i64 0, .string ⟨#[]⟩], .bool false, .int .i64 5]) ∧ ∃ v', Hid (Hold w w' (spT g v' m true ⟨#[]⟩ :: ts))) := fun W g v ts h => by
    have := t_next h
    rwa [big_next m (m + o) (by omega) (by omega)] at this
  have HZ : Hid (∀ W g v ts, Hold w W (spT g v m true ⟨#[]⟩ :: ts) → Calls Try.prog 11 #[.pointer (some ⟨g, 0, none⟩)] W fun e w' => e = .returned (.tuple #[.agg #[.int .i64 0, .int .i64 0, .int .i64 0, .string ⟨#[]⟩], .bool false, .int .i64 5]) ∧ ∃ v', Hid (Hold w w' (spT g v' m true ⟨#[]⟩ :: ts))) := fun W g v ts h => by
    have := t_next h
    rwa [nextR_over] at this
  have HH : Hid (∀ W g v ts, Hold w W (spT g v m true ⟨#[]⟩ :: ts) → Calls Try.prog 13 #[.pointer (some ⟨g, 0, none⟩)] W fun e w' => e = .returned (.int .i64 0) ∧ W = w') := fun W g v ts h => t_held h
  have HO : Hid (∀ W g v ts, Hold w W (spT g v m true ⟨#[]⟩ :: ts) → Calls Try.prog 14 #[.pointer (some ⟨g, 0, none⟩)] W fun e w' => e = .returned (.bool true) ∧ W = w') := fun W g v ts h => t_over h
  have HE : Hid (∀ W g v ts s, Hold w W (spT g v m true ⟨#[]⟩ :: ts) → Calls Try.prog 12 #[.pointer (some ⟨g, 0, none⟩), .string s] W fun e w' => e = .returned (.int .i64 0) ∧ W = w') := fun W g v ts s h => feed_over h.sp s
  have hadd : (m : Int) + (o : Int) = ((m + o : Nat) : Int) := by omega
  have hbz := bigA_size (m + o)
  have hmo : m + o ≤ 1512 := by omega
  generalize bigA (m + o) = BG at *
  generalize m + o = V at *
  clear hsz
  go_enter Try.func5, Try.ntmps5
  go_wp2_with fail
  refine Calls.mono (HA.out _) ?_
  rintro e w1 ⟨rfl, k1⟩
  have H1 := hid ((hold_start w).quiet k1)
  clear k1 HA
  go_wp2_with fail
  refine Calls.mono (HN.out _ _ H1.out) ?_
  rintro e w2 ⟨g, v, rfl, H2⟩
  clear H1 HN
  go_wp2_with fail
  go_loopg [53] l.length (fun k i wr => ∃ (j : Nat) (v : Value) (B : ByteArray), i = .int .i64 (j : Int) ∧ k + j = l.length ∧ Hid (B = catA (l.take j) ∧ Few m (l.take j) ∧ Hold w wr [spT g v m false B]))
  case atStart => exact ⟨0, v, ⟨#[]⟩, rfl, rfl, by unfold catA; simp, by unfold Few; simp, H2⟩
  case round =>
    clear H2
    obtain ⟨j, v, B, rfl, hk, HJ⟩ := hrel
    have hBs : B.size ≤ 521 * 10 := by
      have := catA_size m _ HJ.out.2.1
      rw [← HJ.out.1] at this
      have hl : (l.take j).length ≤ 10 := by simp; omega
      have := Nat.mul_le_mul (show m + 9 ≤ 521 by omega) hl
      omega
    by_cases hj : j < l.length
    · obtain rfl : a = some ⟨b, off, none⟩ := by
        rcases ha.out with h | h
        · rw [h] at hj; simp at hj
        · exact h
      obtain ⟨f, hf⟩ : ∃ f, l[j]? = some f := ⟨_, List.getElem?_eq_getElem hj⟩
      have hsf := HS.out f (List.mem_of_getElem? hf)
      obtain ⟨c0, c1, c2, c3⟩ := HC.out _ HJ.out.2.2.below j f hf
      have hP := hid (HP.out f)
      have HL := hid hf
      have HK := hid hk
      clear HP HC HS hf hk HX HY HZ HH HO HE HG
      by_cases hr : right f
      · rw [decide_eq_true hr] at hP
        have hps := put_size f hr
        have HR := hid hr
        obtain ⟨fk, ff, fi, fb⟩ := f
        simp only at c0 c1 c2 c3 hsf hps
        clear hr
        have hbx := fun W => bx_new W ⟨fk, ff, fi, fb⟩
        by_cases h9 : fb.size ≤ m
        · have hF := hid (fun W v => HF.out B (putA ⟨fk, ff, fi, fb⟩) W g v [] (by omega))
          have HT := hid (catA_take l j _ HL.out)
          generalize putA ⟨fk, ff, fi, fb⟩ = PF at *
          clear HF
          go_wp2_with fail
          refine Calls.mono (hP.out _) ?_
          rintro e w3 ⟨rfl, k3⟩
          obtain ⟨b0, b1, b2, b3, _⟩ := (hbx wr).keeps k3 (fun h => h)
          simp only at b0 b1 b2 b3
          have H3 := hid ((HJ.out.2.2.quiet (keeps_alloc wr (frobj fk ff fi fb))).quiet k3)
          clear k3 hP c0 c1 c2 c3 hbx
          go_wp2_with fail
          refine Calls.mono (hF.out _ _ H3.out) ?_
          rintro e w4 ⟨rfl, v4, H4⟩
          go_wp2
          have hk := HK.out
          go_roundg (gk - 1)
          case measure => omega
          case rel => exact ⟨j + 1, v4, B ++ PF, by simp, by omega, by rw [HT.out, HJ.out.1], HJ.out.2.1.take_snoc HL.out HR.out h9, H4.out⟩
        · have h9' : m < fb.size := by omega
          generalize putA ⟨fk, ff, fi, fb⟩ = PF at *
          clear HF h9
          go_wp2_with fail
          refine Calls.mono (hP.out _) ?_
          rintro e w3 ⟨rfl, k3⟩
          obtain ⟨b0, b1, b2, b3, _⟩ := (hbx wr).keeps k3 (fun h => h)
          simp only at b0 b1 b2 b3
          have H3 := hid ((HJ.out.2.2.quiet (keeps_alloc wr (frobj fk ff fi fb))).quiet k3)
          clear k3 hP c0 c1 c2 c3 hbx
          go_wp2
          go_ret
          exact ⟨rfl, H3.out.below⟩
      · rw [decide_eq_false hr] at hP
        obtain ⟨fk, ff, fi, fb⟩ := f
        simp only at c0 c1 c2 c3 hsf
        clear hr HF
        generalize putA ⟨fk, ff, fi, fb⟩ = PF at *
        go_wp2_with fail
        refine Calls.mono (hP.out _) ?_
        rintro e w3 ⟨rfl, k3⟩
        have H3 := hid ((HJ.out.2.2.quiet (keeps_alloc wr (frobj fk ff fi fb))).quiet k3)
        clear k3 hP c0 c1 c2 c3
        go_wp2
        go_ret
        exact ⟨rfl, H3.out.below⟩
    · have hL : l.take j = l := List.take_of_length_le (by omega)
      rw [hL] at HJ
      have hj2 : l.length ≤ j := by omega
      have hF := hid (fun W v => HF.out B BG W g v [] (by omega))
      have HW := hid HJ.out.2.1
      have HB := hid HJ.out.1
      have H2 := hid HJ.out.2.2
      clear hL hk HP HF HS HJ
      go_wp2_with fail
      refine Calls.mono (HG.out _) ?_
      rintro e w3 ⟨rfl, k3⟩
      have H3 := hid (H2.out.quiet k3)
      clear k3 H2 HG
      go_wp2_with fail
      refine Calls.mono (hF.out _ _ H3.out) ?_
      rintro e w4 ⟨rfl, v4, H4⟩
      clear H3 hF hj hj2
      go_wp2_with fail
      obtain ⟨go, hgo⟩ : ∃ go : Nat, go = gk := ⟨_, rfl⟩
      subst hgo
      go_loopg [83] l.length (fun k i wr => ∃ (j : Nat) (v : Value), i = .int .i64 (j : Int) ∧ k + j = l.length ∧ Hid (Hold w wr [spT g v m false (catA (l.drop j) ++ BG)]))
      case atStart => exact ⟨0, v4, rfl, rfl, by rw [List.drop_zero, ← HB.out]; exact H4⟩
      case round =>
        clear H4 HB hBs
        obtain ⟨q, v, rfl, hk, HJ⟩ := hrel
        by_cases hq : q < l.length
        · obtain rfl : a = some ⟨b, off, none⟩ := by
            rcases ha.out with h | h
            · rw [h] at hq; simp at hq
            · exact h
          obtain ⟨f, hf⟩ : ∃ f, l[q]? = some f := ⟨_, List.getElem?_eq_getElem hq⟩
          obtain ⟨c0, c1, c2, c3⟩ := HC.out _ HJ.out.below q f hf
          have hff : right f ∧ f.body.size ≤ m := by
            have := HW.out
            unfold Few at this
            exact this f (List.mem_of_getElem? hf)
          have HX2 := hid (fun W v ts => HX.out f (catA (l.drop (q + 1)) ++ BG) W g v ts hff.1 hff.2)
          have e : catA (l.drop q) ++ BG = putA f ++ (catA (l.drop (q + 1)) ++ BG) := by
            rw [drop_at l q f hf, catA, ByteArray.append_assoc]
          rw [e] at HJ
          have HK := hid hk
          clear hk e hff HX HY HZ HH HO HE HC HW hf
          generalize hT : catA (l.drop (q + 1)) ++ BG = T at *
          obtain ⟨fk, ff, fi, fb⟩ := f
          generalize putA ⟨fk, ff, fi, fb⟩ ++ T = PT at *
          simp only at c0 c1 c2 c3
          have H5 := hid (HJ.out.box2 ⟨fk, ff, fi, fb⟩)
          clear HJ
          go_wp2_with fail
          refine Calls.mono (HX2.out _ _ _ H5.out) ?_
          rintro e w6 ⟨rfl, v6, H6⟩
          have H7 := hid (H6.out.quiet (keeps_alloc w6 (frobj fk ff fi fb)))
          obtain ⟨b0, b1, b2, b3, _⟩ := H7.out.bx (g := wr.heap.size) (f := ⟨fk, ff, fi, fb⟩) (by simp)
          simp only at b0 b1 b2 b3
          clear H5 H6 HX2 c0 c1 c2 c3
          go_wp2
          have hk := HK.out
          go_roundg (gk - 1)
          case measure => omega
          case rel => exact ⟨q + 1, v6, by simp, by omega, by rw [hT]; exact H7.out.sub (by simp)⟩
        · have hd : l.drop q = [] := List.drop_eq_nil_of_le (by omega)
          rw [hd, catA, none_append] at HJ
          have hq2 : l.length ≤ q := by omega
          clear hd hk hq HX HC HW
          go_wp2_with fail
          refine Calls.mono (HY.out _ _ _ _ HJ.out) ?_
          rintro e w5 ⟨rfl, v5, H5⟩
          have H6 := hid (H5.out.quiet (keeps_alloc w5 (frobj 0 0 0 ⟨#[]⟩)))
          clear H5 HJ HY
          go_wp2_with fail
          refine Calls.mono (HZ.out _ _ _ _ H6.out) ?_
          rintro e w7 ⟨rfl, v7, H7⟩
          have H8 := hid (H7.out.quiet (keeps_alloc w7 (frobj 0 0 0 ⟨#[]⟩)))
          clear H6 H7 HZ
          go_wp2_with fail
          refine Calls.mono (HO.out _ _ _ _ H8.out) ?_
          rintro e w9 ⟨rfl, rfl⟩
          go_wp2_with fail
          refine Calls.mono (HH.out _ _ _ _ H8.out) ?_
          rintro e w9 ⟨rfl, rfl⟩
          go_wp2_with fail
          refine Calls.mono (HE.out _ _ _ _ _ H8.out) ?_
          rintro e w9 ⟨rfl, rfl⟩
          go_wp2_with fail
          refine Calls.mono (HH.out _ _ _ _ H8.out) ?_
          rintro e w9 ⟨rfl, rfl⟩
          go_wp2
          go_ret
          exact ⟨rfl, H8.out.below⟩
theorem great_true (m o : Int) (a : Option Addr) (cap : Nat) (l : List Frm) (w : World) (hF : Frs w a l) : Calls Try.prog 5 #[.int .i64 m, .int .i64 o, .slice a l.length cap] w (Fine w) := by
  by_cases c0 : m < 64
  · exact great_off0 m o l.length cap a w  c0
  by_cases c1 : 512 < m
  · exact great_off1 m o l.length cap a w (by omega) c1
  by_cases c2 : o < 1
  · exact great_off2 m o l.length cap a w (by omega) (by omega) c2
  by_cases c3 : 1000 < o
  · exact great_off3 m o l.length cap a w (by omega) (by omega) (by omega) c3
  by_cases c4 : 10 < l.length
  · exact great_off4 m o l.length cap a w (by omega) (by omega) (by omega) (by omega) c4
  obtain ⟨m, rfl⟩ := Int.eq_ofNat_of_zero_le (show 0 ≤ m by omega)
  obtain ⟨o, rfl⟩ := Int.eq_ofNat_of_zero_le (show 0 ≤ o by omega)
  obtain ⟨f1, _, f3⟩ := hF
  rcases f1 with rfl | ⟨b, off, rfl, hb, hc⟩
  · exact great_main m o a 0 0 cap [] w (by omega) (by omega) (by omega) (by omega) (by simp) (.inl rfl) (fun W _ i f hi => by simp at hi) f3
  · exact great_main m o _ b off cap l w (by omega) (by omega) (by omega) (by omega) (by omega) (.inr rfl) (fun W hW => at_of hb hc W hW) f3
end Go.Proofs.Ytkogkkjdcackcaa
