/-
  The law TableFixed as a walk.
-/
import Derived.Test.YtlfkomdkimphnaaDoorTLaw
namespace Go.Proofs.YtlfkomdkimphnaaDoor
open Go.RowKit

set_option maxRecDepth 100000 in
set_option maxHeartbeats 2000000 in
theorem tableFixed_true (size : Int) (a : Option Addr) (cap : Nat) (l : List Fld) (i : Int) (w : World) (hE : Env w) (hF : Flds w a l) : Calls Tryd.prog 5 #[.int .i64 size, .slice a l.length cap, .int .i64 i] w (Fine w) := by
  have hA : Hid (Calls Tryd.prog 9 #[] w fun e w' => e = .returned (.bool true) ∧ Below w.heap.size w w') := alive_true w hE
  have hlen := hF.len
  by_cases hgo : (0 ≤ size ∧ size ≤ 512) ∧ l.length ≤ 40 ∧ 1 ≤ i ∧ i ≤ 16
  · obtain ⟨⟨h1, h2⟩, h3, h4, h5⟩ := hgo
    obtain ⟨n, rfl⟩ : ∃ n : Nat, size = (n : Int) := ⟨size.toNat, by omega⟩
    obtain ⟨m, rfl⟩ : ∃ m : Nat, i = (m : Int) + 1 := ⟨(i - 1).toNat, by omega⟩
    have hn : n ≤ 512 := by omega
    have hm : m < 16 := by omega
    have HF := hid hF
    have HE := hid hE
    clear hF hE h1 h2 h4 h5
    go_enter Tryd.func5, Tryd.ntmps5
    go_wp2_with fail
    refine Calls.mono hA.out ?_
    rintro e w1 ⟨rfl, hB1⟩
    go_wp2_with fail
    refine Calls.mono (g_new hB1 n hn) ?_
    rintro e w2 ⟨g, v2, rfl, G2, _, _⟩
    go_wp2
    go_loopg [48] l.length (fun k iv wr => ∃ (j : Nat) (v : Value), iv = .int .i64 j ∧ k + j = l.length ∧ Hid (Good w wr g v n (adds n (l.take j))))
    case atStart => exact ⟨0, v2, rfl, rfl, by simpa [adds, Hid] using G2⟩
    case round =>
      obtain ⟨j, v, rfl, hk, G⟩ := hrel
      clear G2 hB1
      by_cases hj : j < l.length
      · obtain ⟨b, off, rfl, hb, hc⟩ := HF.out.addr (by omega)
        obtain ⟨c0, c1⟩ := hc wr j hj G.out.below
        obtain ⟨s0, s1⟩ := HF.out.size j hj
        have hsn := hid (adds_take n l j hj)
        have hbw : b < wr.heap.size := Nat.lt_of_lt_of_le hb G.out.below.size
        generalize l[j]'hj = f at *
        obtain ⟨fa, fb⟩ := f
        simp only at c0 c1 s0 s1
        clear hc HF
        by_cases hbig : 800 < fa.size + fb.size
        · have hBe := (G.out.quiet (keeps_alloc wr (.cells #[.string fa, .string fb] 28))).below
          clear G hsn
          have hbig' : (800 : Int) < (fa.size : Int) + (fb.size : Int) := by omega
          go_wp2
          go_ret
          exact ⟨rfl, hBe⟩
        · have hbig' : ¬ (800 : Int) < (fa.size : Int) + (fb.size : Int) := by omega
          have HK := hid hk
          clear hk
          go_wp2_with fail
          refine Calls.mono (g_add (G.out.quiet (keeps_alloc wr (.cells #[.string fa, .string fb] 28))) (fa, fb) (by simp only; omega)) ?_
          rintro e w3 ⟨rfl, v3, G3, _, _⟩
          rw [← hsn.out] at G3
          have H3 := hid G3
          clear G3 G c0 c1
          go_wp2
          have hk := HK.out
          go_roundg (gk - 1)
          case measure => omega
          case rel => exact ⟨j + 1, v3, by simp, by omega, H3⟩
      · obtain ⟨f, hf⟩ : ∃ f, always[m]? = some f := ⟨_, List.getElem?_eq_getElem (by rw [always_length]; exact hm)⟩
        have hfind := hid (find_always (adds n (l.take j)) m hm f hf)
        have hat : Hid (atL (adds n (l.take j)) ((m : Int) + 1) = some f) := by
          show _ = _
          rw [atL_fixed _ m hm, ← hf, List.getElem?_eq_getElem]
        have hname := always_named m hm f hf
        have hlo : Hid (atL (adds n (l.take j)) 0 = none) := atL_low _ _ (by omega)
        have hhi : Hid (atL (adds n (l.take j)) (17 + ((adds n (l.take j)).length : Int)) = none) := atL_high _ _ (by omega)
        have hll := G.out.tab.length
        generalize adds n (l.take j) = L at *
        obtain ⟨fa, fb⟩ := f
        simp only at hname
        clear hf HF hk
        go_wp2_with fail
        refine Calls.mono (g_at HE.out G.out ((m : Int) + 1) (by omega)) ?_
        rintro e w3 ⟨rfl, G3, _⟩
        rw [hat.out]
        unfold atV
        simp only
        go_wp2_with fail
        refine Calls.mono (g_find HE.out (G3.quiet (keeps_alloc w3 (.cells #[.string fa, .string fb] 28))) (fa, fb)) ?_
        rintro e w4 ⟨rfl, G4, K4⟩
        rw [hfind.out]
        clear hfind hat
        go_wp2_with fail
        refine Calls.mono (g_all G4) ?_
        rintro e w5 ⟨s5, c5, rfl, _, G5, K5⟩
        go_wp2_with fail
        refine Calls.mono (g_at HE.out G5 (17 + (L.length : Int)) (by omega)) ?_
        rintro e w6 ⟨rfl, G6, K6⟩
        rw [hhi.out]
        unfold atV
        simp only
        go_wp2_with fail
        have K6' := keeps_alloc w6 (.cells #[.string ⟨#[]⟩, .string ⟨#[]⟩] 28)
        refine Calls.mono (g_at HE.out (G6.quiet K6') 0 (by omega)) ?_
        rintro e w7 ⟨rfl, G7, K7⟩
        rw [hlo.out]
        unfold atV
        simp only
        obtain ⟨b0, b1, b2⟩ := boxed ((((K4.then K5).then K6).then K6').then K7)
        have hBe := (G7.quiet (keeps_alloc w7 (.cells #[.string ⟨#[]⟩, .string ⟨#[]⟩] 28))).below
        have hq1 := isEmpty_ne hname
        clear G G3 G4 G5 G6 G7 K4 K5 K6 K6' K7 hlo hhi HE hA
        go_wp2
        go_ret
        exact ⟨rfl, hBe⟩
  · have hbad : size < 0 ∨ 0 ≤ size ∧ 512 < size ∨ (0 ≤ size ∧ size ≤ 512) ∧ (40 : Int) < l.length ∨ (0 ≤ size ∧ size ≤ 512) ∧ (l.length : Int) ≤ 40 ∧ i < 1 ∨ (0 ≤ size ∧ size ≤ 512) ∧ (l.length : Int) ≤ 40 ∧ 1 ≤ i ∧ 16 < i := by omega
    clear hgo hF hE
    rcases hbad with h1 | ⟨h1, h2⟩ | ⟨⟨h1, h2⟩, h3⟩ | ⟨⟨h1, h2⟩, h3, h4⟩ | ⟨⟨h1, h2⟩, h3, h4, h5⟩
    all_goals
      go_enter Tryd.func5, Tryd.ntmps5
      go_wp2_with fail
      refine Calls.mono hA.out ?_
      rintro e w1 ⟨rfl, hB1⟩
      go_wp2
      go_ret
      exact ⟨rfl, hB1⟩
end Go.Proofs.YtlfkomdkimphnaaDoor
