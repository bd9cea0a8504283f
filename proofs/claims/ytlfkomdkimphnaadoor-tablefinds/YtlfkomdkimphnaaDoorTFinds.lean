/-
  The law TableFinds as a walk.
-/
import Derived.Test.YtlfkomdkimphnaaDoorTLaw
namespace Go.Proofs.YtlfkomdkimphnaaDoor
open Go.RowKit

theorem findAt_yes (f : Fld) (l : List Fld) : ∀ (i nm : Nat), f ∈ l → ∃ j, l[j]? = some f ∧ (∀ k, k < j → l[k]? ≠ some f) ∧ findAt f i nm l = (i + j + 1, true) := by
  intro i nm hf
  obtain ⟨j, hj⟩ := List.getElem?_of_mem hf
  obtain ⟨m, hm, hmin⟩ := exists_least (p := fun j => l[j]? = some f) ⟨j, hj⟩
  have hk : ∀ k, k < m → l[k]? ≠ some f := fun k hk e => by have := hmin k e; omega
  exact ⟨m, hm, hk, findAt_first f l i nm m hm hk⟩
theorem findAt_no (f : Fld) (l : List Fld) : ∀ (i nm : Nat), f ∉ l → (findAt f i nm l).2 = false ∧ (nm ≠ 0 → (findAt f i nm l).1 = nm) ∧ (nm = 0 → (∃ g ∈ l, g.1 = f.1) → ∃ j g, l[j]? = some g ∧ g.1 = f.1 ∧ (findAt f i nm l).1 = i + j + 1) := by
  induction l with
  | nil => intro i nm _; simp [findAt]
  | cons x l ih =>
    intro i nm hf
    have hx : x ≠ f := fun e => hf (by simp [e])
    have hl : f ∉ l := fun h => hf (by simp [h])
    simp only [findAt, if_neg hx]
    by_cases h0 : nm = 0
    · subst h0
      by_cases hn : x.1 = f.1
      · simp only [hn, and_self, if_true]
        obtain ⟨h1, h2, _⟩ := ih (i + 1) (i + 1) hl
        refine ⟨h1, fun h => absurd rfl h, fun _ _ => ⟨0, x, rfl, hn, ?_⟩⟩
        rw [h2 (by omega)]
      · simp only [hn, and_false, if_false]
        obtain ⟨h1, _, h3⟩ := ih (i + 1) 0 hl
        refine ⟨h1, fun h => absurd rfl h, fun _ hg => ?_⟩
        obtain ⟨g, hg1, hg2⟩ := hg
        rcases List.mem_cons.1 hg1 with rfl | hg1
        · exact absurd hg2 hn
        · obtain ⟨j, g', e1, e2, e3⟩ := h3 rfl ⟨g, hg1, hg2⟩
          exact ⟨j + 1, g', by simpa using e1, e2, by rw [e3]; omega⟩
    · have : ¬ (nm = 0 ∧ x.1 = f.1) := fun h => h0 h.1
      rw [if_neg this]
      obtain ⟨h1, h2, h3⟩ := ih (i + 1) nm hl
      exact ⟨h1, h2, fun h => absurd h h0⟩
theorem atL_of (l : List Fld) (j : Nat) (f : Fld) (h : (always ++ l)[j]? = some f) : atL l ((j + 1 : Nat) : Int) = some f := by
  unfold atL
  have e : (((j + 1 : Nat) : Int) - 1).toNat = j := by omega
  rw [if_pos (by omega), e, h]
/-- What was added last is found, within 17; and is there. -/
theorem find_last (f : Fld) (l : List Fld) : ∃ k, find (f :: l) f = (k, true) ∧ 1 ≤ k ∧ k ≤ 17 ∧ atL (f :: l) (k : Int) = some f := by
  obtain ⟨j, h1, h2, h3⟩ := findAt_yes f (always ++ f :: l) 0 0 (by simp)
  have hj : j ≤ 16 := by
    refine Nat.le_of_not_lt fun hlt => h2 16 hlt ?_
    rw [List.getElem?_append_right (by rw [always_length]; omega), always_length]
    rfl
  refine ⟨j + 1, by unfold find; rw [h3]; simp, by omega, by omega, atL_of _ j f h1⟩
/-- By its name alone. -/
theorem find_name (f : Fld) (l : List Fld) (value : ByteArray) : ∃ n b h, find (f :: l) (f.1, value) = (n, b) ∧ 1 ≤ n ∧ n ≤ 17 + l.length ∧ atL (f :: l) (n : Int) = some (f.1, h) ∧ (b = true → h = value) ∧ (b = false → value ≠ f.2) := by
  have hb : ∀ j x, (always ++ f :: l)[j]? = some x → j < 17 + l.length := fun j x h => by
    have := (List.getElem?_eq_some_iff.1 h).1
    rw [List.length_append, always_length] at this
    simp at this
    omega
  by_cases hf : (f.1, value) ∈ always ++ f :: l
  · obtain ⟨j, h1, h2, h3⟩ := findAt_yes (f.1, value) (always ++ f :: l) 0 0 hf
    refine ⟨j + 1, true, value, by unfold find; rw [h3]; simp, by omega, by have := hb j _ h1; omega, atL_of _ j _ h1, fun _ => rfl, (fun h => by cases h)⟩
  · obtain ⟨h1, _, h3⟩ := findAt_no (f.1, value) (always ++ f :: l) 0 0 hf
    obtain ⟨j, g, e1, e2, e3⟩ := h3 rfl ⟨f, by simp, rfl⟩
    obtain ⟨ga, gb⟩ := g
    simp only at e2
    subst e2
    refine ⟨j + 1, false, gb, ?_, by omega, by have := hb j _ e1; omega, atL_of _ j _ e1, (fun h => by cases h), fun _ e => ?_⟩
    · unfold find
      apply Prod.ext
      · rw [e3]; simp
      · exact h1
    · subst e
      exact hf (by simp)
theorem addL_first (f : Fld) (l : List Fld) (h : cost f ≤ 512) : ∃ m, addL 512 f l = f :: m := by
  unfold addL
  rw [if_pos h]
  exact ⟨_, rfl⟩

set_option maxRecDepth 100000 in
set_option maxHeartbeats 4000000 in
theorem tableFinds_true (a : Option Addr) (cap : Nat) (l : List Fld) (value : ByteArray) (w : World) (hE : Env w) (hF : Flds w a l) (hv : value.size ≤ 140737488355328) : Calls Tryd.prog 6 #[.slice a l.length cap, .string value] w (Fine w) := by
  have hA : Hid (Calls Tryd.prog 9 #[] w fun e w' => e = .returned (.bool true) ∧ Below w.heap.size w w') := alive_true w hE
  have hlen := hF.len
  by_cases hgo : 1 ≤ l.length ∧ l.length ≤ 40 ∧ value.size ≤ 60
  · obtain ⟨h1, h2, h3⟩ := hgo
    obtain ⟨b, off, rfl, hb, hc⟩ := hF.addr (by omega)
    have HC := hid hc
    have HF := hid hF
    have HE := hid hE
    clear hF hE hc
    go_enter Tryd.func6, Tryd.ntmps6
    go_wp2_with fail
    refine Calls.mono hA.out ?_
    rintro e w1 ⟨rfl, hB1⟩
    go_wp2_with fail
    refine Calls.mono (g_new hB1 512 (by omega)) ?_
    rintro e w2 ⟨g, v2, rfl, G2, _, _⟩
    go_wp2
    go_loopg [40] l.length (fun k iv wr => ∃ (j : Nat) (v : Value), iv = .int .i64 j ∧ k + j = l.length ∧ Hid (Good w wr g v 512 (adds 512 (l.take j)) ∧ ∀ (i : Nat) (hi : i < l.length), i < j → (l[i]'hi).1.size + (l[i]'hi).2.size ≤ 200))
    case atStart => exact ⟨0, v2, rfl, rfl, by simpa [adds] using G2, fun i hi h => by omega⟩
    case round =>
      obtain ⟨j, v, rfl, hk, G⟩ := hrel
      clear G2 hB1
      have hbw : b < wr.heap.size := Nat.lt_of_lt_of_le hb G.out.1.below.size
      by_cases hj : j < l.length
      · obtain ⟨c0, c1⟩ := HC.out wr j hj G.out.1.below
        obtain ⟨s0, s1⟩ := HF.out.size j hj
        have hsn := hid (adds_take 512 l j hj)
        obtain ⟨f, hf⟩ : ∃ f, l[j]'hj = f := ⟨_, rfl⟩
        have Hf := hid hf
        rw [hf] at c0 c1 s0 s1 hsn
        clear hf
        obtain ⟨fa, fb⟩ := f
        simp only at c0 c1 s0 s1
        clear HC HF
        by_cases hbig : 200 < fa.size + fb.size
        · have hBe := (G.out.1.quiet (keeps_alloc wr (.cells #[.string fa, .string fb] 28))).below
          clear G hsn Hf
          have hbig' : (200 : Int) < (fa.size : Int) + (fb.size : Int) := by omega
          go_wp2
          go_ret
          exact ⟨rfl, hBe⟩
        · have hbig' : ¬ (200 : Int) < (fa.size : Int) + (fb.size : Int) := by omega
          have HK := hid hk
          clear hk
          go_wp2_with fail
          refine Calls.mono (g_add (G.out.1.quiet (keeps_alloc wr (.cells #[.string fa, .string fb] 28))) (fa, fb) (by simp only; omega)) ?_
          rintro e w3 ⟨rfl, v3, G3, _, _⟩
          rw [← hsn.out] at G3
          have H3 : Hid (Good w w3 g v3 512 (adds 512 (l.take (j + 1))) ∧ ∀ (i : Nat) (hi : i < l.length), i < j + 1 → (l[i]'hi).1.size + (l[i]'hi).2.size ≤ 200) := by
            refine ⟨G3, fun i hi hij => ?_⟩
            by_cases e : i = j
            · subst e; rw [Hf.out]; simp only; omega
            · exact G.out.2 i hi (by omega)
          clear G3 G c0 c1 Hf
          go_wp2
          have hk := HK.out
          go_roundg (gk - 1)
          case measure => omega
          case rel => exact ⟨j + 1, v3, by simp, by omega, H3⟩
      · obtain ⟨m, hm⟩ : ∃ m, l.length = m + 1 := ⟨l.length - 1, by omega⟩
        have hml : m < l.length := by omega
        obtain ⟨c0, c1⟩ := HC.out wr m hml G.out.1.below
        have hsm := G.out.2 m hml (by omega)
        have hall : adds 512 (l.take j) = addL 512 (l[m]'hml) (adds 512 (l.take m)) := by
          rw [← adds_take 512 l m hml, List.take_of_length_le (by omega), List.take_of_length_le (by omega)]
        obtain ⟨f, hf⟩ : ∃ f, l[m]'hml = f := ⟨_, rfl⟩
        rw [hf] at c0 c1 hsm hall
        obtain ⟨rest, hrest⟩ := addL_first f (adds 512 (l.take m)) (by unfold cost; omega)
        rw [hrest] at hall
        have G1 := hid G.out.1
        rw [hall] at G1
        obtain ⟨K, hK1, hK2, hK3, hK4⟩ := find_last f rest
        obtain ⟨N, B, hb2, hN1, hN2, hN3, hN4, hN5, hN6⟩ := find_name f rest value
        have hll := G1.out.tab.length
        simp only [List.length_cons] at hll
        have F1 := hid hK1
        have F2 := hid hK4
        have F3 := hid hN1
        have F4 := hid hN4
        have hqm : (l.length : Int) - 1 = (m : Int) := by omega
        obtain ⟨fa, fb⟩ := f
        simp only at c0 c1 F3 F4 hN5 hN6
        clear G HC HF hf hrest hall hK1 hK4 hN1 hN4 hk hsm
        have KB := keeps_alloc wr (.cells #[.string fa, .string fb] 28)
        go_wp2_with fail
        refine Calls.mono (g_find HE.out (G1.out.quiet KB) (fa, fb)) ?_
        rintro e w3 ⟨rfl, G3, K3⟩
        rw [F1.out]
        obtain ⟨b0, b1, b2⟩ := boxed K3
        clear c0 c1
        go_wp2_with fail
        refine Calls.mono (g_find HE.out G3 (fa, value)) ?_
        rintro e w4 ⟨rfl, G4, K4⟩
        rw [F3.out]
        go_wp2_with fail
        refine Calls.mono (g_at HE.out G4 (K : Int) (by omega)) ?_
        rintro e w5 ⟨rfl, G5, K5⟩
        rw [F2.out]
        unfold atV
        simp only
        go_wp2_with fail
        have KC := keeps_alloc w5 (.cells #[.string fa, .string fb] 28)
        refine Calls.mono (g_at HE.out (G5.quiet KC) (N : Int) (by omega)) ?_
        rintro e w6 ⟨rfl, G6, K6⟩
        rw [F4.out]
        unfold atV
        simp only
        clear b0 b1 b2
        obtain ⟨b0, b1, b2⟩ := boxed ((((K3.then K4).then K5).then KC).then K6)
        obtain ⟨d0, d1, d2⟩ := boxed K6
        have hBe := (G6.quiet (keeps_alloc w6 (.cells #[.string fa, .string hb2] 28))).below
        have q1 : (fa.toList == fa.toList) = true := beq_list_of_eq rfl
        have q2 : (fb.toList == fb.toList) = true := beq_list_of_eq rfl
        clear G1 G3 G4 G5 G6 K3 K4 K5 K6 KB KC F1 F2 F3 F4 HE hA
        cases B with
        | true =>
          obtain rfl := hN5 rfl
          clear hN5 hN6
          have q3 : (hb2.toList == hb2.toList) = true := beq_list_of_eq rfl
          go_wp2
          go_ret
          exact ⟨rfl, hBe⟩
        | false =>
          have q3 := beq_list_of_ne (hN6 rfl)
          clear hN5 hN6
          go_wp2
          go_ret
          exact ⟨rfl, hBe⟩
  · have hbad : (l.length : Int) < 1 ∨ (1 : Int) ≤ l.length ∧ (40 : Int) < l.length ∨ (1 : Int) ≤ l.length ∧ (l.length : Int) ≤ 40 ∧ (60 : Int) < value.size := by omega
    clear hgo hF hE
    rcases hbad with h1 | ⟨h1, h2⟩ | ⟨h1, h2, h3⟩
    all_goals
      go_enter Tryd.func6, Tryd.ntmps6
      go_wp2_with fail
      refine Calls.mono hA.out ?_
      rintro e w1 ⟨rfl, hB1⟩
      go_wp2
      go_ret
      exact ⟨rfl, hB1⟩
end Go.Proofs.YtlfkomdkimphnaaDoor
