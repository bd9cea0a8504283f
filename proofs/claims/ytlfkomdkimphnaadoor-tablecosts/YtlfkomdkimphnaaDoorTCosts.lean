/-
  The law TableCosts as a walk.
-/
import Derived.Test.YtlfkomdkimphnaaDoorTAlive
namespace Go.Proofs.YtlfkomdkimphnaaDoor
open Go.RowKit

theorem Good.keeps {S : Nat → Prop} {W w w' : World} {g : Nat} {v : Value} {size : Nat} {l : List Fld} (h : Good W w g v size l) (hk : Keeps S w w') (hS : ∀ k, tfoot g v k → ¬ S k) (hn : ∀ k, S k → W.heap.size ≤ k) : Good W w' g v size l :=
  ⟨hk.below h.below hn h.below.size, h.tab.keeps hk hS, h.new⟩
theorem addL_one (f : Fld) (n : Nat) (h : n = min (cost f) 512) : (addL n f []).length = if cost f ≤ 512 then 1 else 0 := by
  unfold addL
  split
  · rw [if_pos (by omega)]; rfl
  · rw [if_neg (by omega)]; rfl
theorem addL_none (f : Fld) : addL 0 f [] = [] := by
  unfold addL
  rw [if_neg (by unfold cost; omega)]

set_option maxRecDepth 100000 in
set_option maxHeartbeats 2000000 in
theorem tableCosts_true (f : Fld) (w : World) (hE : Env w) (ha : f.1.size ≤ 140737488355328) (hb : f.2.size ≤ 140737488355328) : Calls Tryd.prog 8 #[fval f] w (Fine w) := by
  have hA : Hid (∀ W, Below w.heap.size w W → Calls Tryd.prog 9 #[] W fun e w' => e = .returned (.bool true) ∧ Below W.heap.size W w') := fun W hW => alive_true W (hE.below hW hE.1)
  by_cases hl : 600 < f.1.size + f.2.size
  · obtain ⟨a, b⟩ := f
    simp only at ha hb hl
    have hB0 : ∀ o, Below w.heap.size w (w.alloc o) := fun o => (Below.refl _ _).alloc (Nat.le_refl _) o
    have hl' : (600 : Int) < (a.size : Int) + (b.size : Int) := by omega
    clear hE
    go_enter Tryd.func8, Tryd.ntmps8
    go_wp2_with fail
    refine Calls.mono (hA.out _ (hB0 _)) ?_
    rintro e w1 ⟨rfl, hB⟩
    have hB' := (hB0 _).trans (hB.mono (hB0 _).size)
    clear hB hB0
    go_wp2
    go_ret
    exact ⟨rfl, hB'⟩
  · have hC : Hid (∀ w, Calls Tryd.prog 25 #[fval f] w fun e w' => e = .returned (.int .i64 (cost f : Int)) ∧ w' = w.alloc (.cells #[.string f.1, .string f.2] 28)) := fun w => cost_ok f w (by omega)
    have hf : Hid (f.1.size + f.2.size ≤ 2000) := by show _ ≤ _; omega
    have hcost : Hid ((cost f : Int) = (f.1.size : Int) + (f.2.size : Int) + 32) := by show _ = _; unfold cost; omega
    obtain ⟨n0, hn0⟩ : ∃ n0 : Nat, n0 = min (cost f) 512 := ⟨_, rfl⟩
    have hn512 : n0 ≤ 512 := by omega
    have hone := hid (addL_one f n0 hn0)
    have hnone := hid (addL_none f)
    have hmin : ∀ (ts : Array TypeId) (t : TypeId) (W : World), (Builtin.min_ ts t #[.int .i64 (cost f : Int), .int .i64 512]).run Tryd.prog W = .ok (.int .i64 (n0 : Int)) W := by
      intro ts t W
      have : (n0 : Int) = if (512 : Int) < (cost f : Int) then 512 else (cost f : Int) := by rw [hn0]; split <;> omega
      rw [run_min_int2, this]
    obtain ⟨a, b⟩ := f
    simp only at ha hb hl
    obtain ⟨W0, hW0⟩ : ∃ W0 : World, W0 = w.alloc (.cells #[.string a, .string b] 28) := ⟨_, rfl⟩
    have hB0 : Below w.heap.size w W0 := by rw [hW0]; exact (Below.refl _ _).alloc (Nat.le_refl _) _
    have hbox : Hid (∀ w', Below W0.heap.size W0 w' → w'.cell? ⟨w.heap.size, 0, none⟩ = some (.string a) ∧ w'.cell? ⟨w.heap.size, 1, none⟩ = some (.string b) ∧ w.heap.size < w'.heap.size) := fun w' h => by
      have hlt : w.heap.size < W0.heap.size := by rw [hW0]; simp
      refine ⟨?_, ?_, Nat.lt_of_lt_of_le hlt h.size⟩
      · rw [h.cell (p := ⟨w.heap.size, 0, none⟩) hlt, hW0]; simp
      · rw [h.cell (p := ⟨w.heap.size, 1, none⟩) hlt, hW0]; simp
    have hE0 := hid (hE.below hB0 hE.1)
    have HW0 := hid hW0
    have hsz : (a.size : Int) + (b.size : Int) ≤ 600 := by omega
    clear hE hn0
    generalize cost (a, b) = c at *
    go_enter Tryd.func8, Tryd.ntmps8
    go_wp2_with fail
    rw [← HW0.out]
    refine Calls.mono (hA.out _ hB0) ?_
    rintro e w1 ⟨rfl, hB1⟩
    obtain ⟨x0, x1, x2⟩ := hbox.out w1 hB1
    go_wp2_with fail
    refine Calls.mono (hC.out _) ?_
    rintro e w2 ⟨rfl, rfl⟩
    have hB2 := hB1.alloc hB1.size (.cells #[.string a, .string b] 28)
    go_wp2_with fail
    refine Calls.mono (g_new hB2 n0 hn512) ?_
    rintro e w3 ⟨g, v3, rfl, G3, _, _⟩
    go_wp2_with fail
    refine Calls.mono (g_new G3.below 0 (by omega)) ?_
    rintro e w4 ⟨gz, z4, rfl, Z4, K4, N4⟩
    have G4 := G3.quiet K4
    have hdis : ∀ k, tfoot gz z4 k → ¬ tfoot g v3 k := fun k h1 h2 => by
      have := N4 k h1; have := G3.tab.footlt k h2; omega
    clear x0 x1 x2
    obtain ⟨x0, x1, x2⟩ := hbox.out w4 G4.below
    clear G3 K4 N4 hB2
    go_wp2_with fail
    refine Calls.mono (g_add G4 (a, b) hf.out) ?_
    rintro e w5 ⟨rfl, v5, G5, K5, F5⟩
    have Z5 := Z4.keeps K5 hdis G4.new
    have hdis5 : ∀ k, tfoot g v5 k → ¬ tfoot gz z4 k := fun k h1 h2 => by
      rcases F5 k h1 with h3 | h3
      · exact hdis k h2 h3
      · have := Z4.tab.footlt k h2; omega
    clear x0 x1 x2
    obtain ⟨x0, x1, x2⟩ := hbox.out w5 G5.below
    go_wp2_with fail
    refine Calls.mono (g_add Z5 (a, b) hf.out) ?_
    rintro e w6 ⟨rfl, z6, Z6, K6, F6⟩
    have G6 := G5.keeps K6 hdis5 Z5.new
    rw [hnone.out] at Z6
    clear x0 x1 x2
    obtain ⟨x0, x1, x2⟩ := hbox.out w6 G6.below
    clear G4 G5 Z4 Z5 K5 K6 F5 F6 hdis hdis5
    have hq : ((c : Int) == (a.size : Int) + (b.size : Int) + 32) = true := by rw [hcost.out]; simp
    clear hcost
    go_wp2_with fail
    refine Calls.mono (g_all G6) ?_
    rintro e w7 ⟨s7, c7, rfl, R7, G7, K7⟩
    have Z7 := Z6.quiet K7
    clear R7
    have hlen := hone.out
    generalize (addL n0 (a, b) []).length = m at *
    have hqm : (((m : Int) == 1) == decide ((c : Int) ≤ 512)) = true := by
      rw [hlen]
      by_cases h5 : c ≤ 512
      · rw [if_pos h5]; simp; omega
      · rw [if_neg h5]; simp; omega
    clear hone hlen
    go_wp2_with fail
    refine Calls.mono (g_all Z7) ?_
    rintro e w8 ⟨s8, c8, rfl, R8, Z8, K8⟩
    clear R8
    simp only [List.length_nil]
    go_wp2_with fail
    refine Calls.mono (g_used Z8) ?_
    rintro e w9 ⟨rfl, Z9, K9⟩
    simp only [sum]
    have hBe := hB0.trans (Z9.below.mono hB0.size)
    clear G6 Z6 G7 Z7 Z8 Z9 K7 K8 K9 hbox hA hC hmin
    go_wp2
    go_ret
    exact ⟨rfl, hBe⟩
end Go.Proofs.YtlfkomdkimphnaaDoor
