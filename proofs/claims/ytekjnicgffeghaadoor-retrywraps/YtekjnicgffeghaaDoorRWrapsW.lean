/-
  RetryWraps, walked.
-/
import Derived.Test.YtekjnicgffeghaaDoorRAlive
import Derived.Test.YtekjnicgffeghaaDoorRIsP
import Derived.Test.YtekjnicgffeghaaDoorESame
namespace Go.Proofs.YtekjnicgffeghaaDoor
open Go.RowKit Go.Extern.Stop Go.Stop Go.Extern

/-- The ops by which the error of a call came. -/
def opsE (tries : Int) : List ByteArray := if 1 < tries then [againS, callS] else [callS]
theorem errE_ops (c tries : Int) : (errE c tries).ops = opsE tries := by unfold errE opsE callE; split <;> simp [Er.ops]
theorem opsE_length (tries : Int) : 0 < (opsE tries).length := by unfold opsE; split <;> simp
/-- The block of a literal list of texts. -/
abbrev txObj (l : List Value) : Obj := .cells l.toArray 9 (0, 0)
theorem texts_at {w : World} {g : Nat} {l : List ByteArray} (h : w.heap[g]? = some (txObj (strs l))) (i : Nat) (hi : i < l.length) : w.cell? ⟨g, i, none⟩ = some (.string (l.getD i ByteArray.empty)) :=
  cells_of h i _ (by simp [strs, List.getD_eq_getElem?_getD, List.getElem?_eq_getElem hi])
set_option maxRecDepth 100000 in
set_option maxHeartbeats 2000000 in
theorem wraps_law (c tries : Int) (a0 a1 : Addr) (w : World) (h : Sent w a0 a1) :
    Calls Tryd.prog 6 #[.int .i64 c, .int .i64 tries] w fun e w' => e = .returned (.bool true) ∧ Keeps nobody w w' := by
  have HA : Hid (Calls Tryd.prog 8 #[] w fun e w' => e = .returned (.bool true) ∧ Keeps nobody w w') := alive_ok a0 a1 w h
  clear h
  cases hc : (c == 0) with
  | true =>
    obtain rfl : c = 0 := eq_of_beq hc
    clear hc
    go_enter Tryd.func6, Tryd.ntmps6
    go_wp2_with fail
    refine Calls.mono HA.out ?_
    rintro e w1 ⟨rfl, k1⟩
    go_wp2_with fail
    go_ret
    exact ⟨rfl, k1⟩
  | false =>
    have HE : Hid (∀ w1, Calls Tryd.prog 12 #[.int .i64 c, .int .i64 tries] w1 fun e w' => ∃ b, e = .returned (flV b) ∧ Err w' (flV b) (errE c tries) ∧ Keeps nobody w1 w') := fun w1 => err_ok c tries w1 hc
    have HN : Hid (∀ w1, Calls Tryd.prog 18 #[.int .i64 c] w1 fun e w' => e = .returned (flV w1.heap.size) ∧ w' = w1.alloc (flObj ⟨#[]⟩ c .nilIface)) := fun w1 => new_some c w1 hc
    have HQ : Hid ((c != 0) = true) := by show _ = _; simp [bne, hc]
    -- what is asked of the error, whatever the list of texts
    have HP : Hid (∀ b w1, Err w1 (flV b) (errE c tries) → ∀ w2, Keeps nobody w1 w2 → Calls Tryd.prog 20 #[flV b] w2 fun e w' => ∃ g k, e = .returned (.slice (some ⟨g, 0, none⟩) (opsE tries).length k) ∧ g < w'.heap.size ∧ (∀ i, i < (opsE tries).length → w'.cell? ⟨g, i, none⟩ = some (.string ((opsE tries).getD i ByteArray.empty))) ∧ Keeps nobody w2 w') := by
      intro b w1 hB w2 k2
      refine (path_ok (errE c tries) _ w2 (hB.quiet k2) (by have := errE_deep c tries; omega)).mono ?_
      rintro e w3 ⟨v, rfl, hv, k3⟩
      rw [errE_ops] at hv
      obtain ⟨g, k, rfl, _, hg, _, _, _, hcell⟩ := ownsRow_cell hv (opsE_length tries)
      exact ⟨g, k, rfl, hg, hcell, k3⟩
    have HS : Hid (∀ g k g' k' w1, g < w1.heap.size → (∀ i, i < (opsE tries).length → w1.cell? ⟨g, i, none⟩ = some (.string ((opsE tries).getD i ByteArray.empty))) → w1.heap[g']? = some (txObj (strs (opsE tries))) →
        Calls Tryd.prog 19 #[.slice (some ⟨g, 0, none⟩) (opsE tries).length k, .slice (some ⟨g', 0, none⟩) (opsE tries).length k'] w1 fun e w' => e = .returned (.bool true) ∧ Keeps nobody w1 w') := by
      intro g k g' k' w1 hg hcell hg'
      exact same_some g g' (opsE tries).length k k' (fun i => (opsE tries).getD i ByteArray.empty) w1 (by unfold opsE maxLen; split <;> simp) hg (lt_of_heap hg') hcell (fun i hi => texts_at hg' i hi)
    have HI : Hid (∀ b w1, Err w1 (flV b) (errE c tries) → ∀ w2 tb, Keeps nobody w1 w2 → w1.heap.size ≤ tb → w2.heap[tb]? = some (flObj ⟨#[]⟩ c .nilIface) → Calls Tryd.prog 17 #[flV b, flV tb] w2 fun e w' => e = .returned (.bool true) ∧ Keeps nobody w2 w') := by
      intro b w1 hB w2 tb k2 htb ht
      have := errorsIs_ok c HQ.out (errE c tries) _ w1 w2 tb (errE_some c tries) hB k2 htb ht
      rwa [errE_has] at this
    have HX : Hid (∀ b w1, Err w1 (flV b) (errE c tries) → ∀ w2 a, Keeps nobody w1 w2 → Calls Tryd.prog 17 #[flV b, svV a] w2 fun e w' => e = .returned (.bool false) ∧ Keeps nobody w2 w') := fun b w1 hB w2 a k2 => errorsIsP_ok _ _ w1 w2 a (errE_some c tries) (errE_flat c tries) hB k2
    by_cases ht : 1 < tries
    · have ho : opsE tries = [againS, callS] := by unfold opsE; rw [if_pos ht]
      rw [ho] at HP HS
      generalize errE c tries = t at *
      go_enter Tryd.func6, Tryd.ntmps6
      go_wp2_with fail
      refine Calls.mono HA.out ?_
      rintro e w1 ⟨rfl, k1⟩
      go_wp2_with fail
      refine Calls.mono (HE.out w1) ?_
      rintro e w2 ⟨b, rfl, hB, k2⟩
      have hBx := hid hB
      clear hB
      have j1 : Keeps nobody w2 ((w2.alloc (.cells #[.string callS] 9)).alloc (.cells #[.string againS, .string callS] 9)) := (keeps_alloc _ _).alloc _
      have z1 : (w2.alloc (.cells #[.string callS] 9)).heap.size = w2.heap.size + 1 := by simp
      have hw : ((w2.alloc (.cells #[.string callS] 9)).alloc (.cells #[.string againS, .string callS] 9)).heap[w2.heap.size + 1]? = some (txObj (strs [againS, callS])) := by
        rw [← z1]; exact heap_alloc_new _ _
      have J1 := hid j1
      have HW := hid hw
      clear j1 z1 hw
      go_wp2_with fail
      refine Calls.mono (HP.out b w2 hBx.out _ J1.out) ?_
      rintro e w3 ⟨g, k, rfl, hg, hcell, k3⟩
      have hw3 := (k3.block _ (lt_of_heap HW.out) id).trans HW.out
      have S1 := hid (HS.out g k _ 2 w3 hg hcell hw3)
      have K3 := J1.out.then k3
      clear hg hcell hw3 k3
      go_wp2_with fail
      refine Calls.mono S1.out ?_
      rintro e w4 ⟨rfl, k4⟩
      have K4 := K3.then k4
      go_wp2_with fail
      refine Calls.mono (HN.out w4) ?_
      rintro e w5 ⟨rfl, rfl⟩
      have k5 := K4.then (keeps_alloc w4 (flObj ⟨#[]⟩ c .nilIface))
      go_wp2_with fail
      refine Calls.mono (HI.out b w2 hBx.out _ _ k5 K4.size (heap_alloc_new _ _)) ?_
      rintro e w6 ⟨rfl, k6⟩
      have K6 := k5.then k6
      go_wp2_with fail
      refine Calls.mono (errorsNew _ w6) ?_
      rintro e w7 ⟨rfl, rfl⟩
      have K7 := K6.then (keeps_alloc w6 (plObj ⟨#[120]⟩))
      go_wp2_with fail
      refine Calls.mono (HX.out b w2 hBx.out _ _ K7) ?_
      rintro e w8 ⟨rfl, k8⟩
      go_wp2_with fail
      go_ret
      exact ⟨rfl, (k1.then k2).then (K7.then k8)⟩
    · have ho : opsE tries = [callS] := by unfold opsE; rw [if_neg ht]
      rw [ho] at HP HS
      generalize errE c tries = t at *
      go_enter Tryd.func6, Tryd.ntmps6
      go_wp2_with fail
      refine Calls.mono HA.out ?_
      rintro e w1 ⟨rfl, k1⟩
      go_wp2_with fail
      refine Calls.mono (HE.out w1) ?_
      rintro e w2 ⟨b, rfl, hB, k2⟩
      have hBx := hid hB
      clear hB
      have j1 : Keeps nobody w2 (w2.alloc (.cells #[.string callS] 9)) := keeps_alloc _ _
      have hw : (w2.alloc (.cells #[.string callS] 9)).heap[w2.heap.size]? = some (txObj (strs [callS])) := heap_alloc_new _ _
      have J1 := hid j1
      have HW := hid hw
      clear j1 hw
      go_wp2_with fail
      refine Calls.mono (HP.out b w2 hBx.out _ J1.out) ?_
      rintro e w3 ⟨g, k, rfl, hg, hcell, k3⟩
      have hw3 := (k3.block _ (lt_of_heap HW.out) id).trans HW.out
      have S1 := hid (HS.out g k _ 1 w3 hg hcell hw3)
      have K3 := J1.out.then k3
      clear hg hcell hw3 k3
      go_wp2_with fail
      refine Calls.mono S1.out ?_
      rintro e w4 ⟨rfl, k4⟩
      have K4 := K3.then k4
      go_wp2_with fail
      refine Calls.mono (HN.out w4) ?_
      rintro e w5 ⟨rfl, rfl⟩
      have k5 := K4.then (keeps_alloc w4 (flObj ⟨#[]⟩ c .nilIface))
      go_wp2_with fail
      refine Calls.mono (HI.out b w2 hBx.out _ _ k5 K4.size (heap_alloc_new _ _)) ?_
      rintro e w6 ⟨rfl, k6⟩
      have K6 := k5.then k6
      go_wp2_with fail
      refine Calls.mono (errorsNew _ w6) ?_
      rintro e w7 ⟨rfl, rfl⟩
      have K7 := K6.then (keeps_alloc w6 (plObj ⟨#[120]⟩))
      go_wp2_with fail
      refine Calls.mono (HX.out b w2 hBx.out _ _ K7) ?_
      rintro e w8 ⟨rfl, k8⟩
      go_wp2_with fail
      go_ret
      exact ⟨rfl, (k1.then k2).then (K7.then k8)⟩
theorem wraps_main (c tries : Int) (w : World) (h : EnvS w) :
    Calls Tryd.prog 6 #[.int .i64 c, .int .i64 tries] w fun e w' => e = .returned (.bool true) ∧ Below w.heap.size w w' := by
  obtain ⟨a0, a1, h⟩ := h
  exact (wraps_law c tries a0 a1 w h).mono fun e w' ⟨he, hk⟩ => ⟨he, below_of_keeps hk⟩
end Go.Proofs.YtekjnicgffeghaaDoor
