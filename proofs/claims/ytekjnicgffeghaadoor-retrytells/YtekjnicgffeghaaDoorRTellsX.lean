/-
  RetryTells, walked: an error that is one.
-/
import Derived.Test.YtekjnicgffeghaaDoorRTellsW
namespace Go.Proofs.YtekjnicgffeghaaDoor
open Go.RowKit Go.Extern.Stop Go.Stop Go.Extern

set_option maxRecDepth 100000 in
set_option maxHeartbeats 8000000 in
theorem tells_more (m : ByteArray) (c : Int) (hc : (c == 0) = false) (wr : Bool) (tries most : Int) (ht : 1 < tries) (a0 a1 : Addr) (w : World) (hv : Env w) (h : Sent w a0 a1) (hl : m.size ≤ 40) :
    Calls Tryd.prog 3 #[.string m, .int .i64 c, .bool wr, .int .i64 tries, .int .i64 most] w fun e w' => e = .returned (.bool true) ∧ Keeps nobody w w' := by
  have HA : Hid (Calls Tryd.prog 8 #[] w fun e w' => e = .returned (.bool true) ∧ Keeps nobody w w') := alive_ok a0 a1 w h
  have HF : Hid (∀ w1, Keeps nobody w w1 → Calls Tryd.prog 11 #[.int .i64 c] w1 fun e w' => e = .returned (.bool (finalB c)) ∧ Keeps nobody w1 w') := fun w1 h1 => final_ok c a0 a1 w1 (h.quiet h1)
  have HG : Hid (∀ w1, Keeps nobody w w1 → Calls Tryd.prog 9 #[.string m, .int .i64 c, .bool wr, .int .i64 tries, .int .i64 most] w1 fun e w' => e = .returned (.bool (againB m c wr tries most)) ∧ w1 = w') := fun w1 h1 => again_ok m c wr tries most a0 a1 w1 (h.quiet h1)
  have HR : Hid (∀ w1, Calls Tryd.prog 10 #[.string m, .int .i64 c, .bool wr, .int .i64 tries, .int .i64 most] w1 fun e w' => e = .returned (.bool (againB m c wr tries most)) ∧ w1 = w') := fun w1 => ragain_ok m c wr tries most w1
  have HE : Hid (∀ w1, Calls Tryd.prog 12 #[.int .i64 c, .int .i64 tries] w1 fun e w' => ∃ b, e = .returned (flV b) ∧ Err w' (flV b) (errE c tries) ∧ Keeps nobody w1 w') := fun w1 => err_ok c tries w1 hc
  have HN : Hid (∀ w1, Keeps nobody w w1 → Calls Tryd.prog 13 #[.int .i64 c] w1 fun e w' => e = .returned (.string (nameOf c)) ∧ w1 = w') := fun w1 h1 => name_any c w1 (hv.quiet h1)
  have hns := nameOf_size c
  have HW : Hid (∀ b w1, Err w1 (flV b) (errE c tries) → Keeps nobody w w1 → ∀ w2, Keeps nobody w1 w2 → Calls Tryd.prog 56 #[.pointer (some ⟨b, 0, none⟩)] w2 fun e w' => e = .returned (.string (wordsE (nameOf c) tries)) ∧ Keeps nobody w2 w') := by
    intro b w1 hB k1 w2 k2
    have hS := says_ok 3 w1 (flV b) (errE c tries) (errE_deep c tries) (errE_some c tries) hB (errE_size c tries)
    rw [errE_words] at hS
    exact says_enter hS (fl_mError _) (hv.quiet (k1.then k2)) k2
  have HC : Hid (∀ b w1, Err w1 (flV b) (errE c tries) → Keeps nobody w w1 → ∀ w2, Keeps nobody w1 w2 → Calls Tryd.prog 14 #[flV b] w2 fun e w' => e = .returned (.int .i64 (if 1 < tries then 23 else c)) ∧ Keeps nobody w2 w') := by
    intro b w1 hB k1 w2 k2
    have := code_ok (errE c tries) _ w2 (hv.quiet (k1.then k2)) (errE_some c tries) (hB.quiet k2)
    rwa [errE_code] at this
  have HH : Hid (∀ b w1, Err w1 (flV b) (errE c tries) → ∀ w2, Keeps nobody w1 w2 → Calls Tryd.prog 15 #[flV b, .int .i64 c] w2 fun e w' => e = .returned (.bool true) ∧ Keeps nobody w2 w') := by
    intro b w1 hB w2 k2
    have := has_some c hc (errE c tries) _ w2 (hB.quiet k2)
    rwa [errE_has] at this
  have HM : Hid (∀ b w1, Err w1 (flV b) (errE c tries) → ∀ w2, Keeps nobody w1 w2 → Calls Tryd.prog 15 #[flV b, .int .i64 23] w2 fun e w' => e = .returned (.bool (decide (1 < tries) || c == 23)) ∧ Keeps nobody w2 w') := by
    intro b w1 hB w2 k2
    have := has_some 23 rfl (errE c tries) _ w2 (hB.quiet k2)
    rwa [errE_many] at this
  have HS : Hid (∀ b w1, Err w1 (flV b) (errE c tries) → Keeps nobody w w1 → ∀ w2, Keeps nobody w1 w2 → w2.heap[w1.heap.size]? = some fObj → Calls Tryd.prog 16 #[flV b, .iface 35 (.pointer (some ⟨w1.heap.size, 0, none⟩))] w2 fun e w' => e = .returned (.bool true) ∧ FoundAt w' w1.heap.size (if 1 < tries then 23 else c) ∧ Keeps (fun k => k = w1.heap.size) w2 w') := by
    intro b w1 hB k1 w2 k2 ht
    refine (As_ok (errE c tries) _ w2 w1.heap.size (.pointer none) (hv.quiet (k1.then k2)) (errE_some c tries) (hB.quiet k2) ht).mono ?_
    rintro e w' (⟨x, hx, rfl, hF, k⟩ | ⟨hx, _, _⟩)
    · rw [errE_first] at hx
      obtain rfl := Option.some.inj hx
      exact ⟨rfl, hF, k⟩
    · rw [errE_first] at hx
      cases hx
  have HX : Hid (∀ w1, Calls Tryd.prog 18 #[.int .i64 c] w1 fun e w' => e = .returned (flV w1.heap.size) ∧ w' = w1.alloc (flObj ⟨#[]⟩ c .nilIface)) := fun w1 => new_some c w1 hc
  have HI : Hid (∀ b w1, Err w1 (flV b) (errE c tries) → ∀ w2, w2.heap[w1.heap.size]? = some (flObj ⟨#[]⟩ c .nilIface) → Keeps nobody w1 w2 → Calls Tryd.prog 17 #[flV b, flV w1.heap.size] w2 fun e w' => e = .returned (.bool true) ∧ Keeps nobody w2 w') := by
    intro b w1 hB w2 ht k2
    have := errorsIs_ok c (by simp [bne, hc]) (errE c tries) _ w1 w2 w1.heap.size (errE_some c tries) hB k2 (Nat.le_refl _) ht
    rwa [errE_has] at this
  have mE := fl_mError
  have eE := fl_enter
  clear h hv
  have e1 : wordsE (nameOf c) tries = ⟨#[97, 103, 97, 105, 110, 58, 32]⟩ ++ (⟨#[99, 97, 108, 108, 58, 32]⟩ ++ nameOf c) := if_pos ht
  rw [e1] at HW
  simp only [if_pos ht] at HC HS
  rw [decide_eq_true ht, Bool.true_or] at HM
  clear e1
  generalize errE c tries = t at *
  generalize nameOf c = N at *
  have z1 : ((⟨#[97, 103, 97, 105, 110, 58, 32]⟩ ++ (⟨#[99, 97, 108, 108, 58, 32]⟩ ++ N) : ByteArray).toList == (⟨#[97, 103, 97, 105, 110, 58, 32]⟩ ++ (⟨#[99, 97, 108, 108, 58, 32]⟩ ++ N) : ByteArray).toList) = true := beq_list_of_eq rfl
  generalize againB m c wr tries most = A at *
  rcases whichs c with ⟨rfl, hf, h23⟩ | ⟨rfl, hf, h23⟩ | ⟨rfl, hf, h23⟩ | ⟨rfl, hf, h23⟩ | ⟨rfl, hf, h23⟩ | ⟨rfl, hf, h23⟩ | ⟨rfl, hf, h23⟩ | ⟨⟨n15, n14, n19, n16, n20, n18⟩, hf, h23⟩
  all_goals
    rw [hf] at HF
    clear hf h23
    cases A
    all_goals
      go_enter Tryd.func3, Tryd.ntmps3
      go_wp2_with fail
      refine Calls.mono HA.out ?_
      rintro e w1 ⟨rfl, k1⟩
      go_wp2_with fail
      refine Calls.mono (HG.out _ k1) ?_
      rintro e w2 ⟨rfl, rfl⟩
      go_wp2_with fail
      refine Calls.mono (HR.out _) ?_
      rintro e w2 ⟨rfl, rfl⟩
      go_wp2_with fail
      refine Calls.mono (HF.out _ k1) ?_
      rintro e w2 ⟨rfl, k2⟩
      go_wp2_with fail
      refine Calls.mono (HE.out w2) ?_
      rintro e w3 ⟨b, rfl, hB, k3⟩
      have K3 := (k1.then k2).then k3
      have hBx := hid hB
      clear hB
      have j4 : Keeps nobody w3 (w3.alloc fObj) := keeps_alloc _ _
      have J4 := hid j4
      have T4 : Hid ((w3.alloc fObj).heap[w3.heap.size]? = some fObj) := heap_alloc_new w3 _
      clear j4
      go_wp2_with fail
      refine Calls.mono (HN.out _ K3) ?_
      rintro e w4 ⟨rfl, rfl⟩
      go_wp2_with fail
      refine Calls.mono (HW.out b w3 hBx.out K3 _ J4.out) ?_
      rintro e w5 ⟨rfl, k5⟩
      have K5 := hid (J4.out.then k5)
      have T5 : Hid (w5.heap[w3.heap.size]? = some fObj) := (k5.block _ (lt_of_heap T4.out) id).trans T4.out
      clear k5
      go_wp2_with fail
      refine Calls.mono (HC.out b w3 hBx.out K3 _ K5.out) ?_
      rintro e w6 ⟨rfl, k6⟩
      have K6 := hid (K5.out.then k6)
      have T6 : Hid (w6.heap[w3.heap.size]? = some fObj) := (k6.block _ (lt_of_heap T5.out) id).trans T5.out
      clear k6
      go_wp2_with fail
      refine Calls.mono (HH.out b w3 hBx.out _ K6.out) ?_
      rintro e w7 ⟨rfl, k7⟩
      have K7 := hid (K6.out.then k7)
      have T7 : Hid (w7.heap[w3.heap.size]? = some fObj) := (k7.block _ (lt_of_heap T6.out) id).trans T6.out
      clear k7
      go_wp2_with fail
      refine Calls.mono (HM.out b w3 hBx.out _ K7.out) ?_
      rintro e w8 ⟨rfl, k8⟩
      have K8 := hid (K7.out.then k8)
      have T8 : Hid (w8.heap[w3.heap.size]? = some fObj) := (k8.block _ (lt_of_heap T7.out) id).trans T7.out
      clear k8
      go_wp2_with fail
      refine Calls.mono (HS.out b w3 hBx.out K3 _ K8.out T8.out) ?_
      rintro e w9 ⟨rfl, ⟨fb, fop, fv, hF1, hF2⟩, k9⟩
      have f0 := cells_of hF1 0 _ rfl
      have f1 := cells_of hF2 1 _ rfl
      have K9 := hid ((K8.out.mono (T := fun k => k = w3.heap.size) fun _ _ h => h.elim).trans k9 fun _ _ h => h)
      clear hF1 hF2 k9
      go_wp2_with fail
      refine Calls.mono (HX.out w9) ?_
      rintro e w10 ⟨rfl, rfl⟩
      go_wp2_with fail
      refine Calls.mono (HI.out b w9 (hBx.out.grown K9.out (fun k hk hS => by omega)) _ (heap_alloc_new _ _) (keeps_alloc _ _)) ?_
      rintro e w11 ⟨rfl, k11⟩
      go_wp2_with fail
      go_ret
      exact ⟨rfl, (K3.trans K9.out (fun n hn hS => by have := K3.size; omega)).then ((keeps_alloc _ _).then k11)⟩
end Go.Proofs.YtekjnicgffeghaaDoor
