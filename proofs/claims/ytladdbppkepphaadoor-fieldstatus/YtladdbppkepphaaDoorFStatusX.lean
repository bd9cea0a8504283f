/-
  FieldStatus: for every input.
-/
import Derived.Test.YtladdbppkepphaaDoorFStatusW
namespace Go.Proofs.YtladdbppkepphaaDoor
open Go.RowKit

attribute [local irreducible] responseE trailersE
set_option maxRecDepth 100000 in
set_option maxHeartbeats 1000000 in
theorem status_walk (x : Int) (a : Option Addr) (c : Nat) (more : List Fld) (W : World) (_ : Env W) (hf : FldsC W a c more) : Calls Tryd.prog 6 #[.int .i64 x, .slice a more.length c] W fun e w' => e = .returned (.bool true) ∧ Below W.heap.size W w' := by
  have HA : Hid (∀ W, Calls Tryd.prog 10 #[] W fun e w' => e = .returned (.bool true) ∧ Keeps nobody W w') := alive_ok
  by_cases hx0 : x < 0
  · clear hf
    go_enter Tryd.func6, Tryd.ntmps6
    go_wp2_with fail
    refine Calls.mono (HA.out _) ?_
    rintro e w1 ⟨rfl, k1⟩
    go_wp2
    go_ret
    exact ⟨rfl, below_of_keeps k1⟩
  · by_cases hx1 : 100000 < x
    · clear hf
      go_enter Tryd.func6, Tryd.ntmps6
      go_wp2_with fail
      refine Calls.mono (HA.out _) ?_
      rintro e w1 ⟨rfl, k1⟩
      go_wp2
      go_ret
      exact ⟨rfl, below_of_keeps k1⟩
    · have HF : Hid (Calls Tryd.prog 9 #[.slice a more.length c] W fun e w' => e = .returned (.bool (fewB more)) ∧ Keeps nobody W w') := few_ok c hf.1.lies hf.1.2.1 hf.1.2.2
      cases hb : fewB more
      · rw [hb] at HF
        clear hf hb
        go_enter Tryd.func6, Tryd.ntmps6
        go_wp2_with fail
        refine Calls.mono (HF.out) ?_
        rintro e w1 ⟨rfl, k1⟩
        go_wp2_with fail
        refine Calls.mono (HA.out _) ?_
        rintro e w2 ⟨rfl, k2⟩
        go_wp2
        go_ret
        exact ⟨rfl, below_of_keeps (k1.then k2)⟩
      · rw [hb] at HF
        have h40 := (fewB_len hb).1
        have HT : Hid (∀ w, Keeps nobody W w → Calls Tryd.prog 24 #[.slice a more.length c] w fun e w' => e = .returned (.int .i64 (trailersE more : Int)) ∧ Keeps nobody w w') := fun w hw => trailers_ok c (hf.1.lies.quiet hw) (by omega) hf.1.2.2 hf.2.1 hf.2.2
        by_cases ht : trailersE more = 0
        · rw [ht] at HT
          obtain ⟨n, rfl⟩ : ∃ n : Nat, x = (n : Int) := ⟨x.toNat, by omega⟩
          refine status_main n a c more W (by omega) hf.1.lies hf.1.2.2 h40 ht HF HT HA ?_
          rintro w p m n c E rfl h hm hz hc hcm rfl
          exact response_ok c h (by omega) hz hc hcm
        · clear hf hb
          generalize trailersE more = E at *
          go_enter Tryd.func6, Tryd.ntmps6
          go_wp2_with fail
          refine Calls.mono (HF.out) ?_
          rintro e w1 ⟨rfl, k1⟩
          go_wp2_with fail
          refine Calls.mono (HT.out _ k1) ?_
          rintro e w2 ⟨rfl, k2⟩
          go_wp2_with fail
          refine Calls.mono (HA.out _) ?_
          rintro e w3 ⟨rfl, k3⟩
          go_wp2
          go_ret
          exact ⟨rfl, below_of_keeps ((k1.then k2).then k3)⟩
end Go.Proofs.YtladdbppkepphaaDoor
