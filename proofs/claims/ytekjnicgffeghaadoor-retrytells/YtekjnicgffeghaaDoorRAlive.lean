/-
  The statements' first call of all.
-/
import Derived.Test.YtekjnicgffeghaaDoorRCode
namespace Go.Proofs.YtekjnicgffeghaaDoor
open Go.RowKit Go.Extern.Stop Go.Stop Go.Extern

set_option maxRecDepth 100000 in
set_option maxHeartbeats 1000000 in
theorem alive_ok (a0 a1 : Addr) (w : World) (h : Sent w a0 a1) : Calls Tryd.prog 8 #[] w fun e w' => e = .returned (.bool true) ∧ Keeps nobody w w' := by
  have HE := hid (err_ok 16 2 w (by decide))
  have HA : Hid (∀ w1, Keeps nobody w w1 → Calls Tryd.prog 9 #[.string ⟨#[80, 79, 83, 84]⟩, .int .i64 15, .bool true, .int .i64 1, .int .i64 4] w1 fun e w' => e = .returned (.bool true) ∧ w1 = w') := fun w1 h1 => by
    have := again_ok ⟨#[80, 79, 83, 84]⟩ 15 true 1 4 a0 a1 w1 (h.quiet h1)
    rwa [show againB ⟨#[80, 79, 83, 84]⟩ 15 true 1 4 = true by decide +kernel] at this
  have HB : Hid (∀ w1, Keeps nobody w w1 → Calls Tryd.prog 9 #[.string ⟨#[80, 79, 83, 84]⟩, .int .i64 16, .bool true, .int .i64 1, .int .i64 4] w1 fun e w' => e = .returned (.bool false) ∧ w1 = w') := fun w1 h1 => by
    have := again_ok ⟨#[80, 79, 83, 84]⟩ 16 true 1 4 a0 a1 w1 (h.quiet h1)
    rwa [show againB ⟨#[80, 79, 83, 84]⟩ 16 true 1 4 = false by decide +kernel] at this
  have HF : Hid (∀ w1, Keeps nobody w w1 → Calls Tryd.prog 11 #[.int .i64 11] w1 fun e w' => e = .returned (.bool true) ∧ Keeps nobody w1 w') := fun w1 h1 => final_ok 11 a0 a1 w1 (h.quiet h1)
  clear h
  go_enter Tryd.func8, Tryd.ntmps8
  go_wp2_with fail
  refine Calls.mono HE.out ?_
  rintro e w1 ⟨b, rfl, hB, k1⟩
  have H1 : Hid (∀ w2, Keeps nobody w1 w2 → Calls Tryd.prog 15 #[flV b, .int .i64 16] w2 fun e w' => e = .returned (.bool true) ∧ Keeps nobody w2 w') := fun w2 h2 => has_some 16 rfl (errE 16 2) _ w2 (hB.quiet h2)
  have H2 : Hid (∀ w2, Keeps nobody w1 w2 → Calls Tryd.prog 15 #[flV b, .int .i64 23] w2 fun e w' => e = .returned (.bool true) ∧ Keeps nobody w2 w') := fun w2 h2 => has_some 23 rfl (errE 16 2) _ w2 (hB.quiet h2)
  clear hB
  go_wp2_with fail
  refine Calls.mono (HA.out _ k1) ?_
  rintro e w2 ⟨rfl, rfl⟩
  go_wp2_with fail
  refine Calls.mono (HB.out _ k1) ?_
  rintro e w2 ⟨rfl, rfl⟩
  go_wp2_with fail
  refine Calls.mono (err_nil 3 _) ?_
  rintro e w2 ⟨rfl, rfl⟩
  go_wp2_with fail
  refine Calls.mono (H1.out _ (Keeps.refl _ _)) ?_
  rintro e w2 ⟨rfl, k2⟩
  go_wp2_with fail
  refine Calls.mono (H2.out _ k2) ?_
  rintro e w3 ⟨rfl, k3⟩
  go_wp2_with fail
  refine Calls.mono (HF.out _ ((k1.then k2).then k3)) ?_
  rintro e w4 ⟨rfl, k4⟩
  go_wp2_with fail
  go_ret
  exact ⟨rfl, ((k1.then k2).then k3).then k4⟩
end Go.Proofs.YtekjnicgffeghaaDoor
