/-
  Package frame: Right, unpad.
-/
import Derived.Test.YtdpbnlamdgdljaaRCode
namespace Go.Proofs.Ytdpbnlamdgdljaa
open Go.RowKit
attribute [local irreducible] numL byteAt endOf idOf nums str

theorem within_yes (n m : Int) (h : 0 ≤ n ∧ n ≤ m) (w : World) : Calls Try.prog 65 #[.int .i64 n, .int .i64 m] w fun e w' => e = .returned (.bool true) ∧ w = w' := by
  have := within_ok n m w
  rwa [decide_eq_true h] at this
theorem within_no (n m : Int) (h : ¬ (0 ≤ n ∧ n ≤ m)) (w : World) : Calls Try.prog 65 #[.int .i64 n, .int .i64 m] w fun e w' => e = .returned (.bool false) ∧ w = w' := by
  have := within_ok n m w
  rwa [decide_eq_false h] at this

set_option maxRecDepth 100000 in
theorem right_ok (f : Frm) (w : World) : Calls Try.prog 60 #[frval f] w fun e w' => e = .returned (.bool (decide (right f))) ∧ Keeps nobody w w' := by
  obtain ⟨k, fl, id, b⟩ := f
  by_cases h1 : 0 ≤ k ∧ k ≤ 255
  · have H1 : Hid (∀ w, Calls Try.prog 65 #[.int .i64 k, .int .i64 255] w fun e w' => e = .returned (.bool true) ∧ w = w') := within_yes _ _ h1
    by_cases h2 : 0 ≤ fl ∧ fl ≤ 255
    · have H2 : Hid (∀ w, Calls Try.prog 65 #[.int .i64 fl, .int .i64 255] w fun e w' => e = .returned (.bool true) ∧ w = w') := within_yes _ _ h2
      by_cases h3 : 0 ≤ id ∧ id ≤ 2147483647
      · have H3 : Hid (∀ w, Calls Try.prog 65 #[.int .i64 id, .int .i64 2147483647] w fun e w' => e = .returned (.bool true) ∧ w = w') := within_yes _ _ h3
        have e : decide (right ⟨k, fl, id, b⟩) = decide (b.size ≤ 16777215) := by simp [right, h1, h2, h3]
        rw [e]
        clear e h1 h2 h3
        go_enter Try.func60, Try.ntmps60
        go_wp2_with fail
        refine Calls.mono (H1.out _) ?_
        rintro e w1 ⟨rfl, rfl⟩
        go_wp2_with fail
        refine Calls.mono (H2.out _) ?_
        rintro e w1 ⟨rfl, rfl⟩
        go_wp2_with fail
        refine Calls.mono (H3.out _) ?_
        rintro e w1 ⟨rfl, rfl⟩
        go_wp2
        go_ret
        exact ⟨by simp; omega, keeps_alloc _ _⟩
      · have H3 : Hid (∀ w, Calls Try.prog 65 #[.int .i64 id, .int .i64 2147483647] w fun e w' => e = .returned (.bool false) ∧ w = w') := within_no _ _ h3
        have e : decide (right ⟨k, fl, id, b⟩) = false := by simp only [right]; exact decide_eq_false fun h => h3 h.2.2.1
        rw [e]
        clear e h1 h2 h3
        go_enter Try.func60, Try.ntmps60
        go_wp2_with fail
        refine Calls.mono (H1.out _) ?_
        rintro e w1 ⟨rfl, rfl⟩
        go_wp2_with fail
        refine Calls.mono (H2.out _) ?_
        rintro e w1 ⟨rfl, rfl⟩
        go_wp2_with fail
        refine Calls.mono (H3.out _) ?_
        rintro e w1 ⟨rfl, rfl⟩
        go_wp2
        go_ret
        exact ⟨rfl, keeps_alloc _ _⟩
    · have H2 : Hid (∀ w, Calls Try.prog 65 #[.int .i64 fl, .int .i64 255] w fun e w' => e = .returned (.bool false) ∧ w = w') := within_no _ _ h2
      have e : decide (right ⟨k, fl, id, b⟩) = false := by simp only [right]; exact decide_eq_false fun h => h2 h.2.1
      rw [e]
      clear e h1 h2
      go_enter Try.func60, Try.ntmps60
      go_wp2_with fail
      refine Calls.mono (H1.out _) ?_
      rintro e w1 ⟨rfl, rfl⟩
      go_wp2_with fail
      refine Calls.mono (H2.out _) ?_
      rintro e w1 ⟨rfl, rfl⟩
      go_wp2
      go_ret
      exact ⟨rfl, keeps_alloc _ _⟩
  · have H1 : Hid (∀ w, Calls Try.prog 65 #[.int .i64 k, .int .i64 255] w fun e w' => e = .returned (.bool false) ∧ w = w') := within_no _ _ h1
    have e : decide (right ⟨k, fl, id, b⟩) = false := by simp only [right]; exact decide_eq_false fun h => h1 h.1
    rw [e]
    clear e h1
    go_enter Try.func60, Try.ntmps60
    go_wp2_with fail
    refine Calls.mono (H1.out _) ?_
    rintro e w1 ⟨rfl, rfl⟩
    go_wp2
    go_ret
    exact ⟨rfl, keeps_alloc _ _⟩

def unpadV (o : Option ByteArray) : Value := .tuple #[.string (o.getD ⟨#[]⟩), .bool o.isSome]
set_option maxRecDepth 100000 in
theorem unpad_ok (b : ByteArray) (w : World) (hs : b.size ≤ 140737488355328) : Calls Try.prog 63 #[.string b] w fun e w' => e = .returned (unpadV (unpadA b)) ∧ w = w' := by
  by_cases h0 : 0 < b.size
  · have hix : ∀ w, (Instr.index 9 (.string b) (.int .i64 0)).run Try.prog w = .ok (.int .u8 (byteAt b 0 : Int)) w := fun w => by rw [← byteAt_get b 0 h0]; exact index_at b 0 h0 w
    have hyb := byteAt_lt b 0
    have hemp := isEmpty_of_size b h0
    by_cases h1 : b.size < 1 + byteAt b 0
    · have e : unpadA b = none := by rw [unpadA, if_pos (.inr h1)]
      rw [e]
      clear e
      generalize byteAt b 0 = y at *
      have hlt : (b.size : Int) - (y : Int) < 1 := by omega
      go_enter Try.func63, Try.ntmps63
      go_wp2
      go_ret2
      exact ⟨rfl, rfl⟩
    · have e : unpadA b = some (b.extract 1 (b.size - byteAt b 0)) := by rw [unpadA, if_neg (by omega)]
      rw [e]
      clear e
      generalize byteAt b 0 = y at *
      have hsub : (b.size : Int) - (y : Int) = ((b.size - y : Nat) : Int) := by omega
      have hsl := slice_both b 1 (b.size - y) (by omega) (by omega)
      have hb1 : 1 ≤ b.size - y := by omega
      have hb2 : b.size - y ≤ b.size := by omega
      generalize b.size - y = m at *
      go_enter Try.func63, Try.ntmps63
      go_wp2
      go_ret2
      exact ⟨rfl, rfl⟩
  · obtain rfl := eq_empty_of_size b h0
    have e : unpadA ⟨#[]⟩ = none := by rw [unpadA, if_pos (.inl rfl)]
    rw [e]
    go_enter Try.func63, Try.ntmps63
    go_wp2
    go_ret2
    exact ⟨rfl, rfl⟩
end Go.Proofs.Ytdpbnlamdgdljaa
