/-
  The law RuleUnknown as a walk.
-/
import Derived.Test.YtcbgjdfcndgaaaaUCodesW
namespace Go.Proofs.Ytcbgjdfcndgaaaa
open Go.RowKit

theorem check_great (f : Frm) (h : right f) (h9 : 9 < f.kind) : checkA f = (0, 0) := by
  have hs : streamed f.kind = false := by
    have h0 : (f.kind == 0) = false := by simp; omega
    have h1 : (f.kind == 1) = false := by simp; omega
    have h2 : (f.kind == 2) = false := by simp; omega
    have h3 : (f.kind == 3) = false := by simp; omega
    have h9 : (f.kind == 9) = false := by simp; omega
    simp [streamed, h0, h1, h2, h3, h9]
  have hp : placed f.kind f.id = true := by
    unfold placed
    rw [hs, if_neg (by simp), if_neg (by omega), if_neg (by omega)]
  have hz : sized f.kind (ackB f.flags) f.body.size = true := by
    unfold sized
    rw [if_neg (by omega), if_neg (by omega), if_neg (by omega), if_neg (by omega), if_neg (by omega)]
  have he : stripE f = 0 := strip_other_err _ _ _ _ (by omega) (by omega)
  rw [checkA, if_neg (fun g => g h), hp, hz, he]
  simp [codeOf]
attribute [local irreducible] checkA right stripA
theorem unknown_off (k fl id : Int) (b : ByteArray) (W : World) (HA : Hid (∀ w, Calls Try.prog 9 #[] w fun e w' => e = .returned (.bool true) ∧ Keeps nobody w w')) (h : 600 < b.size) : Calls Try.prog 6 #[.int .i64 k, .int .i64 fl, .int .i64 id, .string b] W (Fine W) := by
  go_enter Try.func6, Try.ntmps6
  go_wp2_with fail
  refine Calls.mono (HA.out _) ?_
  rintro e w1 ⟨rfl, k1⟩
  go_wp2
  go_ret
  exact ⟨rfl, below_of_keeps k1⟩

set_option maxRecDepth 100000 in
theorem unknown_a (k fl id : Int) (b : ByteArray) (W : World) (HA : Hid (∀ w, Calls Try.prog 9 #[] w fun e w' => e = .returned (.bool true) ∧ Keeps nobody w w')) (hb : b.size ≤ 600) (h : k < 0) (h1 : k ≤ 9) (HK : Hid (∀ w, Calls Try.prog 12 #[.int .i64 k] w fun e w' => e = .returned (.bool false) ∧ w = w')) : Calls Try.prog 6 #[.int .i64 k, .int .i64 fl, .int .i64 id, .string b] W (Fine W) := by
  go_enter Try.func6, Try.ntmps6
  go_wp2_with fail
  refine Calls.mono (HA.out _) ?_
  rintro e w1 ⟨rfl, k1⟩
  have kk := k1.alloc (frobj k fl id b)
  go_wp2_with fail
  refine Calls.mono (HK.out _) ?_
  rintro e w2 ⟨rfl, rfl⟩
  go_wp2
  go_ret
  exact ⟨by first | rfl | (simp; omega), below_of_keeps kk⟩

set_option maxRecDepth 100000 in
theorem unknown_b (k fl id : Int) (b : ByteArray) (W : World) (HA : Hid (∀ w, Calls Try.prog 9 #[] w fun e w' => e = .returned (.bool true) ∧ Keeps nobody w w')) (hb : b.size ≤ 600) (h : 0 ≤ k) (h1 : k ≤ 9) (HK : Hid (∀ w, Calls Try.prog 12 #[.int .i64 k] w fun e w' => e = .returned (.bool true) ∧ w = w')) : Calls Try.prog 6 #[.int .i64 k, .int .i64 fl, .int .i64 id, .string b] W (Fine W) := by
  go_enter Try.func6, Try.ntmps6
  go_wp2_with fail
  refine Calls.mono (HA.out _) ?_
  rintro e w1 ⟨rfl, k1⟩
  have kk := k1.alloc (frobj k fl id b)
  go_wp2_with fail
  refine Calls.mono (HK.out _) ?_
  rintro e w2 ⟨rfl, rfl⟩
  go_wp2
  go_ret
  exact ⟨by first | rfl | (simp; omega), below_of_keeps kk⟩

set_option maxRecDepth 100000 in
theorem unknown_c (k fl id : Int) (b : ByteArray) (W : World) (HA : Hid (∀ w, Calls Try.prog 9 #[] w fun e w' => e = .returned (.bool true) ∧ Keeps nobody w w')) (hb : b.size ≤ 600) (h0 : 0 ≤ k) (h1 : 9 < k) (h : 255 < k) (HK : Hid (∀ w, Calls Try.prog 12 #[.int .i64 k] w fun e w' => e = .returned (.bool false) ∧ w = w')) : Calls Try.prog 6 #[.int .i64 k, .int .i64 fl, .int .i64 id, .string b] W (Fine W) := by
  go_enter Try.func6, Try.ntmps6
  go_wp2_with fail
  refine Calls.mono (HA.out _) ?_
  rintro e w1 ⟨rfl, k1⟩
  have kk := k1.alloc (frobj k fl id b)
  go_wp2_with fail
  refine Calls.mono (HK.out _) ?_
  rintro e w2 ⟨rfl, rfl⟩
  go_wp2
  go_ret
  exact ⟨by first | rfl | (simp; omega), below_of_keeps kk⟩

set_option maxRecDepth 100000 in
theorem unknown_d (k fl id : Int) (b : ByteArray) (W : World) (HA : Hid (∀ w, Calls Try.prog 9 #[] w fun e w' => e = .returned (.bool true) ∧ Keeps nobody w w')) (hb : b.size ≤ 600) (h0 : 0 ≤ k) (h1 : 9 < k) (h2 : k ≤ 255) (h : fl < 0) (HK : Hid (∀ w, Calls Try.prog 12 #[.int .i64 k] w fun e w' => e = .returned (.bool false) ∧ w = w')) : Calls Try.prog 6 #[.int .i64 k, .int .i64 fl, .int .i64 id, .string b] W (Fine W) := by
  go_enter Try.func6, Try.ntmps6
  go_wp2_with fail
  refine Calls.mono (HA.out _) ?_
  rintro e w1 ⟨rfl, k1⟩
  have kk := k1.alloc (frobj k fl id b)
  go_wp2_with fail
  refine Calls.mono (HK.out _) ?_
  rintro e w2 ⟨rfl, rfl⟩
  go_wp2
  go_ret
  exact ⟨by first | rfl | (simp; omega), below_of_keeps kk⟩

set_option maxRecDepth 100000 in
theorem unknown_e (k fl id : Int) (b : ByteArray) (W : World) (HA : Hid (∀ w, Calls Try.prog 9 #[] w fun e w' => e = .returned (.bool true) ∧ Keeps nobody w w')) (hb : b.size ≤ 600) (h0 : 0 ≤ k) (h1 : 9 < k) (h2 : k ≤ 255) (h3 : 0 ≤ fl) (h : 255 < fl) (HK : Hid (∀ w, Calls Try.prog 12 #[.int .i64 k] w fun e w' => e = .returned (.bool false) ∧ w = w')) : Calls Try.prog 6 #[.int .i64 k, .int .i64 fl, .int .i64 id, .string b] W (Fine W) := by
  go_enter Try.func6, Try.ntmps6
  go_wp2_with fail
  refine Calls.mono (HA.out _) ?_
  rintro e w1 ⟨rfl, k1⟩
  have kk := k1.alloc (frobj k fl id b)
  go_wp2_with fail
  refine Calls.mono (HK.out _) ?_
  rintro e w2 ⟨rfl, rfl⟩
  go_wp2
  go_ret
  exact ⟨by first | rfl | (simp; omega), below_of_keeps kk⟩

set_option maxRecDepth 100000 in
theorem unknown_f (k fl id : Int) (b : ByteArray) (W : World) (HA : Hid (∀ w, Calls Try.prog 9 #[] w fun e w' => e = .returned (.bool true) ∧ Keeps nobody w w')) (hb : b.size ≤ 600) (h0 : 0 ≤ k) (h1 : 9 < k) (h2 : k ≤ 255) (h3 : 0 ≤ fl) (h4 : fl ≤ 255) (h : id < 0) (HK : Hid (∀ w, Calls Try.prog 12 #[.int .i64 k] w fun e w' => e = .returned (.bool false) ∧ w = w')) : Calls Try.prog 6 #[.int .i64 k, .int .i64 fl, .int .i64 id, .string b] W (Fine W) := by
  go_enter Try.func6, Try.ntmps6
  go_wp2_with fail
  refine Calls.mono (HA.out _) ?_
  rintro e w1 ⟨rfl, k1⟩
  have kk := k1.alloc (frobj k fl id b)
  go_wp2_with fail
  refine Calls.mono (HK.out _) ?_
  rintro e w2 ⟨rfl, rfl⟩
  go_wp2
  go_ret
  exact ⟨by first | rfl | (simp; omega), below_of_keeps kk⟩

set_option maxRecDepth 100000 in
theorem unknown_g (k fl id : Int) (b : ByteArray) (W : World) (HA : Hid (∀ w, Calls Try.prog 9 #[] w fun e w' => e = .returned (.bool true) ∧ Keeps nobody w w')) (hb : b.size ≤ 600) (h0 : 0 ≤ k) (h1 : 9 < k) (h2 : k ≤ 255) (h3 : 0 ≤ fl) (h4 : fl ≤ 255) (h5 : 0 ≤ id) (h : 2147483647 < id) (HK : Hid (∀ w, Calls Try.prog 12 #[.int .i64 k] w fun e w' => e = .returned (.bool false) ∧ w = w')) : Calls Try.prog 6 #[.int .i64 k, .int .i64 fl, .int .i64 id, .string b] W (Fine W) := by
  go_enter Try.func6, Try.ntmps6
  go_wp2_with fail
  refine Calls.mono (HA.out _) ?_
  rintro e w1 ⟨rfl, k1⟩
  have kk := k1.alloc (frobj k fl id b)
  go_wp2_with fail
  refine Calls.mono (HK.out _) ?_
  rintro e w2 ⟨rfl, rfl⟩
  go_wp2
  go_ret
  exact ⟨by first | rfl | (simp; omega), below_of_keeps kk⟩

set_option maxRecDepth 100000 in
theorem unknown_yes (k fl id : Int) (b : ByteArray) (W : World) (HA : Hid (∀ w, Calls Try.prog 9 #[] w fun e w' => e = .returned (.bool true) ∧ Keeps nobody w w')) (hb : b.size ≤ 600) (h1 : 9 < k) (h2 : k ≤ 255) (h3 : 0 ≤ fl) (h4 : fl ≤ 255) (h5 : 0 ≤ id) (h6 : id ≤ 2147483647)
    (HC : Hid (∀ w, Calls Try.prog 10 #[.agg #[.int .i64 k, .int .i64 fl, .int .i64 id, .string b]] w fun e w' => e = .returned (.tuple #[.int .i64 0, .int .i64 0]) ∧ Keeps nobody w w'))
    (HK : Hid (∀ w, Calls Try.prog 12 #[.int .i64 k] w fun e w' => e = .returned (.bool false) ∧ w = w'))
    (HS : Hid (∀ w, Calls Try.prog 13 #[.int .i64 k] w fun e w' => e = .returned (.bool false) ∧ w = w')) : Calls Try.prog 6 #[.int .i64 k, .int .i64 fl, .int .i64 id, .string b] W (Fine W) := by
  go_enter Try.func6, Try.ntmps6
  go_wp2_with fail
  refine Calls.mono (HA.out _) ?_
  rintro e w1 ⟨rfl, k1⟩
  have kk := k1.alloc (frobj k fl id b)
  clear k1 HA
  go_wp2_with fail
  refine Calls.mono (HC.out _) ?_
  rintro e w2 ⟨rfl, k2⟩
  have kl := kk.then k2
  clear kk k2 HC
  go_wp2_with fail
  refine Calls.mono (HK.out _) ?_
  rintro e w3 ⟨rfl, rfl⟩
  go_wp2_with fail
  refine Calls.mono (HS.out _) ?_
  rintro e w3 ⟨rfl, rfl⟩
  go_wp2
  go_ret
  exact ⟨rfl, below_of_keeps kl⟩

theorem unknown_true (k fl id : Int) (b : ByteArray) (W : World) (_ : b.size ≤ 140737488355328) : Calls Try.prog 6 #[.int .i64 k, .int .i64 fl, .int .i64 id, .string b] W (Fine W) := by
  have HA : Hid (∀ w, Calls Try.prog 9 #[] w fun e w' => e = .returned (.bool true) ∧ Keeps nobody w w') := fun w => alive_ok w
  have HK : Hid (∀ w, Calls Try.prog 12 #[.int .i64 k] w fun e w' => e = .returned (.bool (known k)) ∧ w = w') := fun w => known_ok k w
  have HS : Hid (∀ w, Calls Try.prog 13 #[.int .i64 k] w fun e w' => e = .returned (.bool (streamed k)) ∧ w = w') := fun w => streamed_ok k w
  by_cases hb : b.size ≤ 600
  · by_cases h0 : 0 ≤ k
    · by_cases h1 : 9 < k
      · have hk : known k = false := by simp [known]; omega
        have hs : streamed k = false := by
          have e0 : (k == 0) = false := by simp; omega
          have e1 : (k == 1) = false := by simp; omega
          have e2 : (k == 2) = false := by simp; omega
          have e3 : (k == 3) = false := by simp; omega
          have e9 : (k == 9) = false := by simp; omega
          simp [streamed, e0, e1, e2, e3, e9]
        rw [hk] at HK
        rw [hs] at HS
        by_cases h2 : k ≤ 255
        · by_cases h3 : 0 ≤ fl
          · by_cases h4 : fl ≤ 255
            · by_cases h5 : 0 ≤ id
              · by_cases h6 : id ≤ 2147483647
                · have hr : right ⟨k, fl, id, b⟩ := by unfold right; exact ⟨⟨h0, h2⟩, ⟨h3, h4⟩, ⟨h5, h6⟩, show b.size ≤ 16777215 by omega⟩
                  have HC : Hid (∀ w, Calls Try.prog 10 #[frval ⟨k, fl, id, b⟩] w fun e w' => e = .returned (checkV (0, 0)) ∧ Keeps nobody w w') := fun w => by
                    have := check_ok ⟨k, fl, id, b⟩ w (by simp only; omega)
                    rwa [check_great _ hr h1] at this
                  exact unknown_yes k fl id b W HA hb h1 h2 h3 h4 h5 h6 HC HK HS
                · exact unknown_g k fl id b W HA hb h0 h1 h2 h3 h4 h5 (by omega) HK
              · exact unknown_f k fl id b W HA hb h0 h1 h2 h3 h4 (by omega) HK
            · exact unknown_e k fl id b W HA hb h0 h1 h2 h3 (by omega) HK
          · exact unknown_d k fl id b W HA hb h0 h1 h2 (by omega) HK
        · exact unknown_c k fl id b W HA hb h0 h1 (by omega) HK
      · have hk : known k = true := by simp [known]; omega
        rw [hk] at HK
        exact unknown_b k fl id b W HA hb h0 (by omega) HK
    · have hk : known k = false := by simp [known]; omega
      rw [hk] at HK
      exact unknown_a k fl id b W HA hb (by omega) (by omega) HK
  · exact unknown_off k fl id b W HA (by omega)
end Go.Proofs.Ytcbgjdfcndgaaaa
