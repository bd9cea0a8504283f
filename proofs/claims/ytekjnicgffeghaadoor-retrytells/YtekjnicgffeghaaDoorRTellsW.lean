/-
  RetryTells, walked.
-/
import Derived.Test.YtekjnicgffeghaaDoorRRef
import Derived.Test.YtekjnicgffeghaaDoorRAlive
import Derived.Test.YtekjnicgffeghaaDoorRIsP
import Derived.Test.YtekjnicgffeghaaDoorESays
namespace Go.Proofs.YtekjnicgffeghaaDoor
open Go.RowKit Go.Extern.Stop Go.Stop Go.Extern

theorem says_enter {w0 w : World} {T f : Nat} {x : Value} {s : ByteArray} (h : Says w0 (.iface T x) s) (hm : ∀ w, (Go.method 224 T x "Error").run Tryd.prog w = .ok (f, x) w) (hE : Env w) (hk : Keeps nobody w0 w) : Calls Tryd.prog f #[x] w fun e w' => e = .returned (.string s) ∧ Keeps nobody w w' := by
  obtain ⟨T', x', f', hv, hm', _, hC⟩ := h
  cases hv
  have h1 := hm w
  rw [hm' w] at h1
  simp at h1
  subst h1
  exact hC w hE hk
/-- The words, of the code's name. -/
def wordsE (n : ByteArray) (tries : Int) : ByteArray := if 1 < tries then ⟨#[97, 103, 97, 105, 110, 58, 32]⟩ ++ (⟨#[99, 97, 108, 108, 58, 32]⟩ ++ n) else ⟨#[99, 97, 108, 108, 58, 32]⟩ ++ n
theorem pre_call : pre callS = ⟨#[99, 97, 108, 108, 58, 32]⟩ := by decide +kernel
theorem pre_again : pre againS = ⟨#[97, 103, 97, 105, 110, 58, 32]⟩ := by decide +kernel
theorem pre_none : pre ⟨#[]⟩ = ⟨#[]⟩ := by decide +kernel
theorem none_append (n : ByteArray) : (⟨#[]⟩ : ByteArray) ++ n = n := by apply ByteArray.ext; simp
theorem errE_words (c tries : Int) : (errE c tries).words = wordsE (nameOf c) tries := by
  unfold errE wordsE callE
  split <;> simp only [Er.words, Er.isNil, pre_call, pre_again, pre_none, none_append, if_true, if_false, Bool.false_eq_true]
theorem errE_size (c tries : Int) : (errE c tries).words.size ≤ 1000000 := by
  rw [errE_words]
  have := nameOf_size c
  unfold wordsE
  split
  · simp only [ByteArray.size_append]
    have e1 : (⟨#[97, 103, 97, 105, 110, 58, 32]⟩ : ByteArray).size = 7 := rfl
    have e2 : (⟨#[99, 97, 108, 108, 58, 32]⟩ : ByteArray).size = 6 := rfl
    omega
  · simp only [ByteArray.size_append]
    have e2 : (⟨#[99, 97, 108, 108, 58, 32]⟩ : ByteArray).size = 6 := rfl
    omega
theorem errE_first (c tries : Int) : (errE c tries).first = some (if 1 < tries then 23 else c) := by unfold errE callE; split <;> simp [Er.first]
theorem errE_code (c tries : Int) : (errE c tries).code = if 1 < tries then 23 else c := by simp [Er.code, errE_first]
theorem errE_many (c tries : Int) : (errE c tries).has 23 = (decide (1 < tries) || c == 23) := by
  unfold errE callE
  split
  · rename_i h; simp [Er.has, h]
  · rename_i h
    simp [Er.has, h]
    exact BEq.comm
/-- Which code it is. -/
theorem whichs (c : Int) : (c = 15 ∧ finalB c = false ∧ (c == 23) = false) ∨ (c = 14 ∧ finalB c = false ∧ (c == 23) = false) ∨ (c = 19 ∧ finalB c = false ∧ (c == 23) = false) ∨ (c = 16 ∧ finalB c = false ∧ (c == 23) = false) ∨ (c = 20 ∧ finalB c = false ∧ (c == 23) = false) ∨ (c = 18 ∧ finalB c = false ∧ (c == 23) = false) ∨ (c = 23 ∧ finalB c = true ∧ (c == 23) = true) ∨
    (((c != 15) = true ∧ (c != 14) = true ∧ (c != 19) = true ∧ (c != 16) = true ∧ (c != 20) = true ∧ (c != 18) = true) ∧ finalB c = true ∧ (c == 23) = false) := by
  by_cases h1 : c = 15; · subst h1; decide
  by_cases h2 : c = 14; · subst h2; decide
  by_cases h3 : c = 19; · subst h3; decide
  by_cases h4 : c = 16; · subst h4; decide
  by_cases h5 : c = 20; · subst h5; decide
  by_cases h6 : c = 18; · subst h6; decide
  by_cases h7 : c = 23; · subst h7; decide
  simp [h1, h2, h3, h4, h5, h6, h7, finalB, rgB, drB]
abbrev fObj : Obj := .cells #[.pointer none] 30 (0, 0)
set_option maxRecDepth 100000 in
set_option maxHeartbeats 4000000 in
theorem tells_long (m : ByteArray) (c : Int) (wr : Bool) (tries most : Int) (a0 a1 : Addr) (w : World) (h : Sent w a0 a1) (hm : m.size ≤ 140737488355328) (hl : ¬ m.size ≤ 40) :
    Calls Tryd.prog 3 #[.string m, .int .i64 c, .bool wr, .int .i64 tries, .int .i64 most] w fun e w' => e = .returned (.bool true) ∧ Keeps nobody w w' := by
  have HA : Hid (Calls Tryd.prog 8 #[] w fun e w' => e = .returned (.bool true) ∧ Keeps nobody w w') := alive_ok a0 a1 w h
  clear h
  go_enter Tryd.func3, Tryd.ntmps3
  go_wp2_with fail
  refine Calls.mono HA.out ?_
  rintro e w1 ⟨rfl, k1⟩
  go_wp2_with fail
  go_ret
  exact ⟨rfl, k1⟩
set_option maxRecDepth 100000 in
set_option maxHeartbeats 4000000 in
theorem tells_zero (m : ByteArray) (wr : Bool) (tries most : Int) (a0 a1 : Addr) (w : World) (h : Sent w a0 a1) (hl : m.size ≤ 40) :
    Calls Tryd.prog 3 #[.string m, .int .i64 0, .bool wr, .int .i64 tries, .int .i64 most] w fun e w' => e = .returned (.bool true) ∧ Keeps nobody w w' := by
  have HA : Hid (Calls Tryd.prog 8 #[] w fun e w' => e = .returned (.bool true) ∧ Keeps nobody w w') := alive_ok a0 a1 w h
  have HF : Hid (∀ w1, Keeps nobody w w1 → Calls Tryd.prog 11 #[.int .i64 0] w1 fun e w' => e = .returned (.bool true) ∧ Keeps nobody w1 w') := fun w1 h1 => final_ok 0 a0 a1 w1 (h.quiet h1)
  have HG : Hid (∀ w1, Keeps nobody w w1 → Calls Tryd.prog 9 #[.string m, .int .i64 0, .bool wr, .int .i64 tries, .int .i64 most] w1 fun e w' => e = .returned (.bool (againB m 0 wr tries most)) ∧ w1 = w') := fun w1 h1 => again_ok m 0 wr tries most a0 a1 w1 (h.quiet h1)
  have HR : Hid (∀ w1, Calls Tryd.prog 10 #[.string m, .int .i64 0, .bool wr, .int .i64 tries, .int .i64 most] w1 fun e w' => e = .returned (.bool (againB m 0 wr tries most)) ∧ w1 = w') := fun w1 => ragain_ok m 0 wr tries most w1
  generalize againB m 0 wr tries most = A at *
  clear h
  cases A
  all_goals
    go_enter Tryd.func3, Tryd.ntmps3
    go_wp2_with fail
    refine Calls.mono HA.out ?_
    rintro e w1 ⟨rfl, k1⟩
    go_wp2_with fail
    refine Calls.mono (HG.out _ k1) ?_
    rintro e w2 ⟨rfl, rfl⟩
    go_wp2_with fail
    refine Calls.mono (HR.out _) ?_
    rintro e w2 ⟨rfl, rfl⟩
    go_wp2_with fail
    refine Calls.mono (HF.out _ k1) ?_
    rintro e w2 ⟨rfl, k2⟩
    go_wp2_with fail
    refine Calls.mono (err_nil tries _) ?_
    rintro e w3 ⟨rfl, rfl⟩
    go_wp2_with fail
    go_ret
    exact ⟨rfl, k1.then k2⟩
end Go.Proofs.YtekjnicgffeghaaDoor
