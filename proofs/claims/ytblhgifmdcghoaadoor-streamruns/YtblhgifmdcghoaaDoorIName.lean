/-
  Package stream: Name, out of the program's variable; the statements' first call of all.
-/
import Derived.Test.YtblhgifmdcghoaaDoorISent
namespace Go.Proofs.YtblhgifmdcghoaaDoor
open Go.RowKit

/-- The program's variable holds the names. -/
def Env (w : World) : Prop := 0 < w.heap.size ∧ ∀ i s, stateL[i]? = some s → w.cell? ⟨0, i, none⟩ = some (.string s)
theorem Env.keeps {S : Nat → Prop} {w w' : World} (h : Env w) (hk : Keeps S w w') (hS : ¬ S 0) : Env w' :=
  ⟨Nat.lt_of_lt_of_le h.1 hk.size, fun i s hi => (hk.cell (p := ⟨0, i, none⟩) h.1 hS).trans (h.2 i s hi)⟩
theorem Env.quiet {w w' : World} (h : Env w) (hk : Keeps nobody w w') : Env w' := h.keeps hk id

set_option maxRecDepth 100000 in
theorem st_name (k : Int) (w : World) (hE : Env w) : Calls Tryd.prog 14 #[.int .i64 k] w fun e w' => e = .returned (.string (stateA k)) ∧ w = w' := by
  have HK : Hid (∀ w, Calls Tryd.prog 17 #[.int .i64 k] w fun e w' => e = .returned (.bool (stateB k)) ∧ w = w') := st_known k
  by_cases h : 0 ≤ k ∧ k ≤ 4
  · rw [state_of h.1 h.2] at HK
    obtain ⟨i, rfl⟩ := Int.eq_ofNat_of_zero_le h.1
    have hi : i < 5 := by omega
    obtain ⟨s, hs⟩ : ∃ s, stateL[i]? = some s := ⟨_, List.getElem?_eq_getElem (by rw [stateL_length]; exact hi)⟩
    have hc := hE.2 i s hs
    have e : stateA i = s := by
      rw [stateA, if_pos h]
      simp [hs]
    rw [e]
    clear e hs hE h
    go_enter Tryd.func14, Tryd.ntmps14
    go_wp2_with fail
    refine Calls.mono (HK.out _) ?_
    rintro e w1 ⟨rfl, rfl⟩
    go_wp2
    go_ret
    exact ⟨rfl, rfl⟩
  · have e : stateB k = false := by
      simp only [stateB, Bool.and_eq_false_iff, decide_eq_false_iff_not]
      omega
    rw [e] at HK
    rw [stateA, if_neg h]
    clear h hE e
    go_enter Tryd.func14, Tryd.ntmps14
    go_wp2_with fail
    refine Calls.mono (HK.out _) ?_
    rintro e w1 ⟨rfl, rfl⟩
    go_wp2
    go_ret
    exact ⟨rfl, rfl⟩

set_option maxRecDepth 100000 in
theorem alive_ok (w : World) (hE : Env w) : Calls Tryd.prog 9 #[] w fun e w' => e = .returned (.bool true) ∧ w = w' := by
  have HS : Hid (∀ W, StC W 10 0 1 true (2, 0)) := fun W => sent_ok 0 1 true W
  have HG : Hid (∀ W, StC W 12 2 0 true (4, 0)) := fun W => got_ok 2 0 true W
  have HN : Hid (Calls Tryd.prog 14 #[.int .i64 3] w fun e w' => e = .returned (.string ⟨#[114, 101, 109, 111, 116, 101]⟩) ∧ w = w') := st_name 3 w hE
  have HW : Hid (∀ W, Calls Tryd.prog 15 #[.int .i64 1] W fun e w' => e = .returned (.bool true) ∧ W = w') := fun W => st_writes 1 W
  have HR : Hid (∀ W, Calls Tryd.prog 16 #[.int .i64 3] W fun e w' => e = .returned (.bool false) ∧ W = w') := fun W => st_reads 3 W
  clear hE
  go_enter Tryd.func9, Tryd.ntmps9
  go_wp2_with fail
  refine Calls.mono (HS.out _) ?_
  rintro e w1 ⟨rfl, rfl⟩
  go_wp2_with fail
  refine Calls.mono (HG.out _) ?_
  rintro e w1 ⟨rfl, rfl⟩
  go_wp2_with fail
  refine Calls.mono (HN.out) ?_
  rintro e w1 ⟨rfl, rfl⟩
  go_wp2_with fail
  refine Calls.mono (HW.out _) ?_
  rintro e w1 ⟨rfl, rfl⟩
  go_wp2_with fail
  refine Calls.mono (HR.out _) ?_
  rintro e w1 ⟨rfl, rfl⟩
  go_wp2
  go_ret
  exact ⟨rfl, rfl⟩
end Go.Proofs.YtblhgifmdcghoaaDoor
