/-
  Package rule: Check; the statements' first call of all.
-/
import Derived.Test.YtdpbnlamdgdljaaUCode
namespace Go.Proofs.Ytdpbnlamdgdljaa
open Go.RowKit
attribute [local irreducible] numL byteAt endOf idOf nums str unpadA behind stripA

set_option maxRecDepth 100000 in
theorem check_ok (f : Frm) (w : World) (hs : f.body.size ≤ 140737488355328) : Calls Try.prog 48 #[frval f] w fun e w' => e = .returned (checkV (checkA f)) ∧ Keeps nobody w w' := by
  have HR : Hid (∀ w, Calls Try.prog 60 #[frval f] w fun e w' => e = .returned (.bool (decide (right f))) ∧ Keeps nobody w w') := fun w => right_ok f w
  by_cases hr : right f
  · rw [decide_eq_true hr] at HR
    have HP : Hid (∀ w, Calls Try.prog 61 #[.int .i64 f.kind, .int .i64 f.id] w fun e w' => e = .returned (.bool (placed f.kind f.id)) ∧ w = w') := fun w => placed_ok f.kind f.id w
    cases hp : placed f.kind f.id with
    | false =>
      have e : checkA f = (1, 11) := by rw [checkA, if_neg (fun h => h hr), if_pos hp]
      rw [e]
      rw [hp] at HP
      clear e hr hp
      obtain ⟨k, fl, id, b⟩ := f
      go_enter Try.func48, Try.ntmps48
      go_wp2_with fail
      refine Calls.mono (HR.out _) ?_
      rintro e w1 ⟨rfl, k1⟩
      have c0 := (k1.cell (p := ⟨w.heap.size, 0, none⟩) (by simp) (fun h => h)).trans (show _ = some (Value.int .i64 k) by simp)
      have c2 := (k1.cell (p := ⟨w.heap.size, 2, none⟩) (by simp) (fun h => h)).trans (show _ = some (Value.int .i64 id) by simp)
      have kw := (keeps_alloc w _).then k1
      clear k1 HR
      go_wp2_with fail
      refine Calls.mono (HP.out _) ?_
      rintro e w2 ⟨rfl, rfl⟩
      go_wp2
      go_ret2
      exact ⟨rfl, kw⟩
    | true =>
      rw [hp] at HP
      have HZ : Hid (∀ w, Calls Try.prog 62 #[frval f] w fun e w' => e = .returned (.bool (sized f.kind (ackB f.flags) f.body.size)) ∧ Keeps nobody w w') := fun w => sized_ok f w
      cases hz : sized f.kind (ackB f.flags) f.body.size with
      | false =>
        have e : checkA f = (6, 5) := by rw [checkA, if_neg (fun h => h hr), if_neg (by simp [hp]), if_pos hz]
        rw [e]
        rw [hz] at HZ
        clear e hr hp hz
        obtain ⟨k, fl, id, b⟩ := f
        go_enter Try.func48, Try.ntmps48
        go_wp2_with fail
        refine Calls.mono (HR.out _) ?_
        rintro e w1 ⟨rfl, k1⟩
        have c0 := (k1.cell (p := ⟨w.heap.size, 0, none⟩) (by simp) (fun h => h)).trans (show _ = some (Value.int .i64 k) by simp)
        have c1 := (k1.cell (p := ⟨w.heap.size, 1, none⟩) (by simp) (fun h => h)).trans (show _ = some (Value.int .i64 fl) by simp)
        have c2 := (k1.cell (p := ⟨w.heap.size, 2, none⟩) (by simp) (fun h => h)).trans (show _ = some (Value.int .i64 id) by simp)
        have c3 := (k1.cell (p := ⟨w.heap.size, 3, none⟩) (by simp) (fun h => h)).trans (show _ = some (Value.string b) by simp)
        have kw := (keeps_alloc w _).then k1
        clear k1 HR
        go_wp2_with fail
        refine Calls.mono (HP.out _) ?_
        rintro e w2 ⟨rfl, rfl⟩
        clear HP
        go_wp2_with fail
        refine Calls.mono (HZ.out _) ?_
        rintro e w2 ⟨rfl, k2⟩
        go_wp2
        go_ret2
        exact ⟨rfl, kw.then k2⟩
      | true =>
        rw [hz] at HZ
        have HS : Hid (∀ w, Calls Try.prog 50 #[frval f] w fun e w' => e = .returned (stripV (stripA f.kind (padB f.flags) (weighB f.flags) f.body)) ∧ Keeps nobody w w') := fun w => strip_ok f w hs
        have e : checkA f = (codeOf (stripE f), stripE f) := by rw [checkA, if_neg (fun h => h hr), if_neg (by simp [hp]), if_neg (by simp [hz])]
        rw [e]
        have h3 := stripE_cases f
        unfold stripE at h3 ⊢
        clear e hr hp hz
        obtain ⟨k, fl, id, b⟩ := f
        simp only at h3 ⊢
        generalize stripA k (padB fl) (weighB fl) b = S at *
        obtain ⟨S, m, e⟩ := S
        simp only at h3 ⊢
        rcases h3 with rfl | rfl | rfl
        all_goals
          go_enter Try.func48, Try.ntmps48
          go_wp2_with fail
          refine Calls.mono (HR.out _) ?_
          rintro e w1 ⟨rfl, k1⟩
          have c0 := (k1.cell (p := ⟨w.heap.size, 0, none⟩) (by simp) (fun h => h)).trans (show _ = some (Value.int .i64 k) by simp)
          have c1 := (k1.cell (p := ⟨w.heap.size, 1, none⟩) (by simp) (fun h => h)).trans (show _ = some (Value.int .i64 fl) by simp)
          have c2 := (k1.cell (p := ⟨w.heap.size, 2, none⟩) (by simp) (fun h => h)).trans (show _ = some (Value.int .i64 id) by simp)
          have c3 := (k1.cell (p := ⟨w.heap.size, 3, none⟩) (by simp) (fun h => h)).trans (show _ = some (Value.string b) by simp)
          have hlt : w.heap.size < w1.heap.size := Nat.lt_of_lt_of_le (by simp) k1.size
          have kw := (keeps_alloc w _).then k1
          clear k1 HR
          go_wp2_with fail
          refine Calls.mono (HP.out _) ?_
          rintro e w2 ⟨rfl, rfl⟩
          clear HP
          go_wp2_with fail
          refine Calls.mono (HZ.out _) ?_
          rintro e w2 ⟨rfl, k2⟩
          have d0 := (k2.cell (p := ⟨w.heap.size, 0, none⟩) hlt (fun h => h)).trans c0
          have d1 := (k2.cell (p := ⟨w.heap.size, 1, none⟩) hlt (fun h => h)).trans c1
          have d2 := (k2.cell (p := ⟨w.heap.size, 2, none⟩) hlt (fun h => h)).trans c2
          have d3 := (k2.cell (p := ⟨w.heap.size, 3, none⟩) hlt (fun h => h)).trans c3
          have kv := kw.then k2
          clear c0 c1 c2 c3 k2 kw HZ hlt
          go_wp2_with fail
          refine Calls.mono (HS.out _) ?_
          rintro e w3 ⟨rfl, k3⟩
          go_wp2
          go_ret2
          exact ⟨rfl, kv.then k3⟩
  · rw [decide_eq_false hr] at HR
    have e : checkA f = (1, 1) := by rw [checkA, if_pos hr]
    rw [e]
    clear e hr
    obtain ⟨k, fl, id, b⟩ := f
    go_enter Try.func48, Try.ntmps48
    go_wp2_with fail
    refine Calls.mono (HR.out _) ?_
    rintro e w1 ⟨rfl, k1⟩
    go_wp2
    go_ret2
    exact ⟨rfl, (keeps_alloc w _).then k1⟩

def ping7 : Frm := ⟨6, 0, 0, ⟨#[49, 50, 51, 52, 53, 54, 55]⟩⟩
theorem ping7_check : checkA ping7 = (6, 5) := by decide +kernel
theorem data0_check : checkA ⟨0, 0, 0, ⟨#[]⟩⟩ = (1, 11) := by decide +kernel

end Go.Proofs.Ytdpbnlamdgdljaa
