/-
  Package ids: an Ids in memory; right, New, made, Left, Next, Kind.
-/
import Derived.Test.YtpjmiiihninhnaaASpec
import Derived.Test.YtpjmiiihninhnaaGRec
namespace Go.Proofs.Ytpjmiiihninhnaa
open Go.RowKit

def idC (x : Idd) : Array Value := #[.int .i64 x.first, .int .i64 x.last]
/-- An Ids as a thing. -/
abbrev idT (g : Nat) (x : Idd) : Thing := recT g (idC x) 36
/-- An Ids lies there. -/
def Il (w : World) (g : Nat) (x : Idd) : Prop := w.heap[g]? = some (.cells (idC x) 36 (0, 0))
theorem rec_set {w : World} {g : Nat} {cs : Array Value} {T : TypeId} (h : w.heap[g]? = some (.cells cs T (0, 0))) (i : Nat) (u : Value) : Did (recT g cs T) (recT g (cs.setIfInBounds i u) T) w (w.setCell ⟨g, i, none⟩ u) := by
  refine ⟨recT_ok, ?_, (Keeps.refl (fun k => k = g) w).setCell (p := ⟨g, i, none⟩) (.inl rfl) u, fun _ e => .inl e⟩
  show (w.setCell ⟨g, i, none⟩ u).heap[g]? = _
  simp [World.setCell, h, Array.getElem?_modify]
theorem did_rec {w : World} {g : Nat} {cs : Array Value} {T : TypeId} (h : w.heap[g]? = some (.cells cs T (0, 0))) : Did (recT g cs T) (recT g cs T) w w := Did.same recT_ok h
theorem Il.cells {w : World} {g : Nat} {x : Idd} (H : Il w g x) : w.cell? ⟨g, 0, none⟩ = some (.int .i64 x.first) ∧ w.cell? ⟨g, 1, none⟩ = some (.int .i64 x.last) ∧ ∀ n, w.frozen? ⟨g, n, none⟩ = false := by
  unfold Il idC at H
  refine ⟨?_, ?_, fun n => ?_⟩ <;> simp [World.cell?, World.frozen?, H]

theorem right_ok (x : Int) (w : World) : Calls Try.prog 13 #[.int .i64 x] w fun e w' => e = .returned (.bool (rightB x)) ∧ w = w' := by
  by_cases h1 : 1 ≤ x
  · by_cases h2 : x ≤ 2147483647
    · have hr := rem_two (show 0 ≤ x by omega)
      by_cases h3 : x % 2 = 1
      · have e : rightB x = true := (right_iff x).2 ⟨h1, h2, h3⟩
        rw [e]
        rw [h3] at hr
        clear h3 e
        go_enter Try.func13, Try.ntmps13
        go_wp2
        go_ret
        exact ⟨rfl, rfl⟩
      · have e : rightB x = false := (right_off x).2 fun h => h3 h.2.2
        rw [e]
        rw [show x % 2 = 0 by omega] at hr
        clear h3 e
        go_enter Try.func13, Try.ntmps13
        go_wp2
        go_ret
        exact ⟨rfl, rfl⟩
    · have e : rightB x = false := (right_off x).2 fun h => h2 h.2.1
      rw [e]
      clear e
      go_enter Try.func13, Try.ntmps13
      go_wp2
      go_ret
      exact ⟨rfl, rfl⟩
  · have e : rightB x = false := (right_off x).2 fun h => h1 h.1
    rw [e]
    clear e
    go_enter Try.func13, Try.ntmps13
    go_wp2
    go_ret
    exact ⟨rfl, rfl⟩
theorem new_no (x : Int) (w : World) (h : rightB x = false) : Calls Try.prog 7 #[.int .i64 x] w fun e w' => e = .returned (.pointer none) ∧ w = w' := by
  have HR : Hid (∀ W, Calls Try.prog 13 #[.int .i64 x] W fun e w' => e = .returned (.bool false) ∧ W = w') := by
    rw [← h]; exact right_ok x
  clear h
  go_enter Try.func7, Try.ntmps7
  go_wp2_with fail
  refine Calls.mono (HR.out _) ?_
  rintro e w1 ⟨rfl, rfl⟩
  go_wp2
  go_ret
  exact ⟨rfl, rfl⟩
theorem new_ok (x : Int) (w : World) (h : rightB x = true) : Calls Try.prog 7 #[.int .i64 x] w fun e w' => e = .returned (.pointer (some ⟨w.heap.size, 0, none⟩)) ∧ Keeps nobody w w' ∧ Il w' w.heap.size (newI x) := by
  have HR : Hid (∀ W, Calls Try.prog 13 #[.int .i64 x] W fun e w' => e = .returned (.bool true) ∧ W = w') := by
    rw [← h]; exact right_ok x
  obtain ⟨h1, h2, _⟩ := (right_iff x).1 h
  clear h
  go_enter Try.func7, Try.ntmps7
  go_wp2_with fail
  refine Calls.mono (HR.out _) ?_
  rintro e w1 ⟨rfl, rfl⟩
  go_wp2
  go_ret
  exact ⟨rfl, keeps_alloc _ _, heap_alloc_new w _⟩
theorem made_nil (w : World) : Calls Try.prog 14 #[.pointer none] w fun e w' => e = .returned (.bool false) ∧ w = w' := by
  go_enter Try.func14, Try.ntmps14
  go_wp2
  go_ret
  exact ⟨rfl, rfl⟩
theorem made_ok {w : World} {g : Nat} {x : Idd} (H : Il w g x) (h1 : 1 ≤ x.first) : Calls Try.prog 14 #[.pointer (some ⟨g, 0, none⟩)] w fun e w' => e = .returned (.bool true) ∧ w = w' := by
  obtain ⟨c0, _⟩ := H.cells
  have hm : (x.first != 0) = true := by simp; omega
  clear H
  go_enter Try.func14, Try.ntmps14
  go_wp2
  go_ret
  exact ⟨rfl, rfl⟩
theorem left_nil (w : World) : Calls Try.prog 9 #[.pointer none] w fun e w' => e = .returned (.bool false) ∧ w = w' := by
  have HM : Hid (∀ W, Calls Try.prog 14 #[.pointer none] W fun e w' => e = .returned (.bool false) ∧ W = w') := made_nil
  go_enter Try.func9, Try.ntmps9
  go_wp2_with fail
  refine Calls.mono (HM.out _) ?_
  rintro e w1 ⟨rfl, rfl⟩
  go_wp2
  go_ret
  exact ⟨rfl, rfl⟩
theorem left_ok {w : World} {g : Nat} {x : Idd} (H : Il w g x) (h1 : 1 ≤ x.first) : Calls Try.prog 9 #[.pointer (some ⟨g, 0, none⟩)] w fun e w' => e = .returned (.bool (leftI x)) ∧ w = w' := by
  have HM : Hid (Calls Try.prog 14 #[.pointer (some ⟨g, 0, none⟩)] w fun e w' => e = .returned (.bool true) ∧ w = w') := made_ok H h1
  obtain ⟨_, c1, _⟩ := H.cells
  obtain ⟨first, last⟩ := x
  simp only at c1 h1
  clear H
  show Calls _ _ _ _ fun e w' => e = .returned (.bool (decide (last ≤ 2147483645))) ∧ w = w'
  go_enter Try.func9, Try.ntmps9
  go_wp2_with fail
  refine Calls.mono HM.out ?_
  rintro e w1 ⟨rfl, rfl⟩
  go_wp2
  go_ret
  exact ⟨rfl, rfl⟩
theorem next_nil (w : World) : Calls Try.prog 8 #[.pointer none] w fun e w' => e = .returned (.tuple #[.int .i64 0, .bool false]) ∧ w = w' := by
  have HM : Hid (∀ W, Calls Try.prog 9 #[.pointer none] W fun e w' => e = .returned (.bool false) ∧ W = w') := left_nil
  go_enter Try.func8, Try.ntmps8
  go_wp2_with fail
  refine Calls.mono (HM.out _) ?_
  rintro e w1 ⟨rfl, rfl⟩
  go_wp2
  exact bodyPost_ret (v := .tuple #[.int .i64 0, .bool false]) (by simp [results, Try.results8, go_sem]) rfl ⟨rfl, rfl⟩
theorem next_ok {w : World} {g : Nat} {x : Idd} (H : Il w g x) (F : Fit x) : Calls Try.prog 8 #[.pointer (some ⟨g, 0, none⟩)] w fun e w' => e = .returned (.tuple #[.int .i64 (nextI x).2.1, .bool (nextI x).2.2]) ∧ Did (idT g x) (idT g (nextI x).1) w w' := by
  have HL : Hid (Calls Try.prog 9 #[.pointer (some ⟨g, 0, none⟩)] w fun e w' => e = .returned (.bool (leftI x)) ∧ w = w') := left_ok H F.first1
  obtain ⟨c0, c1, cf⟩ := H.cells
  have hD := did_rec (T := 36) H
  have hS := rec_set (T := 36) H 1 (.int .i64 (x.last + 2))
  obtain ⟨first, last⟩ := x
  obtain ⟨f1, f2, f3, f4, _⟩ := F
  simp only at c0 c1 f1 f2 f3 f4 hS
  clear H
  by_cases h : last ≤ 2147483645
  · have e : leftI ⟨first, last⟩ = true := by simp [leftI, h]
    have e2 : nextI ⟨first, last⟩ = (⟨first, last + 2⟩, last + 2, true) := by simp [nextI, h]
    rw [e] at HL
    rw [e2]
    have HS : Hid (Did (idT g ⟨first, last⟩) (idT g ⟨first, last + 2⟩) w (w.setCell ⟨g, 1, none⟩ (.int .i64 (last + 2)))) := hS
    clear hD hS e e2
    go_enter Try.func8, Try.ntmps8
    go_wp2_with fail
    refine Calls.mono HL.out ?_
    rintro e w1 ⟨rfl, rfl⟩
    go_wp2
    exact bodyPost_ret (v := .tuple #[.int .i64 (last + 2), .bool true]) (by simp [results, Try.results8, go_sem]) rfl ⟨rfl, HS.out⟩
  · have e : leftI ⟨first, last⟩ = false := by simp [leftI]; omega
    have e2 : nextI ⟨first, last⟩ = (⟨first, last⟩, 0, false) := by simp [nextI, h]
    rw [e] at HL
    rw [e2]
    have HS := hid hD
    clear hD hS e e2
    go_enter Try.func8, Try.ntmps8
    go_wp2_with fail
    refine Calls.mono HL.out ?_
    rintro e w1 ⟨rfl, rfl⟩
    go_wp2
    exact bodyPost_ret (v := .tuple #[.int .i64 0, .bool false]) (by simp [results, Try.results8, go_sem]) rfl ⟨rfl, HS.out⟩
theorem kind_nil (id : Int) (w : World) : Calls Try.prog 10 #[.pointer none, .int .i64 id] w fun e w' => e = .returned (.int .i64 0) ∧ w = w' := by
  have HM : Hid (∀ W, Calls Try.prog 14 #[.pointer none] W fun e w' => e = .returned (.bool false) ∧ W = w') := made_nil
  go_enter Try.func10, Try.ntmps10
  go_wp2_with fail
  refine Calls.mono (HM.out _) ?_
  rintro e w1 ⟨rfl, rfl⟩
  go_wp2
  go_ret
  exact ⟨rfl, rfl⟩
theorem kind_ok {w : World} {g : Nat} {x : Idd} (H : Il w g x) (h1 : 1 ≤ x.first) (id : Int) : Calls Try.prog 10 #[.pointer (some ⟨g, 0, none⟩), .int .i64 id] w fun e w' => e = .returned (.int .i64 (kindI x id)) ∧ w = w' := by
  have HM : Hid (Calls Try.prog 14 #[.pointer (some ⟨g, 0, none⟩)] w fun e w' => e = .returned (.bool true) ∧ w = w') := made_ok H h1
  have HR : Hid (∀ W, Calls Try.prog 13 #[.int .i64 id] W fun e w' => e = .returned (.bool (rightB id)) ∧ W = w') := right_ok id
  obtain ⟨c0, c1, cf⟩ := H.cells
  obtain ⟨first, last⟩ := x
  simp only at c0 c1 h1
  clear H
  cases hr : rightB id with
  | false =>
    have e : kindI ⟨first, last⟩ id = 0 := by simp [kindI, hr]
    rw [e]
    rw [hr] at HR
    clear e hr
    go_enter Try.func10, Try.ntmps10
    go_wp2_with fail
    refine Calls.mono HM.out ?_
    rintro e w1 ⟨rfl, rfl⟩
    go_wp2_with fail
    refine Calls.mono (HR.out _) ?_
    rintro e w1 ⟨rfl, rfl⟩
    go_wp2
    go_ret
    exact ⟨rfl, rfl⟩
  | true =>
    rw [hr] at HR
    by_cases h2 : first ≤ id
    · by_cases h3 : id ≤ last
      · have e : kindI ⟨first, last⟩ id = 1 := by simp [kindI, hr, h2, h3]
        rw [e]
        clear e hr
        go_enter Try.func10, Try.ntmps10
        go_wp2_with fail
        refine Calls.mono HM.out ?_
        rintro e w1 ⟨rfl, rfl⟩
        go_wp2_with fail
        refine Calls.mono (HR.out _) ?_
        rintro e w1 ⟨rfl, rfl⟩
        go_wp2
        go_ret
        exact ⟨rfl, rfl⟩
      · have e : kindI ⟨first, last⟩ id = 2 := by simp [kindI, hr, h3]
        rw [e]
        clear e hr
        go_enter Try.func10, Try.ntmps10
        go_wp2_with fail
        refine Calls.mono HM.out ?_
        rintro e w1 ⟨rfl, rfl⟩
        go_wp2_with fail
        refine Calls.mono (HR.out _) ?_
        rintro e w1 ⟨rfl, rfl⟩
        go_wp2
        go_ret
        exact ⟨rfl, rfl⟩
    · have e : kindI ⟨first, last⟩ id = 2 := by simp [kindI, hr, h2]
      rw [e]
      clear e hr
      go_enter Try.func10, Try.ntmps10
      go_wp2_with fail
      refine Calls.mono HM.out ?_
      rintro e w1 ⟨rfl, rfl⟩
      go_wp2_with fail
      refine Calls.mono (HR.out _) ?_
      rintro e w1 ⟨rfl, rfl⟩
      go_wp2
      go_ret
      exact ⟨rfl, rfl⟩
end Go.Proofs.Ytpjmiiihninhnaa
