/-
  Package table: Used.
-/
import Derived.Test.YtlfkomdkimphnaaDoorTSmall
namespace Go.Proofs.YtlfkomdkimphnaaDoor
open Go.RowKit

theorem row_cells {w : World} {base n cap rb : Nat} {l : List Fld} (h : w.ownsRow base 28 2 (.slice (some ⟨rb, 0, none⟩) n cap) l.length (fcells l)) (i : Nat) (hi : i < l.length) : w.cell? ⟨rb, i * 2, none⟩ = some (.string (l[i]'hi).1) ∧ w.cell? ⟨rb, i * 2 + 1, none⟩ = some (.string (l[i]'hi).2) := by
  have hg : l[i]? = some (l[i]'hi) := List.getElem?_eq_getElem hi
  have h0 := h.cells (g := rb) rfl (i * 2) _ (fcells_at0 l i _ hg)
  have h1 := h.cells (g := rb) rfl (i * 2 + 1) _ (fcells_at1 l i _ hg)
  rw [Addr.add_mid] at h0 h1
  simp only [Nat.zero_add] at h0 h1
  exact ⟨h0, h1⟩

theorem sum_take (l : List Fld) (k : Nat) : sum (l.take k) ≤ sum l := by
  have h := sum_append (l.take k) (l.drop k)
  rw [List.take_append_drop] at h
  omega
theorem cost_mem (l : List Fld) (j : Nat) (h : j < l.length) : cost (l[j]'h) ≤ sum l := sum_mem l _ (List.getElem_mem h)

set_option maxRecDepth 100000 in
set_option maxHeartbeats 1000000 in
theorem used_ok {w : World} {g : Nat} {v : Value} {size : Nat} {l : List Fld} (h : Tab w g v size l) : Calls Tryd.prog 15 #[.pointer (some ⟨g, 0, none⟩)] w fun e w' => e = .returned (.int .i64 (sum l : Int)) ∧ Keeps nobody w w' := by
  have hL : Hid (∀ w, Tab w g v size l → Calls Tryd.prog 31 #[.pointer (some ⟨g, 0, none⟩)] w fun e w' => e = .returned v ∧ w = w') := fun w h => list_ok h
  have hb := h.fits
  have hm := h.most
  have hlen := h.length
  have H : Hid (Tab w g v size l) := h
  rcases h.row.2 with ⟨rfl, hn⟩ | ⟨rb, cap, cur, rfl, _, _, hnc, hcm, _⟩
  · obtain rfl : l = [] := List.eq_nil_of_length_eq_zero hn
    clear h
    simp only [sum]
    go_enter Tryd.func15, Tryd.ntmps15
    go_wp2_with fail
    refine Calls.mono (hL.out _ H.out) ?_
    rintro e w1 ⟨rfl, rfl⟩
    go_wp2
    go_loopg [3, 9] 0 (fun k s i wr => i = .int .i64 0 ∧ s = .int .i64 0 ∧ wr = w)
    case atStart => exact ⟨rfl, rfl, rfl⟩
    case round =>
      obtain ⟨rfl, rfl, rfl⟩ := hrel
      go_wp2
      go_ret
      exact ⟨rfl, Keeps.refl _ _⟩
  · have HR : Hid (w.ownsRow 0 28 2 (.slice (some ⟨rb, 0, none⟩) l.length cap) l.length (fcells l)) := h.row
    have hrb := h.rowlt rb rfl
    clear h
    unfold maxLen at hcm
    go_enter Tryd.func15, Tryd.ntmps15
    go_wp2_with fail
    refine Calls.mono (hL.out _ H.out) ?_
    rintro e w1 ⟨rfl, rfl⟩
    go_wp2
    go_loopg [3, 9] l.length (fun k s i wr => ∃ j : Nat, i = .int .i64 j ∧ s = .int .i64 (sum (l.take j) : Int) ∧ k + j = l.length ∧ Keeps nobody w wr)
    case atStart => exact ⟨0, rfl, by simp [sum], rfl, Keeps.refl _ _⟩
    case round =>
      obtain ⟨j, rfl, rfl, hk, hK⟩ := hrel
      by_cases hj : j < l.length
      · obtain ⟨c0, c1⟩ := row_cells HR.out j hj
        rw [← hK.cell (p := ⟨rb, j * 2, none⟩) hrb id] at c0
        rw [← hK.cell (p := ⟨rb, j * 2 + 1, none⟩) hrb id] at c1
        have hs : sum (l.take (j + 1)) = sum (l.take j) + cost (l[j]'hj) := by
          rw [List.take_succ_eq_append_getElem hj, sum_append]; simp [sum]
        have hle := sum_take l (j + 1)
        have hcl := cost_mem l j hj
        generalize l[j]'hj = f at *
        have hC : Hid (∀ w, Calls Tryd.prog 25 #[fval f] w fun e w' => e = .returned (.int .i64 (cost f : Int)) ∧ w' = w.alloc (.cells #[.string f.1, .string f.2] 28)) := fun w => cost_ok f w (by unfold cost at hcl; omega)
        have HS : Hid (sum (l.take (j + 1)) = sum (l.take j) + cost f ∧ gk + j = l.length) := ⟨hs, hk⟩
        rw [hs] at hle
        clear hs hk
        generalize cost f = c at *
        generalize sum (l.take j) = s at *
        go_wp2_with fail
        refine Calls.mono (hC.out _) ?_
        rintro e w1 ⟨rfl, rfl⟩
        go_wp2
        obtain ⟨e1, e2⟩ := HS.out
        go_roundg (gk - 1)
        case measure => omega
        case rel => exact ⟨j + 1, by simp, by rw [e1]; simp, by omega, (hK.alloc _).alloc _⟩
      · have : l.take j = l := List.take_of_length_le (by omega)
        rw [this]
        clear this
        go_wp2
        go_ret
        exact ⟨rfl, hK⟩

set_option maxRecDepth 100000 in
theorem used_nil (w : World) : Calls Tryd.prog 15 #[.pointer none] w fun e w' => e = .returned (.int .i64 0) ∧ w = w' := by
  have hL : Hid (∀ w, Calls Tryd.prog 31 #[.pointer none] w fun e w' => e = .returned (.slice none 0 0) ∧ w = w') := list_nil
  go_enter Tryd.func15, Tryd.ntmps15
  go_wp2_with fail
  refine Calls.mono (hL.out _) ?_
  rintro e w1 ⟨rfl, rfl⟩
  go_wp2
  go_loopg [3, 9] 0 (fun k s i wr => i = .int .i64 0 ∧ s = .int .i64 0 ∧ wr = w)
  case atStart => exact ⟨rfl, rfl, rfl⟩
  case round =>
    obtain ⟨rfl, rfl, rfl⟩ := hrel
    go_wp2
    go_ret
    exact ⟨rfl, rfl⟩
end Go.Proofs.YtlfkomdkimphnaaDoor
