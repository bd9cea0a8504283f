/-
  The reference's table in memory; its small functions.
-/
import Derived.Test.YtlfkomdkimphnaaDoorTSame
import Derived.Test.YtlfkomdkimphnaaDoorTRes
import Derived.Deep.DeepCutAuto
import Derived.Deep.RegionHeld3
namespace Go.Proofs.YtlfkomdkimphnaaDoor
open Go.RowKit

/-- The reference's table in memory. -/
structure RTab (w : World) (g : Nat) (v : Value) (size : Nat) (l : List Fld) : Prop where
  blk : w.heap[g]? = some (.cells #[.int .i64 (size : Int), v] 37 (0, 0))
  row : w.ownsRow 0 28 2 v l.length (fcells l)
  fits : sum l ≤ 512
  most : size ≤ 512
section
variable {w w' : World} {g : Nat} {v v' : Value} {size : Nat} {l l' : List Fld}
theorem RTab.lt (h : RTab w g v size l) : g < w.heap.size := (Array.getElem?_eq_some_iff.1 h.blk).1
theorem RTab.rowlt (h : RTab w g v size l) : ∀ k, v.ownBlock = some k → k < w.heap.size := fun k hk => (h.row.lt k hk).2
theorem RTab.footlt (h : RTab w g v size l) : ∀ k, tfoot g v k → k < w.heap.size := by
  rintro k (rfl | hk)
  · exact h.lt
  · exact h.rowlt k hk
theorem RTab.cells (h : RTab w g v size l) : w.cell? ⟨g, 0, none⟩ = some (.int .i64 (size : Int)) ∧ w.cell? ⟨g, 1, none⟩ = some v ∧ ∀ o, w.frozen? ⟨g, o, none⟩ = false := by
  refine ⟨?_, ?_, fun o => ?_⟩ <;> simp [World.cell?, World.frozen?, h.blk]
theorem RTab.apart (h : RTab w g v size l) : v.ownBlock ≠ some g := by
  intro e
  rcases h.row.2 with ⟨rfl, _⟩ | ⟨rb, cap, cur, rfl, _, hg, _⟩
  · simp [Value.ownBlock] at e
  · simp [Value.ownBlock] at e
    subst e
    rw [h.blk] at hg
    simp at hg
theorem RTab.keeps {S : Nat → Prop} (h : RTab w g v size l) (hk : Keeps S w w') (hS : ∀ k, tfoot g v k → ¬ S k) : RTab w' g v size l :=
  ⟨by rw [hk.block g h.lt (hS g (.inl rfl))]; exact h.blk, hk.row h.row fun k e => hS k (.inr e), h.fits, h.most⟩
theorem RTab.quiet (h : RTab w g v size l) (hk : Keeps nobody w w') : RTab w' g v size l := h.keeps hk fun _ _ => id
theorem RTab.length (h : RTab w g v size l) : l.length ≤ 16 := by
  have := sum_length l; have := h.fits; omega
theorem RTab.relay (h : RTab w g v size l) (hg : w.grownBy w' v.ownBlock) (hr : w'.ownsRow 0 28 2 v' l'.length (fcells l')) (hf : sum l' ≤ 512) (hn : ∀ k, v'.ownBlock = some k → v.ownBlock = some k ∨ w.heap.size ≤ k) :
    RTab (w'.setCell ⟨g, 1, none⟩ v') g v' size l' := by
  have hb : w'.heap[g]? = some (.cells #[.int .i64 (size : Int), v] 37 (0, 0)) := by
    rw [hg.block g h.lt fun e => h.apart e.symm]; exact h.blk
  refine ⟨?_, ?_, hf, h.most⟩
  · simp [World.setCell, hb, Array.getElem?_modify]
  · refine ⟨hr.1, ?_⟩
    rcases hr.2 with hn' | ⟨rb, cap, cur, rfl, h1, h2, h3⟩
    · exact .inl hn'
    · refine .inr ⟨rb, cap, cur, rfl, h1, ?_, h3⟩
      rw [Below.heap_setCell _ _ _ _ ?_]
      · exact h2
      · intro e
        simp only at e
        subst e
        rcases hn rb rfl with hx | hx
        · exact h.apart hx
        · have := h.lt; omega
theorem RTab.resize (h : RTab w g v size l) (n : Nat) (hn : n ≤ 512) : RTab (w.setCell ⟨g, 0, none⟩ (.int .i64 (n : Int))) g v n l := by
  refine ⟨?_, ?_, h.fits, hn⟩
  · simp [World.setCell, h.blk, Array.getElem?_modify]
  · refine ⟨h.row.1, ?_⟩
    rcases h.row.2 with hn' | ⟨rb, cap, cur, rfl, h1, h2, h3⟩
    · exact .inl hn'
    · refine .inr ⟨rb, cap, cur, rfl, h1, ?_, h3⟩
      rw [Below.heap_setCell _ _ _ _ ?_]
      · exact h2
      · intro e
        simp only at e
        subst e
        exact h.apart rfl
end
/-- What was done to it. -/
def RActed (g : Nat) (v : Value) (size : Nat) (l : List Fld) (w w' : World) : Prop := ∃ v', RTab w' g v' size l ∧ Keeps (tfoot g v) w w' ∧ ∀ k, tfoot g v' k → tfoot g v k ∨ w.heap.size ≤ k

theorem rcost_ok (f : Fld) (w : World) (h : f.1.size + f.2.size ≤ 2000) : Calls Tryd.prog 26 #[fval f] w fun e w' => e = .returned (.int .i64 (cost f : Int)) ∧ w' = w.alloc (.cells #[.string f.1, .string f.2] 28) := by
  obtain ⟨a, b⟩ := f
  simp only at h
  have h1 : a.size ≤ 2000 := by omega
  have h2 : b.size ≤ 2000 := by omega
  unfold fval cost
  simp only
  go_enter Tryd.func26, Tryd.ntmps26
  go_wp2
  go_ret
  exact ⟨by simp, rfl⟩

set_option maxRecDepth 100000 in
set_option maxHeartbeats 1000000 in
theorem rsum_ok {w : World} {base : Nat} {v : Value} {l : List Fld} (h : w.ownsRow base 28 2 v l.length (fcells l)) (hs : sum l ≤ 2000) : Calls Tryd.prog 23 #[v] w fun e w' => e = .returned (.int .i64 (sum l : Int)) ∧ Keeps nobody w w' := by
  have hln := sum_length l
  by_cases h0 : l.length = 0
  · obtain rfl : l = [] := List.eq_nil_of_length_eq_zero h0
    obtain ⟨a1, c1, rfl⟩ : ∃ a c, v = .slice a 0 c := by
      rcases h.2 with ⟨rfl, _⟩ | ⟨rb, cap, cur, rfl, _⟩ <;> exact ⟨_, _, rfl⟩
    clear h
    simp only [sum]
    go_enter Tryd.func23, Tryd.ntmps23
    go_wp2
    go_loopg [3, 4] 0 (fun k s i wr => i = .int .i64 0 ∧ s = .int .i64 0 ∧ wr = w)
    case atStart => exact ⟨rfl, rfl, rfl⟩
    case round =>
      obtain ⟨rfl, rfl, rfl⟩ := hrel
      go_wp2
      go_ret
      exact ⟨rfl, Keeps.refl _ _⟩
  · rcases h.2 with ⟨_, hn⟩ | ⟨rb, cap, cur, rfl, _, _, hnc, hcm, _⟩
    · exact absurd hn h0
    have hrb := (h.lt rb rfl).2
    have HR := hid h
    clear h
    unfold maxLen at hcm
    go_enter Tryd.func23, Tryd.ntmps23
    go_wp2
    go_loopg [3, 4] l.length (fun k s i wr => ∃ j : Nat, i = .int .i64 j ∧ s = .int .i64 (sum (l.take j) : Int) ∧ k + j = l.length ∧ Keeps nobody w wr)
    case atStart => exact ⟨0, rfl, by simp [sum], rfl, Keeps.refl _ _⟩
    case round =>
      obtain ⟨j, rfl, rfl, hk, hK⟩ := hrel
      by_cases hj : j < l.length
      · obtain ⟨c0, c1⟩ := row_cells HR.out j hj
        rw [← hK.cell (p := ⟨rb, j * 2, none⟩) hrb id] at c0
        rw [← hK.cell (p := ⟨rb, j * 2 + 1, none⟩) hrb id] at c1
        have hs' : sum (l.take (j + 1)) = sum (l.take j) + cost (l[j]'hj) := by
          rw [List.take_succ_eq_append_getElem hj, sum_append]; simp [sum]
        have hle := sum_take l (j + 1)
        have hcl := cost_mem l j hj
        generalize l[j]'hj = f at *
        have hC : Hid (∀ w, Calls Tryd.prog 26 #[fval f] w fun e w' => e = .returned (.int .i64 (cost f : Int)) ∧ w' = w.alloc (.cells #[.string f.1, .string f.2] 28)) := fun w => rcost_ok f w (by unfold cost at hcl; omega)
        have HS : Hid (sum (l.take (j + 1)) = sum (l.take j) + cost f ∧ gk + j = l.length) := ⟨hs', hk⟩
        rw [hs'] at hle
        clear hs' hk
        generalize cost f = c at *
        generalize sum (l.take j) = s at *
        go_wp2_with fail
        refine Calls.mono (hC.out _) ?_
        rintro e w1 ⟨rfl, rfl⟩
        go_wp2
        obtain ⟨e1, e2⟩ := HS.out
        go_roundg (gk - 1)
        case measure => omega
        case rel => exact ⟨j + 1, by simp, by rw [e1]; simp, by omega, hK.alloc _⟩
      · have : l.take j = l := List.take_of_length_le (by omega)
        rw [this]
        clear this
        go_wp2
        go_ret
        exact ⟨rfl, hK⟩

set_option maxRecDepth 100000 in
theorem fixed_ok (w : World) : Calls Tryd.prog 34 #[] w fun e w' => ∃ v, e = .returned v ∧ w'.ownsRow w.heap.size 28 2 v 16 (fcells always) ∧ Keeps nobody w w' := by
  go_enter Tryd.func34, Tryd.ntmps34
  go_wp2
  go_ret
  refine ⟨_, rfl, ?_, keeps_alloc w _⟩
  exact World.ownsRow_lit (base := w.heap.size) (e := 28) (size := 2) w _ 16 (Nat.le_refl _) (by unfold maxLen; omega) rfl
end Go.Proofs.YtlfkomdkimphnaaDoor
