/-
  Package prefs: Mine; settings of one's own; alive.
-/
import Derived.Test.YtkjdklcmaomjnaaZPut
import Derived.Test.YtkjdklcmaomjnaaZGet
import Derived.Test.YtkjdklcmaomjnaaZApply
namespace Go.Proofs.Ytkjdklcmaomjnaa
open Go.RowKit
attribute [local irreducible] numL nums str sixes putP getP applyG

/-- Settings of a new block lie there. -/
theorem plies_new (w : World) (l : List Pf) (t : TypeId) (cs : Array Value) (h : cs.toList = pcells l) : PLies (w.alloc (.cells cs t)) (some ⟨w.heap.size, 0, none⟩) l (fun _ => False) := by
  refine .inr ⟨w.heap.size, 0, rfl, by simp, id, fun i f hi => ?_⟩
  have hn := heap_alloc_new w (.cells cs t)
  have h0 := pcells_at0 l i f hi
  have h1 := pcells_at1 l i f hi
  rw [← h] at h0 h1
  rw [Array.getElem?_toList] at h0 h1
  unfold World.cell?
  simp only [hn, Nat.zero_add]
  exact ⟨h0, h1⟩
def mineL (window : Int) : List Pf := [(2, 0), (4, window), (6, 600)]
theorem mine_in (window : Int) (h : 1 ≤ window ∧ window ≤ 65535) : allIn (mineL window) := by
  intro p hp
  simp [mineL] at hp
  rcases hp with rfl | rfl | rfl
  · decide
  · exact ⟨by simp, by simp; omega⟩
  · decide
set_option maxRecDepth 100000 in
theorem mine_ok (window : Int) (w : World) : Calls Try.prog 15 #[.int .i64 window] w fun e w' => e = .returned (.tuple #[.string (if 1 ≤ window ∧ window ≤ 65535 then putP (mineL window) else ⟨#[]⟩), .bool (decide (1 ≤ window ∧ window ≤ 65535))]) ∧ Keeps nobody w w' := by
  have HW : Hid (∀ n a b w, Calls Try.prog 27 #[.int .i64 n, .int .i64 a, .int .i64 b] w fun e w' => e = .returned (.bool (decide (a ≤ n ∧ n ≤ b))) ∧ w = w') := pwithin_ok
  by_cases h : 1 ≤ window ∧ window ≤ 65535
  · rw [if_pos h, decide_eq_true h]
    have HP : Hid (∀ w : World, Calls Try.prog 11 #[.slice (some ⟨w.heap.size, 0, none⟩) 3 3] (w.alloc (.cells #[.int .i64 2, .int .i64 0, .int .i64 4, .int .i64 window, .int .i64 6, .int .i64 600] 48)) fun e w' => e = .returned (.tuple #[.string (putP (mineL window)), .bool true]) ∧ Keeps nobody (w.alloc (.cells #[.int .i64 2, .int .i64 0, .int .i64 4, .int .i64 window, .int .i64 6, .int .i64 600] 48)) w') := fun w => by
      have := put_ok 3 (plies_new w (mineL window) 48 #[.int .i64 2, .int .i64 0, .int .i64 4, .int .i64 window, .int .i64 6, .int .i64 600] rfl) (by simp [mineL])
      rw [decide_eq_true (mine_in window h)] at this
      exact this
    have HD : Hid (decide (1 ≤ window ∧ window ≤ 65535) = true) := decide_eq_true h
    generalize putP (mineL window) = P at *
    clear h
    go_enter Try.func15, Try.ntmps15
    go_wp2_with fail
    refine Calls.mono (HW.out _ _ _ _) ?_
    rintro e w1 ⟨rfl, rfl⟩
    rw [HD.out]
    go_wp2_with fail
    refine Calls.mono (HP.out _) ?_
    rintro e w1 ⟨rfl, k1⟩
    go_wp2
    go_ret2
    exact ⟨rfl, (keeps_alloc _ _).then k1⟩
  · rw [if_neg h, decide_eq_false h]
    have HD : Hid (decide (1 ≤ window ∧ window ≤ 65535) = false) := decide_eq_false h
    clear h
    go_enter Try.func15, Try.ntmps15
    go_wp2_with fail
    refine Calls.mono (HW.out _ _ _ _) ?_
    rintro e w1 ⟨rfl, rfl⟩
    rw [HD.out]
    go_wp2
    go_ret2
    exact ⟨rfl, Keeps.refl _ _⟩
theorem mine_get (window : Int) (h : 1 ≤ window ∧ window ≤ 65535) : getP (putP (mineL window)) = mineL window := get_putP _ (mine_in window h)
theorem mine_size (window : Int) (h : 1 ≤ window ∧ window ≤ 65535) : (putP (mineL window)).size = 18 := by
  unfold putP
  rw [if_pos (mine_in window h), str_size, sixes_length]
  rfl
/-- Mine and Get, as one: what is read. -/
theorem pget_mine (window : Int) (h : 1 ≤ window ∧ window ≤ 65535) (w : World) : Calls Try.prog 13 #[.string (putP (mineL window))] w fun e w' => ∃ g c, e = .returned (.tuple #[.slice (some ⟨g, 0, none⟩) 3 c, .bool true]) ∧ Own w.heap.size w' (some ⟨g, 0, none⟩) c (mineL window) ∧ Keeps nobody w w' := by
  refine (pget_ok (putP (mineL window)) w (by rw [mine_size window h]; decide)).mono ?_
  rintro e w' ⟨x, c, rfl, h1, h2⟩
  rw [mine_get window h] at h1
  rw [mine_get window h, mine_size window h]
  rcases h1.2 with ⟨h3, _⟩ | ⟨g, cap, cur, h3, _⟩
  · simp [mineL] at h3
  · simp only [Value.slice.injEq] at h3
    obtain ⟨rfl, _, rfl⟩ := h3
    exact ⟨g, c, rfl, h1, h2⟩
theorem apply_new (s : Ps) (l : List Pf) (cs : Array Value) (h : cs.toList = pcells l) (n : Nat) (hn : l.length = n) (hl : n ≤ 1000000) (w : World) : Calls Try.prog 24 #[psval s, .slice (some ⟨w.heap.size, 0, none⟩) n n] (w.alloc (.cells cs 48)) fun e w' => e = .returned (applyV (applyG s s l)) ∧ Keeps nobody w w' := by
  subst hn
  refine (apply_ok l.length s (plies_new w l 48 cs h) hl).mono ?_
  rintro e w' ⟨rfl, k⟩
  exact ⟨rfl, (keeps_alloc _ _).then k⟩
abbrev firstV : Value := .agg #[.int .i64 128, .int .i64 6, .int .i64 100, .int .i64 64, .int .i64 600]
theorem first_lit (w : World) : Calls Try.prog 20 #[] w fun e w' => e = .returned (.agg #[.int .i64 128, .int .i64 6, .int .i64 100, .int .i64 64, .int .i64 600]) ∧ Keeps nobody w w' := pfirst_ok w
set_option maxRecDepth 100000 in
set_option maxHeartbeats 1000000 in
theorem alive_ok (w : World) : Calls Try.prog 9 #[] w fun e w' => e = .returned (.bool true) ∧ Keeps nobody w w' := by
  have HM : Hid (∀ w, Calls Try.prog 15 #[.int .i64 100] w fun e w' => e = .returned (.tuple #[.string (putP (mineL 100)), .bool true]) ∧ Keeps nobody w w') := fun w => mine_ok 100 w
  have HG := hid (pget_mine 100 (by decide))
  have HF := hid first_lit
  have hfd : ∀ w : World, (Instr.field 44 (.agg #[.int .i64 128, .int .i64 6, .int .i64 100, .int .i64 64, .int .i64 600]) 2).run Try.prog w = .ok (.int .i64 100) w := fun _ => by kernel_rfl
  have hsz := mine_size 100 (by decide)
  have HA : Hid (∀ w, Calls Try.prog 24 #[.agg #[.int .i64 128, .int .i64 6, .int .i64 100, .int .i64 64, .int .i64 600], .slice (some ⟨w.heap.size, 0, none⟩) 1 1] (w.alloc (.cells #[.int .i64 4, .int .i64 7] 48)) fun e w' => e = .returned (applyV (⟨128, 6, 7, 64, 600⟩, 0, 0)) ∧ Keeps nobody w w') := fun w => by
    have h1 : applyG firstP firstP [(4, 7)] = (⟨128, 6, 7, 64, 600⟩, 0, 0) := by simp [applyG_cons, applyG_nil, refE, withP, firstP]
    rw [← h1]
    exact apply_new firstP [(4, 7)] #[.int .i64 4, .int .i64 7] rfl 1 rfl (by decide) w
  generalize putP (mineL 100) = P at *
  go_enter Try.func9, Try.ntmps9
  go_wp2_with fail
  refine Calls.mono (HM.out _) ?_
  rintro e w1 ⟨rfl, k1⟩
  go_wp2_with fail
  refine Calls.mono (HG.out _) ?_
  rintro e w2 ⟨g, c, rfl, o2, k2⟩
  go_wp2_with fail
  refine Calls.mono (HF.out _) ?_
  rintro e w3 ⟨rfl, k3⟩
  go_wp2_with fail
  refine Calls.mono (HA.out _) ?_
  rintro e w4 ⟨rfl, k4⟩
  have hc := (prow_cells (n := 3) (cap := c) o2 1 (by simp [mineL])).2
  simp only [mineL, List.getElem_cons_succ, List.getElem_cons_zero] at hc
  have hlt := (o2.lt g rfl).2
  have hc4 : w4.cell? ⟨g, 3, none⟩ = some (.int .i64 100) := ((k3.then k4).cell (p := ⟨g, 3, none⟩) hlt id).trans hc
  have hlt4 : g < w4.heap.size := Nat.lt_of_lt_of_le hlt (k3.then k4).size
  have KK := hid (((k1.then k2).then k3).then k4)
  clear hc hlt o2 k1 k2 k3 k4
  go_wp2_with fail
  refine Calls.mono (HF.out _) ?_
  rintro e w5 ⟨rfl, k5⟩
  go_wp2
  go_ret
  exact ⟨rfl, (KK.out.alloc _).then k5⟩
end Go.Proofs.Ytkjdklcmaomjnaa
