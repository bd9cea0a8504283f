/-
  The statements' first call: alive. A table of the statement's own.
-/
import Derived.Test.YtlfkomdkimphnaaDoorTFind
namespace Go.Proofs.YtlfkomdkimphnaaDoor
open Go.RowKit

/-- The walk's end: true, and no old memory is turned. -/
abbrev Fine (w : World) (e : Ending) (w' : World) : Prop := e = .returned (.bool true) ∧ Below w.heap.size w w'

theorem new_tab (n : Nat) (w : World) (h : n ≤ 512) : Tab (w.alloc (.cells #[.bool true, .int .i64 (n : Int), .slice none 0 0] 61)) w.heap.size (.slice none 0 0) n [] :=
  ⟨heap_alloc_new w _, World.ownsRow_nil _ _ _ _, by simp [sum], h⟩

/-- A table that lies in new memory: nothing that was there in W has turned. -/
structure Good (W w : World) (g : Nat) (v : Value) (size : Nat) (l : List Fld) : Prop where
  below : Below W.heap.size W w
  tab : Tab w g v size l
  new : ∀ k, tfoot g v k → W.heap.size ≤ k
theorem Good.acted {W w w' : World} {g : Nat} {v : Value} {size size' : Nat} {l l' : List Fld} (h : Good W w g v size l) (ha : Acted g v size' l' w w') : ∃ v', Good W w' g v' size' l' := by
  obtain ⟨v', t, k, f⟩ := ha
  refine ⟨v', k.below h.below h.new h.below.size, t, fun n hn => ?_⟩
  rcases f n hn with h1 | h1
  · exact h.new n h1
  · exact Nat.le_trans h.below.size h1
theorem Good.quiet {W w w' : World} {g : Nat} {v : Value} {size : Nat} {l : List Fld} (h : Good W w g v size l) (hk : Keeps nobody w w') : Good W w' g v size l :=
  ⟨hk.below h.below (fun _ h => h.elim) h.below.size, h.tab.quiet hk, h.new⟩
theorem good_new {W w : World} (hB : Below W.heap.size W w) (n : Nat) (h : n ≤ 512) : Good W (w.alloc (.cells #[.bool true, .int .i64 (n : Int), .slice none 0 0] 61)) w.heap.size (.slice none 0 0) n [] :=
  ⟨hB.alloc hB.size _, new_tab n w h, by
    rintro k (rfl | hk)
    · exact hB.size
    · simp [Value.ownBlock] at hk⟩
theorem Good.env {W w : World} {g : Nat} {v : Value} {size : Nat} {l : List Fld} (h : Good W w g v size l) (hE : Env W) : Env w := hE.below h.below hE.1

/-- The calls, at a table of the statement's own. -/
theorem g_new {W w : World} (hB : Below W.heap.size W w) (n : Nat) (hn : n ≤ 512) : Calls Tryd.prog 10 #[.int .i64 (n : Int)] w fun e w' => ∃ g v, e = .returned (.pointer (some ⟨g, 0, none⟩)) ∧ Good W w' g v n [] ∧ Keeps nobody w w' ∧ ∀ k, tfoot g v k → w.heap.size ≤ k := by
  refine (new_ok n w hn).mono ?_
  rintro _ w' ⟨he, rfl⟩
  refine ⟨w.heap.size, .slice none 0 0, he, good_new hB n hn, keeps_alloc w _, ?_⟩
  rintro k (rfl | hk)
  · exact Nat.le_refl _
  · simp [Value.ownBlock] at hk
theorem g_add {W w : World} {g : Nat} {v : Value} {size : Nat} {l : List Fld} (h : Good W w g v size l) (f : Fld) (hf : f.1.size + f.2.size ≤ 2000) : Calls Tryd.prog 11 #[.pointer (some ⟨g, 0, none⟩), fval f] w fun e w' => e = .returned (.tuple #[]) ∧ ∃ v', Good W w' g v' size (addL size f l) ∧ Keeps (tfoot g v) w w' ∧ ∀ k, tfoot g v' k → tfoot g v k ∨ w.heap.size ≤ k := by
  refine (add_ok h.tab f hf).mono ?_
  rintro _ w' ⟨he, v', t, k, fo⟩
  refine ⟨he, v', ⟨k.below h.below h.new h.below.size, t, fun n hn => ?_⟩, k, fo⟩
  rcases fo n hn with h1 | h1
  · exact h.new n h1
  · exact Nat.le_trans h.below.size h1
theorem g_at {W w : World} {g : Nat} {v : Value} {size : Nat} {l : List Fld} (hE : Env W) (h : Good W w g v size l) (i : Int) (hi : i ≤ 9223372036854775807) : Calls Tryd.prog 12 #[.pointer (some ⟨g, 0, none⟩), .int .i64 i] w fun e w' => e = .returned (atV (atL l i)) ∧ Good W w' g v size l ∧ Keeps nobody w w' :=
  (at_ok (h.env hE) h.tab i hi).mono fun _ _ ⟨he, ha⟩ => ⟨he, h.quiet ha, ha⟩
theorem g_find {W w : World} {g : Nat} {v : Value} {size : Nat} {l : List Fld} (hE : Env W) (h : Good W w g v size l) (f : Fld) : Calls Tryd.prog 20 #[.pointer (some ⟨g, 0, none⟩), fval f] w fun e w' => e = .returned (.tuple #[.int .i64 ((find l f).1 : Int), .bool (find l f).2]) ∧ Good W w' g v size l ∧ Keeps nobody w w' :=
  (find_ok (h.env hE) h.tab f).mono fun _ _ ⟨he, ha⟩ => ⟨he, h.quiet ha, ha⟩
theorem g_used {W w : World} {g : Nat} {v : Value} {size : Nat} {l : List Fld} (h : Good W w g v size l) : Calls Tryd.prog 15 #[.pointer (some ⟨g, 0, none⟩)] w fun e w' => e = .returned (.int .i64 (sum l : Int)) ∧ Good W w' g v size l ∧ Keeps nobody w w' :=
  (used_ok h.tab).mono fun _ _ ⟨he, ha⟩ => ⟨he, h.quiet ha, ha⟩
theorem g_size {W w : World} {g : Nat} {v : Value} {size : Nat} {l : List Fld} (h : Good W w g v size l) : Calls Tryd.prog 14 #[.pointer (some ⟨g, 0, none⟩)] w fun e w' => e = .returned (.int .i64 (size : Int)) ∧ w = w' := size_ok h.tab
theorem g_all {W w : World} {g : Nat} {v : Value} {size : Nat} {l : List Fld} (h : Good W w g v size l) : Calls Tryd.prog 16 #[.pointer (some ⟨g, 0, none⟩)] w fun e w' => ∃ a c, e = .returned (.slice a l.length c) ∧ w'.ownsRow w.heap.size 28 2 (.slice a l.length c) l.length (fcells l) ∧ Good W w' g v size l ∧ Keeps nobody w w' := by
  refine (all_ok h.tab).mono ?_
  rintro _ w' ⟨v', he, hr, ha⟩
  rcases hr.2 with ⟨rfl, hn⟩ | ⟨rb, cap, cur, rfl, _⟩
  · exact ⟨none, 0, by rw [he, hn], by rw [hn] at hr ⊢; exact hr, h.quiet ha, ha⟩
  · exact ⟨_, _, he, hr, h.quiet ha, ha⟩

theorem find_get : find [(⟨#[120]⟩, ⟨#[121]⟩)] (⟨#[58, 109, 101, 116, 104, 111, 100]⟩, ⟨#[71, 69, 84]⟩) = (2, true) := by decide +kernel
theorem at_17 : atL [(⟨#[120]⟩, ⟨#[121]⟩)] 17 = some (⟨#[120]⟩, ⟨#[121]⟩) := by decide +kernel
theorem add_xy : addL 100 (⟨#[120]⟩, ⟨#[121]⟩) [] = [(⟨#[120]⟩, ⟨#[121]⟩)] := by decide +kernel
theorem sum_xy : sum [(⟨#[120]⟩, ⟨#[121]⟩)] = 34 := by decide +kernel
theorem cost_xy : cost (⟨#[120]⟩, ⟨#[121]⟩) = 34 := by decide +kernel
/-- A box that was made, and what is behind it. -/
theorem boxed {w w' : World} {x y : Value} {t : TypeId} (h : Keeps nobody (w.alloc (.cells #[x, y] t)) w') : w'.cell? ⟨w.heap.size, 0, none⟩ = some x ∧ w'.cell? ⟨w.heap.size, 1, none⟩ = some y ∧ w.heap.size < w'.heap.size := by
  have hb : w'.heap[w.heap.size]? = some (.cells #[x, y] t (0, 0)) := by
    rw [h.block _ (by simp) id]; exact heap_alloc_new w _
  exact ⟨by simp [World.cell?, hb], by simp [World.cell?, hb], (Array.getElem?_eq_some_iff.1 hb).1⟩

set_option maxRecDepth 100000 in
set_option maxHeartbeats 2000000 in
theorem alive_true (w : World) (hE : Env w) : Calls Tryd.prog 9 #[] w (Fine w) := by
  have HE := hid hE
  clear hE
  go_enter Tryd.func9, Tryd.ntmps9
  go_wp2_with fail
  refine Calls.mono (g_new (Below.refl w.heap.size w) 100 (by omega)) ?_
  rintro e w1 ⟨g, v1, rfl, G1, _, _⟩
  go_wp2_with fail
  refine Calls.mono (g_add G1 (⟨#[120]⟩, ⟨#[121]⟩) (by decide)) ?_
  rintro e w2 ⟨rfl, v2, G2, _, _⟩
  rw [add_xy] at G2
  go_wp2_with fail
  refine Calls.mono (g_at HE.out G2 17 (by omega)) ?_
  rintro e w3 ⟨rfl, G3, _⟩
  rw [at_17]
  unfold atV
  go_wp2_with fail
  have G3' := G3.quiet (keeps_alloc w3 (.cells #[.string ⟨#[120]⟩, .string ⟨#[121]⟩] 28))
  refine Calls.mono (g_find HE.out G3' (⟨#[58, 109, 101, 116, 104, 111, 100]⟩, ⟨#[71, 69, 84]⟩)) ?_
  rintro e w4 ⟨rfl, G4, K4⟩
  rw [find_get]
  obtain ⟨b0, b1, b2⟩ := boxed K4
  go_wp2_with fail
  refine Calls.mono (g_used G4) ?_
  rintro e w5 ⟨rfl, G5, K5⟩
  rw [sum_xy]
  clear b0 b1 b2
  obtain ⟨b0, b1, b2⟩ := boxed (K4.then K5)
  go_wp2_with fail
  refine Calls.mono (g_size G5) ?_
  rintro e w6 ⟨rfl, rfl⟩
  go_wp2_with fail
  refine Calls.mono (cost_ok (⟨#[120]⟩, ⟨#[121]⟩) _ (by decide)) ?_
  rintro e w6 ⟨rfl, rfl⟩
  rw [cost_xy]
  have hB := (G5.quiet (keeps_alloc w5 (.cells #[.string ⟨#[120]⟩, .string ⟨#[121]⟩] 28))).below
  clear G1 G2 G3 G3' G4 G5
  go_wp2
  go_ret
  exact ⟨rfl, hB⟩
end Go.Proofs.YtlfkomdkimphnaaDoor
