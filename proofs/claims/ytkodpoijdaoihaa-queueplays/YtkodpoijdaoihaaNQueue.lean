/-
  Package queue: a queue in memory; Place, may, Put, Back, First, Cut, All, New.
-/
import Derived.Test.YtkodpoijdaoihaaNCode
import Derived.Test.YtkodpoijdaoihaaGThing
import Derived.BigQuiet
namespace Go.Proofs.Ytkodpoijdaoihaa
open Go.RowKit

def qfoot (g : Nat) (v : Value) : Nat → Prop := fun k => k = g ∨ v.ownBlock = some k
/-- A queue lies there: its ids in v. -/
structure Qu (w : World) (g : Nat) (v : Value) (most : Int) (l : List Int) : Prop where
  blk : w.heap[g]? = some (.cells #[.int .i64 most, v] 51 (0, 0))
  held : Hq w v l
  apart : v.ownBlock ≠ some g
  most1 : 1 ≤ most
/-- It, as a thing. -/
def quT (g : Nat) (v : Value) (most : Int) (l : List Int) : Thing := ⟨qfoot g v, fun w => Qu w g v most l⟩
section
variable {w w' : World} {g : Nat} {v : Value} {most : Int} {l : List Int}
theorem Qu.lt (h : Qu w g v most l) : g < w.heap.size := (Array.getElem?_eq_some_iff.1 h.blk).1
theorem Qu.cells (h : Qu w g v most l) : w.cell? ⟨g, 0, none⟩ = some (.int .i64 most) ∧ w.cell? ⟨g, 1, none⟩ = some v ∧ ∀ n, w.frozen? ⟨g, n, none⟩ = false := by
  refine ⟨?_, ?_, fun n => ?_⟩ <;> simp [World.cell?, World.frozen?, h.blk]
theorem Qu.keeps {S : Nat → Prop} (h : Qu w g v most l) (hk : Keeps S w w') (hS : ∀ k, qfoot g v k → ¬ S k) : Qu w' g v most l :=
  ⟨by rw [hk.block g h.lt (hS g (.inl rfl))]; exact h.blk, h.held.keeps hk fun k e => hS k (.inr e), h.apart, h.most1⟩
theorem quT_ok : (quT g v most l).Ok :=
  ⟨fun h hk hS => Qu.keeps h hk hS, fun {w} h k hk => by
    have h' : Qu w g v most l := h
    rcases hk with rfl | hk
    · exact h'.lt
    · exact h'.held.lt k hk⟩
theorem Qu.same (h : Qu w g v most l) : Did (quT g v most l) (quT g v most l) w w := Did.same quT_ok h
/-- The ids laid anew. -/
theorem Qu.relay {v' : Value} {l' : List Int} {w1 : World} (h : Qu w g v most l) (hl : Left v l' w v' w1) :
    w1.heap[g]? = some (.cells #[.int .i64 most, v] 51 (0, 0)) ∧ Did (quT g v most l) (quT g v' most l') w (w1.setCell ⟨g, 1, none⟩ v') := by
  obtain ⟨hv, hk, ho⟩ := hl
  have hb : w1.heap[g]? = some (.cells #[.int .i64 most, v] 51 (0, 0)) := (hk.block g h.lt h.apart).trans h.blk
  have hap : v'.ownBlock ≠ some g := fun e => by
    rcases ho g e with h1 | h1
    · exact h.apart h1
    · have := h.lt
      omega
  have k2 : Keeps (fun k => k = g) w1 (w1.setCell ⟨g, 1, none⟩ v') := (Keeps.refl (fun k => k = g) w1).setCell (p := ⟨g, 1, none⟩) (.inl rfl) _
  refine ⟨hb, quT_ok, ⟨?_, hv.keeps k2 fun k e hkg => hap (by rw [e, hkg]), hap, h.most1⟩, ?_, ?_⟩
  · simp [World.setCell, hb, Array.getElem?_modify]
  · exact (hk.mono fun _ _ e => Or.inr e).trans k2 fun k _ e => .inl e
  · rintro k (rfl | e)
    · exact .inl (.inl rfl)
    · rcases ho k e with h1 | h1
      · exact .inl (.inr h1)
      · exact .inr h1
theorem cells_back {w1 : World} (hb : w1.heap[g]? = some (.cells #[.int .i64 most, v] 51 (0, 0))) : w1.cell? ⟨g, 1, none⟩ = some v ∧ ∀ n, w1.frozen? ⟨g, n, none⟩ = false := by
  refine ⟨?_, fun n => ?_⟩ <;> simp [World.cell?, World.frozen?, hb]

theorem new_no (m : Int) (w : World) (h : m < 1) : Calls Try.prog 8 #[.int .i64 m] w fun e w' => e = .returned (.pointer none) ∧ w = w' := by
  go_enter Try.func8, Try.ntmps8
  go_wp2
  go_ret
  exact ⟨rfl, rfl⟩
theorem new_ok (m : Int) (w : World) (h1 : 1 ≤ m) : Calls Try.prog 8 #[.int .i64 m] w fun e w' => e = .returned (.pointer (some ⟨w.heap.size, 0, none⟩)) ∧ Keeps nobody w w' ∧ Qu w' w.heap.size (.slice none 0 0) m [] := by
  go_enter Try.func8, Try.ntmps8
  go_wp2
  go_ret
  exact ⟨rfl, keeps_alloc _ _, ⟨heap_alloc_new w _, .inl ⟨rfl, rfl⟩, by simp [Value.ownBlock], h1⟩⟩
theorem place_ok (h : Qu w g v most l) (id : Int) : Calls Try.prog 13 #[.pointer (some ⟨g, 0, none⟩), .int .i64 id] w fun e w' => e = .returned (.int .i64 (placeQ l id)) ∧ w = w' := by
  have HI : Hid (Calls Try.prog 21 #[v, .int .i64 id] w fun e w' => e = .returned (.int .i64 (placeQ l id)) ∧ w = w') := index_ok h.held id
  obtain ⟨_, h1, _⟩ := h.cells
  obtain ⟨a, c, rfl, _⟩ := h.held.slice
  clear h
  go_enter Try.func13, Try.ntmps13
  go_wp2_with fail
  refine Calls.mono HI.out ?_
  rintro e w1 ⟨rfl, rfl⟩
  go_wp2
  go_ret
  exact ⟨rfl, rfl⟩
theorem may_ok (h : Qu w g v most l) (id : Int) : Calls Try.prog 18 #[.pointer (some ⟨g, 0, none⟩), .int .i64 id] w fun e w' => e = .returned (.int .i64 (mayQ most l id)) ∧ Keeps nobody w w' := by
  have HP0 : Hid (Calls Try.prog 13 #[.pointer (some ⟨g, 0, none⟩), .int .i64 id] w fun e w' => e = .returned (.int .i64 (placeQ l id)) ∧ w = w') := place_ok h id
  obtain ⟨h0, h1, _⟩ := h.cells
  obtain ⟨a, c, rfl, _⟩ := h.held.slice
  have hm1 := h.most1
  have hm : (most == 0) = false := by simp; omega
  have hlt := h.lt
  clear h
  by_cases hi : id ∈ l
  · obtain ⟨i, e1, _⟩ := place_in hi
    rw [may_in hi]
    rw [e1] at HP0
    clear hi e1
    go_enter Try.func18, Try.ntmps18
    go_wp2_with fail
    refine Calls.mono HP0.out ?_
    rintro e w1 ⟨rfl, rfl⟩
    go_wp2
    go_ret
    exact ⟨rfl, Keeps.refl _ _⟩
  · have e1 := place_out hi
    rw [e1] at HP0
    by_cases hf : most ≤ (l.length : Int)
    · rw [may_full hi hf]
      clear hi e1
      generalize l.length = n at *
      go_enter Try.func18, Try.ntmps18
      go_wp2_with fail
      refine Calls.mono HP0.out ?_
      rintro e w1 ⟨rfl, rfl⟩
      go_wp2_with fail
      go_quiet (fail)
      go_wp2
      go_ret
      exact ⟨rfl, (Keeps.refl _ _).drewN _⟩
    · rw [may_yes hi (by omega)]
      clear hi e1
      generalize l.length = n at *
      go_enter Try.func18, Try.ntmps18
      go_wp2_with fail
      refine Calls.mono HP0.out ?_
      rintro e w1 ⟨rfl, rfl⟩
      go_wp2_with fail
      go_quiet (fail)
      go_wp2
      go_ret
      exact ⟨rfl, (Keeps.refl _ _).drewN _⟩
end
end Go.Proofs.Ytkodpoijdaoihaa
