/-
  What both laws over lists of frames lean on: the five kinds out of a number; both sides' states, step by step.
-/
import Derived.Test.YtblhgifmdcghoaaDoorIOpen
import Derived.Test.YtblhgifmdcghoaaDoorIResetsW
import Derived.Test.YtblhgifmdcghoaaDoorGApp
namespace Go.Proofs.YtblhgifmdcghoaaDoor
open Go.RowKit

theorem fifth (n : Int) : ∃ (r : Int) (q : Nat), n.tmod 5 = r ∧ (r + 5).tmod 5 = (q : Int) ∧ -5 < r ∧ r < 5 ∧ q < 5 := by
  have h1 := Int.lt_tmod_of_pos n (show (0 : Int) < 5 by decide)
  have h2 := Int.tmod_lt_of_pos n (show (0 : Int) < 5 by decide)
  have h3 : 0 ≤ (n.tmod 5 + 5).tmod 5 := by
    rw [Int.tmod_eq_emod_of_nonneg (by omega)]
    omega
  have h4 := Int.tmod_lt_of_pos (n.tmod 5 + 5) (show (0 : Int) < 5 by decide)
  obtain ⟨q, hq⟩ := Int.eq_ofNat_of_zero_le h3
  exact ⟨_, q, rfl, hq, h1, h2, by omega⟩
def kindL : List Int := [0, 1, 3, 8, 2]
theorem kind_of {q : Nat} (h : q < 5) : ∃ k, kindL[q]? = some k ∧ moveB k = true := by
  match q, h with
  | 0, _ => exact ⟨0, rfl, rfl⟩
  | 1, _ => exact ⟨1, rfl, rfl⟩
  | 2, _ => exact ⟨3, rfl, rfl⟩
  | 3, _ => exact ⟨8, rfl, rfl⟩
  | 4, _ => exact ⟨2, rfl, rfl⟩
def kindV : Array Value := (kindL.map (Value.int .i64)).toArray
theorem kind_cell (i : Nat) (k : Int) (h : kindL[i]? = some k) (t : TypeId) (w : World) : (w.alloc (.cells #[.int .i64 0, .int .i64 1, .int .i64 3, .int .i64 8, .int .i64 2] t)).cell? ⟨w.heap.size, i, none⟩ = some (.int .i64 k) := by
  show (w.alloc (.cells kindV t)).cell? ⟨w.heap.size, i, none⟩ = some (.int .i64 k)
  unfold World.cell?
  rw [heap_alloc_new]
  simp [kindV, h]
/-- Both sides' states as they go hand in hand. -/
def handB (a b : Int) : Bool := (a == 1 && b == 1) || (a == 2 && b == 3) || (a == 3 && b == 2)
theorem hand_three {a b : Int} (h : handB a b = true) : (a = 1 ∧ b = 1) ∨ (a = 2 ∧ b = 3) ∨ (a = 3 ∧ b = 2) := by
  simp [handB] at h
  omega
theorem hand_swap {a b : Int} (h : handB a b = true) : handB b a = true := by
  rcases hand_three h with ⟨rfl, rfl⟩ | ⟨rfl, rfl⟩ | ⟨rfl, rfl⟩ <;> rfl
theorem hand_step {a b k : Int} (en : Bool) (h : handB a b = true) (hk : moveB k = true) :
    (∃ e, sentA a k en = (a, e) ∧ (e != 0) = true) ∨
    (∃ s t, sentA a k en = (s, 0) ∧ gotA b k en = (t, 0) ∧ ((s = 1 ∧ t = 1) ∨ (s = 2 ∧ t = 3) ∨ (s = 3 ∧ t = 2) ∨ (s = 4 ∧ t = 4))) := by
  have key : ∀ p : Int × Int, ∀ q : Int × Int, ((p.2 != 0 && p.1 == a) || (p.2 == 0 && q.2 == 0 && (handB p.1 q.1 || (p.1 == 4 && q.1 == 4)))) = true →
      (∃ e, p = (a, e) ∧ (e != 0) = true) ∨ (∃ s t, p = (s, 0) ∧ q = (t, 0) ∧ ((s = 1 ∧ t = 1) ∨ (s = 2 ∧ t = 3) ∨ (s = 3 ∧ t = 2) ∨ (s = 4 ∧ t = 4))) := by
    rintro ⟨p1, p2⟩ ⟨q1, q2⟩ h
    simp only [Bool.or_eq_true, Bool.and_eq_true, beq_iff_eq] at h
    rcases h with ⟨h1, h2⟩ | ⟨⟨h1, h2⟩, h3⟩
    · left; exact ⟨p2, by rw [h2], h1⟩
    · right
      refine ⟨p1, q1, by rw [h1], by rw [h2], ?_⟩
      rcases h3 with h3 | h3
      · rcases hand_three h3 with h | h | h
        · exact .inl h
        · exact .inr (.inl h)
        · exact .inr (.inr (.inl h))
      · exact .inr (.inr (.inr h3))
  apply key
  rcases hand_three h with ⟨rfl, rfl⟩ | ⟨rfl, rfl⟩ | ⟨rfl, rfl⟩ <;> rcases moves_five hk with rfl | rfl | rfl | rfl | rfl <;> cases en <;> decide +kernel
def turnL : List Int := [0, 1, 3, 2, 4]
/-- Where the states, turned, lie. -/
def TurnAt (g : Nat) (w : World) : Prop := g < w.heap.size ∧ ∀ i v, turnL[i]? = some v → w.cell? ⟨g, i, none⟩ = some (.int .i64 v)
theorem TurnAt.quiet {g : Nat} {w w' : World} (h : TurnAt g w) (k : Keeps nobody w w') : TurnAt g w' :=
  ⟨Nat.lt_of_lt_of_le h.1 k.size, fun i v hi => (k.cell (p := ⟨g, i, none⟩) h.1 id).trans (h.2 i v hi)⟩
def turnV : Array Value := (turnL.map (Value.int .i64)).toArray
theorem turn_new (t : TypeId) (w : World) : TurnAt w.heap.size (w.alloc (.cells #[.int .i64 0, .int .i64 1, .int .i64 3, .int .i64 2, .int .i64 4] t)) := by
  refine ⟨by simp, fun i v hi => ?_⟩
  show (w.alloc (.cells turnV t)).cell? ⟨w.heap.size, i, none⟩ = some (.int .i64 v)
  unfold World.cell?
  rw [heap_alloc_new]
  simp [turnV, hi]
end Go.Proofs.YtblhgifmdcghoaaDoor
