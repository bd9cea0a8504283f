/-
  BlockTells: what stands ahead of its walk.
-/
import Derived.Test.YtdpbnlamdgdljaaJLive
import Derived.Test.YtdpbnlamdgdljaaJRefCut
import Derived.Test.YtdpbnlamdgdljaaDBook
namespace Go.Proofs.Ytdpbnlamdgdljaa
open Go.RowKit

/-- A block, cut, or nothing. -/
def cutB (id : Int) (b : ByteArray) (e : Bool) (m : Int) : List Frm := if cuts id m then cutA id b e m.toNat else []
theorem cutB_few (id : Int) (b : ByteArray) (e : Bool) (m : Int) (hb : b.size ≤ 3000) : (cutB id b e m).length ≤ 47 := by
  unfold cutB
  split
  · rename_i h
    rw [cutA_length]
    exact piece_few (by have := h.2.1; omega) hb
  · exact Nat.zero_le _
/-- What is open behind the first j frames; at the end nothing. -/
def stK (id : Int) (b : ByteArray) (e : Bool) (m : Int) (j : Nat) : Opn := if j < (cutB id b e m).length then opnK id b e m.toNat j else noO
theorem stK_zero (id : Int) (b : ByteArray) (e : Bool) (m : Int) : stK id b e m 0 = noO := by
  unfold stK opnK
  split <;> rfl
theorem stK_end (id : Int) (b : ByteArray) (e : Bool) (m : Int) : stK id b e m (cutB id b e m).length = noO := by
  unfold stK
  rw [if_neg (by omega)]
theorem tells_step (id : Int) (b : ByteArray) (e : Bool) (m : Int) (j : Nat) (hb : b.size ≤ 3000) (hj : j < (cutB id b e m).length) :
    ∃ f, (cutB id b e m)[j]? = some f ∧ (stK id b e m j).bytes.size + f.body.size ≤ 140737488355328 ∧
      ((j + 1 = (cutB id b e m).length ∧ takeA (max b.size 1) (stK id b e m j) f = ((⟨id, e, b⟩, true, 0), stK id b e m (j + 1))) ∨ (j + 1 < (cutB id b e m).length ∧ takeA (max b.size 1) (stK id b e m j) f = ((noO, false, 0), stK id b e m (j + 1)) ∧ (stK id b e m (j + 1)).id = id)) := by
  by_cases hc : cuts id m
  · obtain ⟨q, rfl⟩ := Int.eq_ofNat_of_zero_le (show 0 ≤ m by have := hc.2.1; omega)
    have hL : cutB id b e (q : Int) = cutA id b e q := by rw [cutB, if_pos hc]; rfl
    have hl : (cutB id b e (q : Int)).length = pieceN b.size q := by rw [hL, cutA_length]
    have hq : 0 < q := by have := hc.2.1; omega
    have hq2 : q ≤ 512 := by have := hc.2.2; omega
    have hS : ∀ i, i < pieceN b.size q → stK id b e (q : Int) i = opnK id b e q i := fun i hi => by
      unfold stK
      rw [hl, if_pos hi]
      rfl
    rw [hl] at hj
    have ht := cut_take (max b.size 1) id b e q j hc hj
    have hp := piece_lt hq hj
    rw [hl, hS j hj, hL]
    refine ⟨_, cutA_at id b e q j hj, ?_, ?_⟩
    · rw [cutAt_size _ _ _ _ _ hq hj, opnK_bytes, ByteArray.size_extract]
      omega
    · rw [ht, if_neg (by omega)]
      by_cases h2 : j + 1 = pieceN b.size q
      · left
        rw [if_pos h2]
        refine ⟨h2, ?_⟩
        have := stK_end id b e (q : Int)
        rw [hl, ← h2] at this
        rw [this]
      · right
        rw [if_neg h2, hS (j + 1) (by omega)]
        refine ⟨by omega, rfl, ?_⟩
        rw [opnK, if_neg (by omega)]
  · exfalso
    rw [cutB, if_neg hc] at hj
    simp at hj
section
variable {W w : World} {ts : List Thing}
theorem Hold.newrow {w' : World} {v : Value} {l : List Frm} (h : Hold W w ts) (hk : Keeps nobody w w') (hr : w'.ownsRow w.heap.size 39 4 v l.length (qcells l)) : ∃ xa c, v = .slice xa l.length c ∧ Hold W w' (rowT (.slice xa l.length c) l :: ts) := by
  have hv : ∃ xa c, v = .slice xa l.length c := by
    rcases hr.2 with ⟨rfl, hx⟩ | ⟨rb, cap, cur, rfl, _⟩
    · exact ⟨none, 0, by rw [hx]⟩
    · exact ⟨_, _, rfl⟩
  obtain ⟨xa, c, rfl⟩ := hv
  exact ⟨xa, c, rfl, h.add hk (rowT_ok _ _) (row_low hr) fun k e => (hr.lt k e).1⟩
theorem t_cutB (h : Hold W w ts) (id m : Int) (b : ByteArray) (e : Bool) (hb : b.size ≤ 3000) : Calls Try.prog 10 #[.int .i64 id, .string b, .bool e, .int .i64 m] w fun r w' => ∃ xa c, r = .returned (.tuple #[.slice xa (cutB id b e m).length c, .bool (decide (cuts id m))]) ∧ Hid (Hold W w' (rowT (.slice xa (cutB id b e m).length c) (cutB id b e m) :: ts)) := by
  by_cases hc : cuts id m
  · obtain ⟨q, rfl⟩ := Int.eq_ofNat_of_zero_le (show 0 ≤ m by have := hc.2.1; omega)
    rw [decide_eq_true hc, cutB, if_pos hc]
    refine (cut_ok id q b e w hc hb).mono ?_
    rintro r w' ⟨v, hr, hrow, hk⟩
    obtain ⟨xa, c, rfl, hh⟩ := h.newrow hk hrow.out
    exact ⟨xa, c, hr, hh⟩
  · rw [decide_eq_false hc, cutB, if_neg hc]
    refine (cut_no id m b e w hc).mono ?_
    rintro r w' ⟨hr, rfl⟩
    exact ⟨none, 0, hr, h.add (Keeps.refl _ _) (rowT_ok _ _) (World.ownsRow_nil _ _ _ _) fun k e => by cases e⟩
theorem t_rcutB (h : Hold W w ts) (id m : Int) (b : ByteArray) (e : Bool) (hb : b.size ≤ 3000) : Calls Try.prog 11 #[.int .i64 id, .string b, .bool e, .int .i64 m] w fun r w' => ∃ xa c, r = .returned (.tuple #[.slice xa (cutB id b e m).length c, .bool (decide (cuts id m))]) ∧ Hid (Hold W w' (rowT (.slice xa (cutB id b e m).length c) (cutB id b e m) :: ts)) := by
  by_cases hc : cuts id m
  · obtain ⟨q, rfl⟩ := Int.eq_ofNat_of_zero_le (show 0 ≤ m by have := hc.2.1; omega)
    rw [decide_eq_true hc, cutB, if_pos hc]
    refine (rcut_ok id q b e w hc hb).mono ?_
    rintro r w' ⟨v, hr, hrow, hk⟩
    obtain ⟨xa, c, rfl, hh⟩ := h.newrow hk hrow.out
    exact ⟨xa, c, hr, hh⟩
  · rw [decide_eq_false hc, cutB, if_neg hc]
    refine (rcut_no id m b e w hc).mono ?_
    rintro r w' ⟨hr, rfl⟩
    exact ⟨none, 0, hr, h.add (Keeps.refl _ _) (rowT_ok _ _) (World.ownsRow_nil _ _ _ _) fun k e => by cases e⟩
/-- The book, new. -/
theorem Hold.book (h : Hold W w ts) : Hold W (w.alloc (.cells #[.slice none 0 0, .slice none 0 0, .slice none 0 0, .slice none 0 0, .slice none 0 0, .slice none 0 0, .slice none 0 0, .slice none 0 0, .slice none 0 0, .slice none 0 0] 33)) (bkT w.heap.size (.slice none 0 0) (.slice none 0 0) [] [] :: ts) :=
  h.add (keeps_alloc _ _) (bkT_ok _ _ _ _ _) (new_book w) (new_book_foot w)
end
theorem maxB (a : Nat) (ts : Array TypeId) (t : TypeId) (W : World) : (Builtin.max_ ts t #[.int .i64 (a : Int), .int .i64 1]).run Try.prog W = .ok (.int .i64 ((max a 1 : Nat) : Int)) W := by
  rw [run_max_int2]
  have : (if (a : Int) < 1 then (1 : Int) else (a : Int)) = ((max a 1 : Nat) : Int) := by split <;> omega
  rw [this]
end Go.Proofs.Ytdpbnlamdgdljaa
