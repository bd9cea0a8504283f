/-
  A Blocks among other things of the statement's own; a block that is cut; the statements' first call of all.
-/
import Derived.Test.YtdpbnlamdgdljaaJTake
import Derived.Test.YtdpbnlamdgdljaaJCut
import Derived.Test.YtdpbnlamdgdljaaJTook
import Derived.Test.YtdpbnlamdgdljaaDRow
import Derived.Test.YtdpbnlamdgdljaaGDoor
namespace Go.Proofs.Ytdpbnlamdgdljaa
open Go.RowKit

section
variable {W w : World} {g : Nat} {v : Value} {most : Nat} {o : Opn} {ts : List Thing}
theorem Hold.bl (h : Hold W w (blT g v most o :: ts)) : Bl w g v most o := h.inv (blT g v most o) (by simp)
theorem t_bnew (h : Hold W w ts) (m : Nat) (h1 : 1 ≤ m) (h2 : m ≤ 9223372036854775807) : Calls Try.prog 14 #[.int .i64 (m : Int)] w fun e w' => ∃ g v, e = .returned (.pointer (some ⟨g, 0, none⟩)) ∧ Hid (Hold W w' (blT g v m noO :: ts)) := by
  refine (new_ok m w h1 h2).mono ?_
  rintro e w' ⟨he, hk, hs⟩
  refine ⟨_, _, he, h.add hk blT_ok hs ?_⟩
  rintro k (rfl | e)
  · exact Nat.le_refl _
  · cases e
theorem t_take (h : Hold W w (blT g v most o :: ts)) (f : Frm) (hs : o.bytes.size + f.body.size ≤ 140737488355328) : Calls Try.prog 15 #[.pointer (some ⟨g, 0, none⟩), frval f] w fun e w' => e = .returned (takeV (takeA most o f).1) ∧ ∃ v', Hid (Hold W w' (blT g v' most (takeA most o f).2 :: ts)) := by
  refine (take_ok h.bl f hs).mono ?_
  rintro e w' ⟨he, v', hd⟩
  exact ⟨he, v', h.act (a := []) hd⟩
theorem t_bopen (h : Hold W w (blT g v most o :: ts)) : Calls Try.prog 16 #[.pointer (some ⟨g, 0, none⟩)] w fun e w' => e = .returned (.int .i64 o.id) ∧ w = w' := open_ok h.bl
/-- A list that is made, which is not empty, as a slice. -/
theorem row_some {base n : Nat} {v : Value} {l : List Frm} (h : w.ownsRow base 39 4 v n (qcells l)) (hn : 0 < n) : ∃ rb c, v = .slice (some ⟨rb, 0, none⟩) n c ∧ base ≤ rb := by
  rcases h.2 with ⟨_, e⟩ | ⟨rb, c, cur, e, hb, _⟩
  · omega
  · exact ⟨rb, c, e, hb⟩
theorem t_cut (h : Hold W w ts) (id : Int) (m : Nat) (b : ByteArray) (e : Bool) (hc : cuts id m) (hb : b.size ≤ 3000) : Calls Try.prog 10 #[.int .i64 id, .string b, .bool e, .int .i64 (m : Int)] w fun r w' => ∃ rb c, r = .returned (.tuple #[.slice (some ⟨rb, 0, none⟩) (pieceN b.size m) c, .bool true]) ∧ Hid (Hold W w' (rowT (.slice (some ⟨rb, 0, none⟩) (pieceN b.size m) c) (cutA id b e m) :: ts)) := by
  refine (cut_ok id m b e w hc hb).mono ?_
  rintro r w' ⟨v, hr, hrow, hk⟩
  have hp : 0 < pieceN b.size m := pieceN_pos _ _ (by have := hc.2.1; omega)
  have hrow' := hrow.out
  rw [cutA_length] at hrow'
  obtain ⟨rb, c, rfl, hge⟩ := row_some hrow' hp
  have hrow2 := hrow.out
  refine ⟨rb, c, hr, h.add hk (rowT_ok _ _) (row_low hrow2) fun k e => ?_⟩
  have e' : (Value.slice (some ⟨rb, 0, none⟩) (pieceN b.size m) c).ownBlock = some k := e
  simp [Value.ownBlock] at e'
  omega
/-- A frame of a list that lies there. -/
theorem Hold.row {rb n c : Nat} {l : List Frm} (h : Hold W w ts) (hm : rowT (.slice (some ⟨rb, 0, none⟩) n c) l ∈ ts) (i : Nat) (f : Frm) (hi : l[i]? = some f) : w.cell? ⟨rb, i * 4, none⟩ = some (.int .i64 f.kind) ∧ w.cell? ⟨rb, i * 4 + 1, none⟩ = some (.int .i64 f.flags) ∧ w.cell? ⟨rb, i * 4 + 2, none⟩ = some (.int .i64 f.id) ∧ w.cell? ⟨rb, i * 4 + 3, none⟩ = some (.string f.body) := by
  have hr : w.ownsRow 0 39 4 (.slice (some ⟨rb, 0, none⟩) n c) l.length (qcells l) := h.inv _ hm
  obtain ⟨hl, rfl⟩ := List.getElem?_eq_some_iff.1 hi
  exact qrow_cells hr i hl
theorem Hold.rowLt {rb n c : Nat} {l : List Frm} (h : Hold W w ts) (hm : rowT (.slice (some ⟨rb, 0, none⟩) n c) l ∈ ts) : rb < w.heap.size := h.lt hm rb rfl
end
def zerosB (n : Nat) : ByteArray := str (List.replicate n 0)
theorem zerosB_size (n : Nat) : (zerosB n).size = n := by rw [zerosB, str_size]; simp
theorem conv_zerosB (n : Nat) (hn : n ≤ 1000) (W : World) : (convert 59 9 (.slice (some ⟨W.heap.size, 0, none⟩) n n)).run Try.prog (W.alloc (.cells (madeCells #[.int .u8 0] n) 5)) = .ok (.string (zerosB n)) (W.alloc (.cells (madeCells #[.int .u8 0] n) 5)) := by
  have h : madeCells #[.int .u8 0] n = (cellsOf (List.replicate n 0)).toArray := by
    apply Array.toList_inj.1
    apply List.ext_getElem (by simp [cellsOf, madeCells])
    intro i h1 h2
    simp [madeCells, cellsOf, Nat.mod_one]
  have := conv_lit W (List.replicate n 0) (by simpa using hn)
  rw [List.length_replicate] at this
  rw [h]
  exact this
end Go.Proofs.Ytdpbnlamdgdljaa
