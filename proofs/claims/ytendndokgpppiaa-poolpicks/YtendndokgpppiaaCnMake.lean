/-
  Package conn: what New makes of other packages' things.
-/
import Derived.Test.YtendndokgpppiaaCnSay
import Derived.Test.YtendndokgpppiaaWCode
import Derived.Test.YtendndokgpppiaaZOwn
namespace Go.Proofs.Ytendndokgpppiaa
open Go.RowKit

theorem issize_128 (w : World) : Calls Try.prog 60 #[.int .i64 128] w fun e w' => e = .returned (.bool true) ∧ w = w' := by
  go_enter Try.func60, Try.ntmps60
  go_wp2
  go_ret
  exact ⟨rfl, rfl⟩
theorem table_128 (w : World) : Calls Try.prog 52 #[.int .i64 128] w fun e w' => ∃ g, e = .returned (.pointer (some ⟨g, 0, none⟩)) ∧ Keeps nobody w w' := by
  have HI := hid issize_128
  go_enter Try.func52, Try.ntmps52
  go_wp2_with fail
  refine Calls.mono (HI.out _) ?_
  rintro e w1 ⟨rfl, rfl⟩
  go_wp2
  go_ret
  exact ⟨_, rfl, keeps_alloc _ _⟩
theorem packer_ok (w : World) : Calls Try.prog 34 #[] w fun e w' => ∃ g, e = .returned (.pointer (some ⟨g, 0, none⟩)) ∧ Keeps nobody w w' := by
  have HT := hid table_128
  go_enter Try.func34, Try.ntmps34
  go_wp2_with fail
  refine Calls.mono (HT.out _) ?_
  rintro e w1 ⟨g, rfl, k1⟩
  go_wp2
  go_ret
  exact ⟨_, rfl, k1.alloc _⟩
theorem unpacker_128 (w : World) : Calls Try.prog 35 #[.int .i64 128] w fun e w' => ∃ g, e = .returned (.pointer (some ⟨g, 0, none⟩)) ∧ Keeps nobody w w' := by
  have HT := hid table_128
  go_enter Try.func35, Try.ntmps35
  go_wp2_with fail
  refine Calls.mono (HT.out _) ?_
  rintro e w1 ⟨g, rfl, k1⟩
  go_wp2
  go_ret
  exact ⟨_, rfl, k1.alloc _⟩
theorem split_64 (w : World) : Calls Try.prog 36 #[.int .i64 64] w fun e w' => ∃ g, e = .returned (.pointer (some ⟨g, 0, none⟩)) ∧ Keeps nobody w w' := by
  go_enter Try.func36, Try.ntmps36
  go_wp2
  go_ret
  exact ⟨_, rfl, keeps_alloc _ _⟩
theorem block_600 (w : World) : Calls Try.prog 37 #[.int .i64 600] w fun e w' => ∃ g, e = .returned (.pointer (some ⟨g, 0, none⟩)) ∧ Keeps nobody w w' := by
  go_enter Try.func37, Try.ntmps37
  go_wp2
  go_ret
  exact ⟨_, rfl, keeps_alloc _ _⟩
theorem window_100 (w : World) : Calls Try.prog 32 #[.int .i64 100] w fun e w' => e = .returned (.tuple #[.agg #[.int .i64 100, .int .i64 100, .int .i64 0], .bool true]) ∧ Keeps nobody w w' := Wi.wnew_ok 100 w
theorem first_ok (w : World) : Calls Try.prog 33 #[] w fun e w' => e = .returned (.agg #[.int .i64 128, .int .i64 6, .int .i64 100, .int .i64 64, .int .i64 600]) ∧ Keeps nobody w w' := Pf.pfirst_ok w
theorem mine_100 : ∃ P : ByteArray, P.size = 18 ∧ ∀ w : World, Calls Try.prog 29 #[.int .i64 100] w fun e w' => e = .returned (.tuple #[.string P, .bool true]) ∧ Keeps nobody w w' :=
  ⟨Pf.putP (Pf.mineL 100), Pf.mine_size 100 (by decide), fun w => Pf.mine_ok 100 w⟩
/-- One that New has just made. -/
structure Fresh (s : Cn) (every wait : Nat) : Prop where
  h : s.h = Pi.newH every wait
  dead : s.dead = 0
  size : s.B.size ≤ 100
  sent : s.sent ≤ 100
abbrev oneB (gb : Nat) : Thing := Bu.bfT gb (.slice none 0 0) 9223372036854775807 false ⟨#[]⟩
/-- Its box is laid beside its things. -/
theorem cn_made {w W : World} {gi gh gb : Nat} {h : Pi.He} (H : Hold w W [oneB gb, Pi.heT gh h, Id.idT gi oneI]) (pk up fr bl mp : Value) :
    Hold w (W.alloc (.cells (cnC ⟨W.heap.size, gi, gh, gb, .slice none 0 0, pk, up, fr, bl, mp, h, ⟨#[]⟩, 0, 0⟩) 78)) [cnT ⟨W.heap.size, gi, gh, gb, .slice none 0 0, pk, up, fr, bl, mp, h, ⟨#[]⟩, 0, 0⟩] := by
  have h1 := H.newrec (cnC ⟨W.heap.size, gi, gh, gb, .slice none 0 0, pk, up, fr, bl, mp, h, ⟨#[]⟩, 0, 0⟩) 78
  have h2 := h1.perm (ts' := [recT W.heap.size (cnC ⟨W.heap.size, gi, gh, gb, .slice none 0 0, pk, up, fr, bl, mp, h, ⟨#[]⟩, 0, 0⟩) 78, Id.idT gi oneI, Pi.heT gh h, oneB gb]) (List.Perm.cons _ ((List.Perm.swap _ _ _).trans ((List.Perm.cons _ (List.Perm.swap _ _ _)).trans (List.Perm.swap _ _ _))))
  exact h2.two.two.two
/-- A configuration in a box. -/
abbrev cfgT (g every wait : Nat) : Thing := recT g #[.int .i64 100, .int .i64 1, .int .i64 (every : Int), .int .i64 (wait : Int)] 27
theorem Hold.cfg {W w : World} {ts : List Thing} {g every wait : Nat} (H : Hold W w ts) (hm : cfgT g every wait ∈ ts) : w.cell? ⟨g, 1, none⟩ = some (.int .i64 1) ∧ w.cell? ⟨g, 2, none⟩ = some (.int .i64 (every : Int)) ∧ w.cell? ⟨g, 3, none⟩ = some (.int .i64 (wait : Int)) := by
  have h := (H.cellsOf hm).1
  exact ⟨h 1, h 2, h 3⟩
theorem Hold.cfg0 {W w : World} {ts : List Thing} {g every wait : Nat} (H : Hold W w ts) (hm : cfgT g every wait ∈ ts) : w.cell? ⟨g, 0, none⟩ = some (.int .i64 100) := (H.cellsOf hm).1 0
/-- A window in a box. -/
abbrev winT (g : Nat) : Thing := recT g #[.int .i64 100, .int .i64 100, .int .i64 0] 59
theorem Hold.win {W w : World} {ts : List Thing} {g : Nat} (H : Hold W w ts) (hm : winT g ∈ ts) : w.cell? ⟨g, 0, none⟩ = some (.int .i64 100) ∧ w.cell? ⟨g, 1, none⟩ = some (.int .i64 100) ∧ w.cell? ⟨g, 2, none⟩ = some (.int .i64 0) := by
  have h := (H.cellsOf hm).1
  exact ⟨h 0, h 1, h 2⟩
end Go.Proofs.Ytendndokgpppiaa
