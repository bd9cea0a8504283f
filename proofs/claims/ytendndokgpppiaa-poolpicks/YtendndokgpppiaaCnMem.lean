/-
  Package conn: a Conn in memory, of which no stream was opened yet; made, Dead, Gone, Busy, refuses, Can.
-/
import Derived.Test.YtendndokgpppiaaGTwo
import Derived.Test.YtendndokgpppiaaYPut
import Derived.Test.YtendndokgpppiaaAMem
import Derived.Test.YtendndokgpppiaaOCode
import Derived.BigQuiet
namespace Go.Proofs.Ytendndokgpppiaa
open Go.RowKit
attribute [local irreducible] nums str

/-- A Conn: where it lies, its numbers, its health, what it says; what nobody asks; its health; what was said, and how much; what it is broken by. -/
structure Cn where
  g : Nat
  gi : Nat
  gh : Nat
  go : Nat
  v : Value
  pk : Value
  up : Value
  fr : Value
  bl : Value
  mp : Value
  h : Pi.He
  B : ByteArray
  sent : Nat
  dead : Int
def cnC (s : Cn) : Array Value := #[.int .i64 100, .int .i64 128, .int .i64 6, .int .i64 100, .int .i64 64, .int .i64 600, .pointer (some ⟨s.gi, 0, none⟩), .pointer (some ⟨s.gh, 0, none⟩), s.pk, s.up, s.fr, s.bl, .int .i64 100, .int .i64 100, .int .i64 0, .int .i64 100, .int .i64 100, .int .i64 0, s.mp, .slice none 0 0, .pointer (some ⟨s.go, 0, none⟩), .int .i64 (s.sent : Int), .bool false, .bool false, .int .i64 s.dead]
def oneI : Id.Idd := ⟨1, -1⟩
def cnW (g gi gh go : Nat) (v : Value) (cs : Array Value) (h : Pi.He) (B : ByteArray) : Thing :=
  two (two (two (recT g cs 78) (Id.idT gi oneI)) (Pi.heT gh h)) (Bu.bfT go v 9223372036854775807 false B)
/-- A Conn as a thing. -/
def cnT (s : Cn) : Thing := cnW s.g s.gi s.gh s.go s.v (cnC s) s.h s.B
section
variable {w w' : World} {g gi gh go : Nat} {v v' : Value} {cs : Array Value} {h h' : Pi.He} {B B' : ByteArray} {s : Cn}
theorem cnW_ok : (cnW g gi gh go v cs h B).Ok := two_ok (two_ok (two_ok recT_ok recT_ok) recT_ok) Bu.bfT_ok
theorem cnT_ok : (cnT s).Ok := cnW_ok
theorem cn_set (H : (cnW g gi gh go v cs h B).inv w) (i : Nat) (u : Value) : Did (cnW g gi gh go v cs h B) (cnW g gi gh go v (cs.setIfInBounds i u) h B) w (w.setCell ⟨g, i, none⟩ u) :=
  (((rec_set H.1.1.1 i u).fst recT_ok H.1.1).fst recT_ok H.1).fst Bu.bfT_ok H
theorem cn_hea (H : (cnW g gi gh go v cs h B).inv w) (hd : Did (Pi.heT gh h) (Pi.heT gh h') w w') : Did (cnW g gi gh go v cs h B) (cnW g gi gh go v cs h' B) w w' :=
  (hd.snd (two_ok recT_ok recT_ok) H.1).fst Bu.bfT_ok H
theorem cn_buf (H : (cnW g gi gh go v cs h B).inv w) (hd : Did (Bu.bfT go v 9223372036854775807 false B) (Bu.bfT go v' 9223372036854775807 false B') w w') : Did (cnW g gi gh go v cs h B) (cnW g gi gh go v' cs h B') w w' :=
  hd.snd (two_ok (two_ok recT_ok recT_ok) recT_ok) H
theorem cnW_blk (H : (cnW g gi gh go v cs h B).inv w) : w.heap[g]? = some (.cells cs 78 (0, 0)) := H.1.1.1
theorem cnT_lt (H : (cnT s).inv w) : s.g < w.heap.size := (Array.getElem?_eq_some_iff.1 (cnW_blk H)).1
theorem cnT_cells (H : (cnT s).inv w) : w.cell? ⟨s.g, 0, none⟩ = some (.int .i64 100) ∧ w.cell? ⟨s.g, 2, none⟩ = some (.int .i64 6) ∧ w.cell? ⟨s.g, 6, none⟩ = some (.pointer (some ⟨s.gi, 0, none⟩)) ∧ w.cell? ⟨s.g, 7, none⟩ = some (.pointer (some ⟨s.gh, 0, none⟩)) ∧ w.cell? ⟨s.g, 19, none⟩ = some (.slice none 0 0) ∧ w.cell? ⟨s.g, 20, none⟩ = some (.pointer (some ⟨s.go, 0, none⟩)) ∧ w.cell? ⟨s.g, 21, none⟩ = some (.int .i64 (s.sent : Int)) ∧ w.cell? ⟨s.g, 23, none⟩ = some (.bool false) ∧ w.cell? ⟨s.g, 24, none⟩ = some (.int .i64 s.dead) ∧ ∀ n, w.frozen? ⟨s.g, n, none⟩ = false := by
  have hb := cnW_blk H
  refine ⟨?_, ?_, ?_, ?_, ?_, ?_, ?_, ?_, ?_, fun n => ?_⟩ <;> simp [World.cell?, World.frozen?, hb, cnC]
theorem cnT_quiet (H : (cnT s).inv w) (hk : Keeps nobody w w') : (cnT s).inv w' := cnT_ok.keeps H hk fun _ _ => id
end
section
variable {w : World} {s : Cn}
theorem cmade_ok (H : (cnT s).inv w) : Calls Try.prog 41 #[.pointer (some ⟨s.g, 0, none⟩)] w fun e w' => e = .returned (.bool true) ∧ w = w' := by
  obtain ⟨c0, _⟩ := cnT_cells H
  clear H
  go_enter Try.func41, Try.ntmps41
  go_wp2
  go_ret
  exact ⟨rfl, rfl⟩
theorem cdead_ok (H : (cnT s).inv w) : Calls Try.prog 23 #[.pointer (some ⟨s.g, 0, none⟩)] w fun e w' => e = .returned (.int .i64 s.dead) ∧ w = w' := by
  have HM := hid (cmade_ok H)
  obtain ⟨_, _, _, _, _, _, _, _, c24, _⟩ := cnT_cells H
  clear H
  go_enter Try.func23, Try.ntmps23
  go_wp2_with fail
  refine Calls.mono HM.out ?_
  rintro e w1 ⟨rfl, rfl⟩
  go_wp2
  go_ret
  exact ⟨rfl, rfl⟩
theorem cgone_ok (H : (cnT s).inv w) : Calls Try.prog 44 #[.pointer (some ⟨s.g, 0, none⟩)] w fun e w' => e = .returned (.bool false) ∧ w = w' := by
  have HM := hid (cmade_ok H)
  have HL : Hid (Calls Try.prog 57 #[.pointer (some ⟨s.gi, 0, none⟩)] w fun e w' => e = .returned (.bool true) ∧ w = w') := Id.left_ok (x := oneI) H.1.1.2.1 (by decide)
  obtain ⟨_, _, c6, _, _, _, _, c23, _, _⟩ := cnT_cells H
  clear H
  go_enter Try.func44, Try.ntmps44
  go_wp2_with fail
  refine Calls.mono HM.out ?_
  rintro e w1 ⟨rfl, rfl⟩
  go_wp2_with fail
  refine Calls.mono HL.out ?_
  rintro e w1 ⟨rfl, rfl⟩
  go_wp2
  go_ret
  exact ⟨rfl, rfl⟩
theorem cbusy_ok (H : (cnT s).inv w) : Calls Try.prog 45 #[.pointer (some ⟨s.g, 0, none⟩)] w fun e w' => e = .returned (.int .i64 0) ∧ w = w' := by
  have HM := hid (cmade_ok H)
  obtain ⟨_, _, _, _, c19, _⟩ := cnT_cells H
  clear H
  go_enter Try.func45, Try.ntmps45
  go_wp2_with fail
  refine Calls.mono HM.out ?_
  rintro e w1 ⟨rfl, rfl⟩
  go_wp2
  go_ret
  exact ⟨rfl, rfl⟩
theorem crefuses_ok (H : (cnT s).inv w) : Calls Try.prog 47 #[.pointer (some ⟨s.g, 0, none⟩)] w fun e w' => e = .returned (.int .i64 s.dead) ∧ Keeps nobody w w' := by
  have HD := hid (cdead_ok H)
  have HG := hid (cgone_ok H)
  have HB : Hid (∀ n, Calls Try.prog 45 #[.pointer (some ⟨s.g, 0, none⟩)] (w.drewN n) fun e w' => e = .returned (.int .i64 0) ∧ w' = w.drewN n) := fun n => (cbusy_ok (cnT_quiet H ((Keeps.refl _ _).drewN n))).mono fun _ _ h => ⟨h.1, h.2.symm⟩
  obtain ⟨_, c2, _⟩ := cnT_cells H
  clear H
  obtain ⟨g, gi, gh, go, v, pk, up, fr, bl, mp, h, B, sent, dead⟩ := s
  simp only at HD HG HB c2 ⊢
  by_cases h0 : dead = 0
  · subst h0
    go_enter Try.func47, Try.ntmps47
    go_wp2_with fail
    refine Calls.mono HD.out ?_
    rintro e w1 ⟨rfl, rfl⟩
    go_wp2_with fail
    refine Calls.mono HG.out ?_
    rintro e w1 ⟨rfl, rfl⟩
    go_wp2_with fail
    go_quiet (first | (go_at_call 45; exact Calls.quiet_of_same (HB.out _)))
    go_wp2
    go_ret
    exact ⟨rfl, (Keeps.refl _ _).drewN _⟩
  · have hd : (dead != 0) = true := by simpa using h0
    go_enter Try.func47, Try.ntmps47
    go_wp2_with fail
    refine Calls.mono HD.out ?_
    rintro e w1 ⟨rfl, rfl⟩
    go_wp2_with fail
    refine Calls.mono HD.out ?_
    rintro e w1 ⟨rfl, rfl⟩
    go_wp2
    go_ret
    exact ⟨rfl, Keeps.refl _ _⟩
theorem ccan_ok (H : (cnT s).inv w) : Calls Try.prog 28 #[.pointer (some ⟨s.g, 0, none⟩)] w fun e w' => e = .returned (.bool (s.dead == 0)) ∧ Keeps nobody w w' := by
  have HR := hid (crefuses_ok H)
  clear H
  go_enter Try.func28, Try.ntmps28
  go_wp2_with fail
  refine Calls.mono HR.out ?_
  rintro e w1 ⟨rfl, k1⟩
  go_wp2
  go_ret
  exact ⟨rfl, k1⟩
end
end Go.Proofs.Ytendndokgpppiaa
