/-
  Headers as data; what a call may write.
-/
import Derived.Test.YtendndokgpppiaaRows
import Derived.WalkKit
import Derived.ProofKit
import Derived.OpenShut
import Derived.WalkSpells
import Derived.WalkLawsBesides
import Derived.Outline
import Derived.Deep.LoopGhost
import Derived.Deep.Heap
import Derived.Laws.Externs
import Derived.OwnWalk
import Derived.Laws.AppendOwn
import Derived.Laws.OwnMore
import Derived.Laws.IdiomCopy
import Derived.Deep.RegionLaw
import Derived.Deep.MidRow
import Derived.Lib.Overlaps
import Derived.Lib.AppendZerosOnto
import Derived.Laws.Cover3
namespace Go.Proofs.Ytendndokgpppiaa
open Go.RowKit

theorem eql_slice_nil (w : World) : (binOp .eql 112 (.slice none 0 0) (.slice none 0 0)).run Try.prog w = .ok (.bool true) w := by
  simp only [binOp]
  simp [run_equal_slice_nil w 112 _ none 0 0 Try.underlying112]
theorem eql_slice_some (a : Addr) (n c : Nat) (w : World) : (binOp .eql 112 (.slice (some a) n c) (.slice none 0 0)).run Try.prog w = .ok (.bool false) w := by
  simp only [binOp]
  simp [run_equal_slice_nil w 112 _ (some a) n c Try.underlying112]
theorem hid {p : Prop} (h : p) : Hid p := h
/-- A header: its name, its value. -/
abbrev Fld : Type := ByteArray × ByteArray
abbrev fval (f : Fld) : Value := .agg #[.string f.1, .string f.2]
def fpair (f : Fld) : List Value := [.string f.1, .string f.2]
def fcells (l : List Fld) : List Value := l.flatMap fpair
theorem fcells_nil : fcells [] = [] := rfl
theorem fcells_cons (f : Fld) (l : List Fld) : fcells (f :: l) = .string f.1 :: .string f.2 :: fcells l := rfl
theorem fcells_append (l m : List Fld) : fcells (l ++ m) = fcells l ++ fcells m := by simp [fcells]
theorem fcells_length (l : List Fld) : (fcells l).length = l.length * 2 := by
  induction l with
  | nil => rfl
  | cons f l ih => rw [fcells_cons]; simp [ih]; omega
theorem fcells_at0 (l : List Fld) (i : Nat) (f : Fld) (h : l[i]? = some f) : (fcells l)[i * 2]? = some (.string f.1) := by
  induction l generalizing i with
  | nil => simp at h
  | cons g l ih =>
    cases i with
    | zero => simp at h; subst h; rfl
    | succ i => rw [fcells_cons, show (i + 1) * 2 = i * 2 + 1 + 1 by omega]; simpa using ih i (by simpa using h)
theorem fcells_at1 (l : List Fld) (i : Nat) (f : Fld) (h : l[i]? = some f) : (fcells l)[i * 2 + 1]? = some (.string f.2) := by
  induction l generalizing i with
  | nil => simp at h
  | cons g l ih =>
    cases i with
    | zero => simp at h; subst h; rfl
    | succ i => rw [fcells_cons, show (i + 1) * 2 + 1 = i * 2 + 1 + 1 + 1 by omega]; simpa using ih i (by simpa using h)
theorem fcells_one (l : List Fld) : ∀ v ∈ fcells l, v.oneCell' = true := by
  induction l with
  | nil => simp [fcells]
  | cons f l ih =>
    intro v hv
    rw [fcells_cons] at hv
    simp at hv
    rcases hv with rfl | rfl | hv
    · rfl
    · rfl
    · exact ih v hv
theorem fcells_take (l : List Fld) (k : Nat) : (fcells l).take (k * 2) = fcells (l.take k) := by
  induction l generalizing k with
  | nil => simp [fcells]
  | cons f l ih =>
    cases k with
    | zero => simp [fcells]
    | succ k =>
      rw [fcells_cons, show (k + 1) * 2 = k * 2 + 1 + 1 by omega]
      simp [fcells_cons, ih k]
/-- What is there behind a call: nothing but the blocks of S, and new ones, has turned. -/
structure Keeps (S : Nat → Prop) (w w' : World) : Prop where
  os : w'.os = w.os
  tape : w'.tape = w.tape
  output : w'.output = w.output
  size : w.heap.size ≤ w'.heap.size
  block : ∀ k, k < w.heap.size → ¬ S k → w'.heap[k]? = w.heap[k]?
abbrev nobody : Nat → Prop := fun _ => False
theorem Keeps.refl (S : Nat → Prop) (w : World) : Keeps S w w := ⟨rfl, rfl, rfl, Nat.le_refl _, fun _ _ _ => rfl⟩
theorem Keeps.trans {S T : Nat → Prop} {a b c : World} (h : Keeps S a b) (k : Keeps T b c) (hT : ∀ n, n < a.heap.size → T n → S n) : Keeps S a c :=
  ⟨k.os.trans h.os, k.tape.trans h.tape, k.output.trans h.output, Nat.le_trans h.size k.size, fun n hn hS => (k.block n (Nat.lt_of_lt_of_le hn h.size) fun hk => hS (hT n hn hk)).trans (h.block n hn hS)⟩
theorem Keeps.mono {S T : Nat → Prop} {a b : World} (h : Keeps S a b) (hT : ∀ n, n < a.heap.size → S n → T n) : Keeps T a b :=
  ⟨h.os, h.tape, h.output, h.size, fun n hn hS => h.block n hn fun hk => hS (hT n hn hk)⟩
theorem Keeps.then {S : Nat → Prop} {a b c : World} (h : Keeps S a b) (k : Keeps nobody b c) : Keeps S a c := h.trans k fun _ _ h => h.elim
theorem Keeps.drew {S : Nat → Prop} {a b : World} (h : Keeps S a b) : Keeps S a b.drew := ⟨h.os, h.tape, h.output, h.size, h.block⟩
theorem Keeps.drewN {S : Nat → Prop} {a b : World} (h : Keeps S a b) (n : Nat) : Keeps S a (b.drewN n) := ⟨h.os, h.tape, h.output, h.size, h.block⟩
theorem Keeps.alloc {S : Nat → Prop} {a b : World} (h : Keeps S a b) (o : Obj) : Keeps S a (b.alloc o) :=
  h.then ⟨rfl, rfl, rfl, by simp, fun k hk _ => Below.heap_alloc _ _ _ hk⟩
theorem Keeps.setCell {S : Nat → Prop} {a b : World} (h : Keeps S a b) {p : Addr} (hp : S p.block ∨ a.heap.size ≤ p.block) (u : Value) : Keeps S a (b.setCell p u) :=
  h.trans (T := fun n => n = p.block) ⟨rfl, rfl, rfl, by simp [World.setCell], fun k _ hk => Below.heap_setCell _ _ _ _ hk⟩ fun n hn e => by
    rcases hp with hp | hp
    · exact e ▸ hp
    · omega
theorem Keeps.grown {S : Nat → Prop} {a b c : World} {row : Option Nat} (h : Keeps S a b) (hg : b.grownBy c row) (hr : ∀ k, row = some k → S k ∨ a.heap.size ≤ k) : Keeps S a c :=
  h.trans (T := fun n => row = some n) ⟨hg.os, hg.tape, hg.output, hg.size, fun k hk hS => hg.block k hk fun e => hS e.symm⟩ fun n hn e => by
    rcases hr n e with h | h
    · exact h
    · omega
theorem Keeps.below {S : Nat → Prop} {a w w' : World} {B : Nat} (hB : Below B a w) (h : Keeps S w w') (hS : ∀ k, S k → B ≤ k) (hw : B ≤ w.heap.size) : Below B a w' :=
  hB.trans ⟨h.os, h.tape, h.output, h.size, fun k hk => h.block k (by omega) fun hs => by have := hS k hs; omega⟩
theorem Keeps.cell {S : Nat → Prop} {w w' : World} (h : Keeps S w w') {p : Addr} (hp : p.block < w.heap.size) (hn : ¬ S p.block) : w'.cell? p = w.cell? p := World.cell?_of_block (h.block _ hp hn)
theorem Keeps.frozen {S : Nat → Prop} {w w' : World} (h : Keeps S w w') {p : Addr} (hp : p.block < w.heap.size) (hn : ¬ S p.block) : w'.frozen? p = w.frozen? p := World.frozen?_of_block (h.block _ hp hn)
theorem Keeps.row {S : Nat → Prop} {w w' : World} (h : Keeps S w w') {base : Nat} {e : TypeId} {size : Nat} {v : Value} {n : Nat} {xs : List Value} (hr : w.ownsRow base e size v n xs) (hS : ∀ k, v.ownBlock = some k → ¬ S k) : w'.ownsRow base e size v n xs := by
  refine ⟨hr.1, ?_⟩
  rcases hr.2 with hn | ⟨g, cap, cur, rfl, hb, hgg, rest⟩
  · exact .inl hn
  · exact .inr ⟨g, cap, cur, rfl, hb, by rw [h.block g (Array.getElem?_eq_some_iff.1 hgg).1 (hS g rfl)]; exact hgg, rest⟩
theorem keeps_alloc (w : World) (o : Obj) : Keeps nobody w (w.alloc o) := (Keeps.refl _ _).alloc o
theorem grown_of_keeps {w w' : World} (h : Keeps nobody w w') : w.grownBy w' none := ⟨h.os, h.tape, h.output, h.size, fun k hk _ => h.block k hk id⟩
theorem keeps_of_grown {w w' : World} (h : w.grownBy w' none) : Keeps nobody w w' := (Keeps.refl _ _).grown h (fun _ h => by cases h)
/-- A new world of this call's: nothing of what there is turns. -/
theorem keeps_of_below {w w' : World} (h : Below w.heap.size w w') : Keeps nobody w w' := ⟨h.os, h.tape, h.output, h.size, fun k hk _ => h.block k hk⟩
end Go.Proofs.Ytendndokgpppiaa
