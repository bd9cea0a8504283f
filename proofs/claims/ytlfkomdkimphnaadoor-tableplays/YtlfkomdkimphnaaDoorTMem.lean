/-
  Fields as data; what a call may write; tables in memory.
-/
import Derived.Test.YtlfkomdkimphnaaDoorRows
import Derived.WalkKit
import Derived.ProofKit
import Derived.OpenShut
import Derived.WalkSpells
import Derived.WalkLawsBesides
import Derived.Outline
import Derived.Deep.LoopGhost
import Derived.Deep.Heap
import Derived.Laws.Externs
import Derived.OwnWalk
import Derived.Laws.AppendOwn
import Derived.Laws.OwnMore
import Derived.Laws.IdiomCopy
import Derived.Deep.RegionLaw
import Derived.Deep.MidRow
import Derived.Lib.Overlaps
import Derived.Lib.AppendZerosOnto
import Derived.Laws.Cover3
namespace Go.Proofs.YtlfkomdkimphnaaDoor
open Go.RowKit

theorem eql_slice_nil (w : World) : (binOp .eql 33 (.slice none 0 0) (.slice none 0 0)).run Tryd.prog w = .ok (.bool true) w := by
  simp only [binOp]
  simp [run_equal_slice_nil w 33 _ none 0 0 Tryd.underlying33]
theorem eql_slice_some (a : Addr) (n c : Nat) (w : World) : (binOp .eql 33 (.slice (some a) n c) (.slice none 0 0)).run Tryd.prog w = .ok (.bool false) w := by
  simp only [binOp]
  simp [run_equal_slice_nil w 33 _ (some a) n c Tryd.underlying33]
theorem hid {p : Prop} (h : p) : Hid p := h
/-- A header: its name, its value. -/
abbrev Fld : Type := ByteArray × ByteArray
abbrev fval (f : Fld) : Value := .agg #[.string f.1, .string f.2]
def fpair (f : Fld) : List Value := [.string f.1, .string f.2]
def fcells (l : List Fld) : List Value := l.flatMap fpair
theorem fcells_nil : fcells [] = [] := rfl
theorem fcells_cons (f : Fld) (l : List Fld) : fcells (f :: l) = .string f.1 :: .string f.2 :: fcells l := rfl
theorem fcells_append (l m : List Fld) : fcells (l ++ m) = fcells l ++ fcells m := by simp [fcells]
theorem fcells_length (l : List Fld) : (fcells l).length = l.length * 2 := by
  induction l with
  | nil => rfl
  | cons f l ih => rw [fcells_cons]; simp [ih]; omega
theorem fcells_at0 (l : List Fld) (i : Nat) (f : Fld) (h : l[i]? = some f) : (fcells l)[i * 2]? = some (.string f.1) := by
  induction l generalizing i with
  | nil => simp at h
  | cons g l ih =>
    cases i with
    | zero => simp at h; subst h; rfl
    | succ i => rw [fcells_cons, show (i + 1) * 2 = i * 2 + 1 + 1 by omega]; simpa using ih i (by simpa using h)
theorem fcells_at1 (l : List Fld) (i : Nat) (f : Fld) (h : l[i]? = some f) : (fcells l)[i * 2 + 1]? = some (.string f.2) := by
  induction l generalizing i with
  | nil => simp at h
  | cons g l ih =>
    cases i with
    | zero => simp at h; subst h; rfl
    | succ i => rw [fcells_cons, show (i + 1) * 2 + 1 = i * 2 + 1 + 1 + 1 by omega]; simpa using ih i (by simpa using h)
theorem fcells_one (l : List Fld) : ∀ v ∈ fcells l, v.oneCell' = true := by
  induction l with
  | nil => simp [fcells]
  | cons f l ih =>
    intro v hv
    rw [fcells_cons] at hv
    simp at hv
    rcases hv with rfl | rfl | hv
    · rfl
    · rfl
    · exact ih v hv
theorem fcells_take (l : List Fld) (k : Nat) : (fcells l).take (k * 2) = fcells (l.take k) := by
  induction l generalizing k with
  | nil => simp [fcells]
  | cons f l ih =>
    cases k with
    | zero => simp [fcells]
    | succ k =>
      rw [fcells_cons, show (k + 1) * 2 = k * 2 + 1 + 1 by omega]
      simp [fcells_cons, ih k]

/-- What is there behind a call: nothing but the blocks of S, and new ones, has turned. -/
structure Keeps (S : Nat → Prop) (w w' : World) : Prop where
  os : w'.os = w.os
  tape : w'.tape = w.tape
  output : w'.output = w.output
  size : w.heap.size ≤ w'.heap.size
  block : ∀ k, k < w.heap.size → ¬ S k → w'.heap[k]? = w.heap[k]?
abbrev nobody : Nat → Prop := fun _ => False
theorem Keeps.refl (S : Nat → Prop) (w : World) : Keeps S w w := ⟨rfl, rfl, rfl, Nat.le_refl _, fun _ _ _ => rfl⟩
theorem Keeps.trans {S T : Nat → Prop} {a b c : World} (h : Keeps S a b) (k : Keeps T b c) (hT : ∀ n, n < a.heap.size → T n → S n) : Keeps S a c :=
  ⟨k.os.trans h.os, k.tape.trans h.tape, k.output.trans h.output, Nat.le_trans h.size k.size, fun n hn hS => (k.block n (Nat.lt_of_lt_of_le hn h.size) fun hk => hS (hT n hn hk)).trans (h.block n hn hS)⟩
theorem Keeps.mono {S T : Nat → Prop} {a b : World} (h : Keeps S a b) (hT : ∀ n, n < a.heap.size → S n → T n) : Keeps T a b :=
  ⟨h.os, h.tape, h.output, h.size, fun n hn hS => h.block n hn fun hk => hS (hT n hn hk)⟩
theorem Keeps.then {S : Nat → Prop} {a b c : World} (h : Keeps S a b) (k : Keeps nobody b c) : Keeps S a c := h.trans k fun _ _ h => h.elim
theorem Keeps.drew {S : Nat → Prop} {a b : World} (h : Keeps S a b) : Keeps S a b.drew := ⟨h.os, h.tape, h.output, h.size, h.block⟩
theorem Keeps.alloc {S : Nat → Prop} {a b : World} (h : Keeps S a b) (o : Obj) : Keeps S a (b.alloc o) :=
  h.then ⟨rfl, rfl, rfl, by simp, fun k hk _ => Below.heap_alloc _ _ _ hk⟩
theorem Keeps.setCell {S : Nat → Prop} {a b : World} (h : Keeps S a b) {p : Addr} (hp : S p.block ∨ a.heap.size ≤ p.block) (u : Value) : Keeps S a (b.setCell p u) :=
  h.trans (T := fun n => n = p.block) ⟨rfl, rfl, rfl, by simp [World.setCell], fun k _ hk => Below.heap_setCell _ _ _ _ hk⟩ fun n hn e => by
    rcases hp with hp | hp
    · exact e ▸ hp
    · omega
theorem Keeps.grown {S : Nat → Prop} {a b c : World} {row : Option Nat} (h : Keeps S a b) (hg : b.grownBy c row) (hr : ∀ k, row = some k → S k ∨ a.heap.size ≤ k) : Keeps S a c :=
  h.trans (T := fun n => row = some n) ⟨hg.os, hg.tape, hg.output, hg.size, fun k hk hS => hg.block k hk fun e => hS e.symm⟩ fun n hn e => by
    rcases hr n e with h | h
    · exact h
    · omega
theorem Keeps.below {S : Nat → Prop} {a w w' : World} {B : Nat} (hB : Below B a w) (h : Keeps S w w') (hS : ∀ k, S k → B ≤ k) (hw : B ≤ w.heap.size) : Below B a w' :=
  hB.trans ⟨h.os, h.tape, h.output, h.size, fun k hk => h.block k (by omega) fun hs => by have := hS k hs; omega⟩
theorem Keeps.cell {S : Nat → Prop} {w w' : World} (h : Keeps S w w') {p : Addr} (hp : p.block < w.heap.size) (hn : ¬ S p.block) : w'.cell? p = w.cell? p := World.cell?_of_block (h.block _ hp hn)
theorem Keeps.frozen {S : Nat → Prop} {w w' : World} (h : Keeps S w w') {p : Addr} (hp : p.block < w.heap.size) (hn : ¬ S p.block) : w'.frozen? p = w.frozen? p := World.frozen?_of_block (h.block _ hp hn)
theorem Keeps.row {S : Nat → Prop} {w w' : World} (h : Keeps S w w') {base : Nat} {e : TypeId} {size : Nat} {v : Value} {n : Nat} {xs : List Value} (hr : w.ownsRow base e size v n xs) (hS : ∀ k, v.ownBlock = some k → ¬ S k) : w'.ownsRow base e size v n xs := by
  refine ⟨hr.1, ?_⟩
  rcases hr.2 with hn | ⟨g, cap, cur, rfl, hb, hgg, rest⟩
  · exact .inl hn
  · exact .inr ⟨g, cap, cur, rfl, hb, by rw [h.block g (Array.getElem?_eq_some_iff.1 hgg).1 (hS g rfl)]; exact hgg, rest⟩
theorem keeps_alloc (w : World) (o : Obj) : Keeps nobody w (w.alloc o) := (Keeps.refl _ _).alloc o
theorem grown_of_keeps {w w' : World} (h : Keeps nobody w w') : w.grownBy w' none := ⟨h.os, h.tape, h.output, h.size, fun k hk _ => h.block k hk id⟩
theorem keeps_of_grown {w w' : World} (h : w.grownBy w' none) : Keeps nobody w w' := (Keeps.refl _ _).grown h (fun _ h => by cases h)

/-- The blocks that a table has. -/
def tfoot (g : Nat) (v : Value) (k : Nat) : Prop := k = g ∨ v.ownBlock = some k

/-- What a header costs; what a list costs. -/
def cost (f : Fld) : Nat := f.1.size + f.2.size + 32
def sum : List Fld → Nat
  | [] => 0
  | f :: l => cost f + sum l
theorem sum_length (l : List Fld) : 32 * l.length ≤ sum l := by
  induction l with
  | nil => simp
  | cons f l ih => simp only [sum, List.length_cons]; unfold cost; omega
theorem sum_append (l m : List Fld) : sum (l ++ m) = sum l + sum m := by
  induction l with
  | nil => simp [sum]
  | cons f l ih => simp only [sum, List.cons_append, ih]; omega
theorem sum_mem (l : List Fld) (f : Fld) (h : f ∈ l) : cost f ≤ sum l := by
  induction l with
  | nil => simp at h
  | cons g l ih =>
    simp only [sum]
    rcases List.mem_cons.1 h with rfl | h
    · omega
    · have := ih h; omega

/-- A table in memory. -/
structure Tab (w : World) (g : Nat) (v : Value) (size : Nat) (l : List Fld) : Prop where
  blk : w.heap[g]? = some (.cells #[.bool true, .int .i64 (size : Int), v] 61 (0, 0))
  row : w.ownsRow 0 28 2 v l.length (fcells l)
  fits : sum l ≤ 512
  most : size ≤ 512
theorem Tab.lt {w : World} {g : Nat} {v : Value} {size : Nat} {l : List Fld} (h : Tab w g v size l) : g < w.heap.size := (Array.getElem?_eq_some_iff.1 h.blk).1
theorem Tab.rowlt {w : World} {g : Nat} {v : Value} {size : Nat} {l : List Fld} (h : Tab w g v size l) : ∀ k, v.ownBlock = some k → k < w.heap.size := fun k hk => (h.row.lt k hk).2
theorem Tab.footlt {w : World} {g : Nat} {v : Value} {size : Nat} {l : List Fld} (h : Tab w g v size l) : ∀ k, tfoot g v k → k < w.heap.size := by
  rintro k (rfl | hk)
  · exact h.lt
  · exact h.rowlt k hk
theorem Tab.cells {w : World} {g : Nat} {v : Value} {size : Nat} {l : List Fld} (h : Tab w g v size l) : w.cell? ⟨g, 0, none⟩ = some (.bool true) ∧ w.cell? ⟨g, 1, none⟩ = some (.int .i64 (size : Int)) ∧ w.cell? ⟨g, 2, none⟩ = some v ∧ ∀ o, w.frozen? ⟨g, o, none⟩ = false := by
  refine ⟨?_, ?_, ?_, fun o => ?_⟩ <;> simp [World.cell?, World.frozen?, h.blk]
theorem Tab.apart {w : World} {g : Nat} {v : Value} {size : Nat} {l : List Fld} (h : Tab w g v size l) : v.ownBlock ≠ some g := by
  intro e
  rcases h.row.2 with ⟨rfl, _⟩ | ⟨rb, cap, cur, rfl, _, hg, _⟩
  · simp [Value.ownBlock] at e
  · simp [Value.ownBlock] at e
    subst e
    rw [h.blk] at hg
    simp at hg
theorem Tab.keeps {S : Nat → Prop} {w w' : World} {g : Nat} {v : Value} {size : Nat} {l : List Fld} (h : Tab w g v size l) (hk : Keeps S w w') (hS : ∀ k, tfoot g v k → ¬ S k) : Tab w' g v size l :=
  ⟨by rw [hk.block g h.lt (hS g (.inl rfl))]; exact h.blk, hk.row h.row fun k e => hS k (.inr e), h.fits, h.most⟩
theorem Tab.quiet {w w' : World} {g : Nat} {v : Value} {size : Nat} {l : List Fld} (h : Tab w g v size l) (hk : Keeps nobody w w') : Tab w' g v size l := h.keeps hk fun _ _ => id
theorem Tab.alloc {w : World} {g : Nat} {v : Value} {size : Nat} {l : List Fld} (h : Tab w g v size l) (o : Obj) : Tab (w.alloc o) g v size l := h.quiet (keeps_alloc w o)
theorem Tab.length {w : World} {g : Nat} {v : Value} {size : Nat} {l : List Fld} (h : Tab w g v size l) : l.length ≤ 16 := by
  have := sum_length l; have := h.fits; omega

/-- The longest head that takes no more than the room. -/
def keep (room : Int) : List Fld → List Fld
  | [] => []
  | f :: l => if room - cost f < 0 then [] else f :: keep (room - cost f) l
theorem keep_sum (l : List Fld) : ∀ room : Int, keep room l = [] ∨ (sum (keep room l) : Int) ≤ room := by
  induction l with
  | nil => intro room; exact .inl rfl
  | cons f l ih =>
    intro room
    unfold keep
    split
    · exact .inl rfl
    · right
      simp only [sum]
      rcases ih (room - cost f) with h | h
      · rw [h]; simp only [sum]; omega
      · omega
theorem keep_fits (l : List Fld) (room : Nat) : sum (keep room l) ≤ room := by
  rcases keep_sum l room with h | h
  · rw [h]; simp [sum]
  · omega
theorem keep_neg (l : List Fld) (room : Int) (h : room < 0) : keep room l = [] := by
  cases l with
  | nil => rfl
  | cons f l => unfold keep; rw [if_pos (by unfold cost; omega)]
theorem keep_prefix (l : List Fld) : ∀ room : Int, keep room l = l.take (keep room l).length := by
  induction l with
  | nil => intro room; rfl
  | cons f l ih =>
    intro room
    unfold keep
    split
    · rfl
    · simp only [List.length_cons, List.take_succ_cons]
      rw [← ih]
theorem keep_length (l : List Fld) (room : Int) : (keep room l).length ≤ l.length := by
  have := congrArg List.length (keep_prefix l room)
  rw [List.length_take] at this
  omega
theorem keep_all (l : List Fld) : ∀ room : Int, (sum l : Int) ≤ room → keep room l = l := by
  induction l with
  | nil => intro room _; rfl
  | cons f l ih =>
    intro room h
    simp only [sum] at h
    unfold keep
    rw [if_neg (by omega), ih _ (by omega)]
/-- What Add makes of the list. -/
def addL (size : Nat) (f : Fld) (l : List Fld) : List Fld := if cost f ≤ size then f :: keep ((size : Int) - cost f) l else []
theorem addL_fits (size : Nat) (f : Fld) (l : List Fld) : sum (addL size f l) ≤ size := by
  unfold addL
  split
  · rename_i h
    simp only [sum]
    rcases keep_sum l ((size : Int) - cost f) with h' | h'
    · rw [h']; simp only [sum]; omega
    · omega
  · simp [sum]
end Go.Proofs.YtlfkomdkimphnaaDoor
