/-
  Parts and slices in memory.
-/
import Derived.Test.YtocpjajafocdaaaMSpec
import Derived.Test.YtocpjajafocdaaaGRow
import Derived.Test.YtocpjajafocdaaaGDoor
namespace Go.Proofs.Ytocpjajafocdaaa
open Go.RowKit

def ptR : Recs Pt := ⟨fun p => [.int .i64 p.id, .int .i64 p.left, .int .i64 p.pend, .bool p.fin], 4, by decide, fun _ => rfl, fun p v hv => by
  simp at hv
  rcases hv with rfl | rfl | rfl | rfl <;> rfl⟩
def slR : Recs Sl := ⟨fun s => [.int .i64 s.id, .int .i64 s.n, .bool s.fin], 3, by decide, fun _ => rfl, fun p v hv => by
  simp at hv
  rcases hv with rfl | rfl | rfl <;> rfl⟩
abbrev ptV (p : Pt) : Value := .agg #[.int .i64 p.id, .int .i64 p.left, .int .i64 p.pend, .bool p.fin]
theorem infoPt : (Try.prog.info? 26).map (fun i => (i.zero, i.size, i.bytes)) = some (some (.agg #[.int .i64 0, .int .i64 0, .int .i64 0, .bool false]), 4, 32) := by kernel_rfl
theorem infoSl : (Try.prog.info? 34).map (fun i => (i.zero, i.size, i.bytes)) = some (some (.agg #[.int .i64 0, .int .i64 0, .bool false]), 3, 24) := by kernel_rfl
theorem infoRt : (Try.prog.info? 28).map (fun i => (i.zero, i.size, i.bytes)) = some (some (.agg #[.int .i64 0, .int .i64 0, .int .i64 0, .bool false]), 4, 32) := by kernel_rfl
theorem infoRs : (Try.prog.info? 35).map (fun i => (i.zero, i.size, i.bytes)) = some (some (.agg #[.int .i64 0, .int .i64 0, .bool false]), 3, 24) := by kernel_rfl
/-- Parts whose numbers may be, of few bytes each. -/
def Fit (p : Pt) : Prop := p.left ≤ 9223372036854775807 ∧ p.pend ≤ 4000
/-- The cells of a part, of a slice, one by one. -/
theorem pt_cells {w : World} {b o : Nat} {p : Pt} (h : ∀ j v, (ptR.of p)[j]? = some v → w.cell? ⟨b, o + j, none⟩ = some v) : w.cell? ⟨b, o, none⟩ = some (.int .i64 p.id) ∧ w.cell? ⟨b, o + 1, none⟩ = some (.int .i64 p.left) ∧ w.cell? ⟨b, o + 2, none⟩ = some (.int .i64 p.pend) ∧ w.cell? ⟨b, o + 3, none⟩ = some (.bool p.fin) :=
  ⟨h 0 _ rfl, h 1 _ rfl, h 2 _ rfl, h 3 _ rfl⟩
theorem sl_cells {w : World} {b o : Nat} {s : Sl} (h : ∀ j v, (slR.of s)[j]? = some v → w.cell? ⟨b, o + j, none⟩ = some v) : w.cell? ⟨b, o, none⟩ = some (.int .i64 s.id) ∧ w.cell? ⟨b, o + 1, none⟩ = some (.int .i64 s.n) ∧ w.cell? ⟨b, o + 2, none⟩ = some (.bool s.fin) :=
  ⟨h 0 _ rfl, h 1 _ rfl, h 2 _ rfl⟩
/-- Where a list of parts lies, of slices, as a later world has it. -/
def AtP (w : World) (b off : Nat) (l : List Pt) : Prop := ∀ i p, l[i]? = some p → w.cell? ⟨b, off + i * 4, none⟩ = some (.int .i64 p.id) ∧ w.cell? ⟨b, off + i * 4 + 1, none⟩ = some (.int .i64 p.left) ∧ w.cell? ⟨b, off + i * 4 + 2, none⟩ = some (.int .i64 p.pend) ∧ w.cell? ⟨b, off + i * 4 + 3, none⟩ = some (.bool p.fin)
def AtS (w : World) (b off : Nat) (l : List Sl) : Prop := ∀ i s, l[i]? = some s → w.cell? ⟨b, off + i * 3, none⟩ = some (.int .i64 s.id) ∧ w.cell? ⟨b, off + i * 3 + 1, none⟩ = some (.int .i64 s.n) ∧ w.cell? ⟨b, off + i * 3 + 2, none⟩ = some (.bool s.fin)
theorem lies_atP {w : World} {a : Option Addr} {l : List Pt} {S : Nat → Prop} (h : ptR.Lies w a l S) : ∃ b off, (l = [] ∨ a = some ⟨b, off, none⟩) ∧ ∀ w', Keeps S w w' → AtP w' b off l := by
  obtain ⟨b, off, h1, h2⟩ := h.at
  refine ⟨b, off, h1, fun w' hk i p hi => pt_cells (o := off + i * 4) fun j v hj => ?_⟩
  have := h2 w' hk i p hi j v hj
  rwa [← Nat.add_assoc] at this
theorem lies_atS {w : World} {a : Option Addr} {l : List Sl} {S : Nat → Prop} (h : slR.Lies w a l S) : ∃ b off, (l = [] ∨ a = some ⟨b, off, none⟩) ∧ ∀ w', Keeps S w w' → AtS w' b off l := by
  obtain ⟨b, off, h1, h2⟩ := h.at
  refine ⟨b, off, h1, fun w' hk i p hi => sl_cells (o := off + i * 3) fun j v hj => ?_⟩
  have := h2 w' hk i p hi j v hj
  rwa [← Nat.add_assoc] at this
theorem own_slice {w : World} {e : TypeId} {B rb n c : Nat} {l : List Sl} (h : slR.Own e B w (.slice (some ⟨rb, 0, none⟩) n c) l) (i : Nat) (s : Sl) (hi : l[i]? = some s) : w.cell? ⟨rb, i * 3, none⟩ = some (.int .i64 s.id) ∧ w.cell? ⟨rb, i * 3 + 1, none⟩ = some (.int .i64 s.n) ∧ w.cell? ⟨rb, i * 3 + 2, none⟩ = some (.bool s.fin) :=
  sl_cells (o := i * 3) fun j v hj => Recs.own_cell h i j s v hi hj
theorem own_part {w : World} {e : TypeId} {B rb n c : Nat} {l : List Pt} (h : ptR.Own e B w (.slice (some ⟨rb, 0, none⟩) n c) l) (i : Nat) (s : Pt) (hi : l[i]? = some s) : w.cell? ⟨rb, i * 4, none⟩ = some (.int .i64 s.id) ∧ w.cell? ⟨rb, i * 4 + 1, none⟩ = some (.int .i64 s.left) ∧ w.cell? ⟨rb, i * 4 + 2, none⟩ = some (.int .i64 s.pend) ∧ w.cell? ⟨rb, i * 4 + 3, none⟩ = some (.bool s.fin) :=
  pt_cells (o := i * 4) fun j v hj => Recs.own_cell h i j s v hi hj
/-- A list of slices that a call has told, as a thing. -/
abbrev slT (x : Option Addr) (n c : Nat) (l : List Sl) : Thing := slR.rowT 34 (.slice x n c) l
/-- A slice more. -/
theorem sl_app {W w : World} {ts us : List Thing} {x : Option Addr} {n c : Nat} {l : List Sl} (h : Hold W w (ts ++ slT x n c l :: us)) (hl : l.length ≤ 900000000) (s : Sl) :
    ∃ x' n' c' w', (Builtin.append_ #[31, 31] 31 #[.slice x n c, .slice (some ⟨w.heap.size, 0, none⟩) 1 1]).run Try.prog (w.alloc (.cells #[.int .i64 s.id, .int .i64 s.n, .bool s.fin] 34)) = .ok (.slice x' n' c') w' ∧ Hid (n' = (l ++ [s]).length ∧ Hold W w' (ts ++ slT x' n' c' (l ++ [s]) :: us)) :=
  Recs.app_lit 31 31 34 _ 24 Try.underlying31 infoSl rfl h s _ rfl hl (by decide)
abbrev rsT (x : Option Addr) (n c : Nat) (l : List Sl) : Thing := slR.rowT 35 (.slice x n c) l
theorem rs_app {W w : World} {ts us : List Thing} {x : Option Addr} {n c : Nat} {l : List Sl} (h : Hold W w (ts ++ rsT x n c l :: us)) (hl : l.length ≤ 900000000) (s : Sl) :
    ∃ x' n' c' w', (Builtin.append_ #[29, 29] 29 #[.slice x n c, .slice (some ⟨w.heap.size, 0, none⟩) 1 1]).run Try.prog (w.alloc (.cells #[.int .i64 s.id, .int .i64 s.n, .bool s.fin] 35)) = .ok (.slice x' n' c') w' ∧ Hid (n' = (l ++ [s]).length ∧ Hold W w' (ts ++ rsT x' n' c' (l ++ [s]) :: us)) :=
  Recs.app_lit 29 29 35 _ 24 Try.underlying29 infoRs rfl h s _ rfl hl (by decide)
abbrev rtT (x : Option Addr) (n c : Nat) (l : List Pt) : Thing := ptR.rowT 28 (.slice x n c) l
theorem rt_app {W w : World} {ts us : List Thing} {x : Option Addr} {n c : Nat} {l : List Pt} (h : Hold W w (ts ++ rtT x n c l :: us)) (hl : l.length ≤ 900000000) (s : Pt) :
    ∃ x' n' c' w', (Builtin.append_ #[27, 27] 27 #[.slice x n c, .slice (some ⟨w.heap.size, 0, none⟩) 1 1]).run Try.prog (w.alloc (.cells #[.int .i64 s.id, .int .i64 s.left, .int .i64 s.pend, .bool s.fin] 28)) = .ok (.slice x' n' c') w' ∧ Hid (n' = (l ++ [s]).length ∧ Hold W w' (ts ++ rtT x' n' c' (l ++ [s]) :: us)) :=
  Recs.app_lit 27 27 28 _ 32 Try.underlying27 infoRt rfl h s _ rfl hl (by decide)
theorem hold_start (w : World) : Hold w w [] := hold_nil (Below.refl _ w)
/-- The parts' box within a round. -/
abbrev ptT (g : Nat) (i pl pd : Int) (f : Bool) : Thing := recT g #[.int .i64 i, .int .i64 pl, .int .i64 pd, .bool f] 26
abbrev rpT (g : Nat) (i pl pd : Int) (f : Bool) : Thing := recT g #[.int .i64 i, .int .i64 pl, .int .i64 pd, .bool f] 28
theorem min_four (a b c d : Int) (ts : Array TypeId) (t : TypeId) (W : World) : (Builtin.min_ ts t #[.int .i64 a, .int .i64 b, .int .i64 c, .int .i64 d]).run Try.prog W = .ok (.int .i64 (min (min (min a b) c) d)) W := by
  have e : ∀ x y : Int, (if y < x then y else x) = min x y := fun x y => by split <;> omega
  simp [Builtin.min_, Builtin.min2, e]
theorem min_three (a b c : Int) (ts : Array TypeId) (t : TypeId) (W : World) : (Builtin.min_ ts t #[.int .i64 a, .int .i64 b, .int .i64 c]).run Try.prog W = .ok (.int .i64 (min (min a b) c)) W := by
  have e : ∀ x y : Int, (if y < x then y else x) = min x y := fun x y => by split <;> omega
  simp [Builtin.min_, Builtin.min2, e]
theorem max_two (a b : Int) (ts : Array TypeId) (t : TypeId) (W : World) : (Builtin.max_ ts t #[.int .i64 a, .int .i64 b]).run Try.prog W = .ok (.int .i64 (max a b)) W := by
  rw [run_max_int2]
  have e : (if b > a then b else a) = max a b := by split <;> omega
  rw [e]
end Go.Proofs.Ytocpjajafocdaaa
