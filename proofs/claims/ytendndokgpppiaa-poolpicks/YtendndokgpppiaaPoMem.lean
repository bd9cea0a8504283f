/-
  Package pool: a Pool in memory, with its connections; no program: what is picked, what is there.
-/
import Derived.Test.YtendndokgpppiaaCnNew
import Derived.Test.YtendndokgpppiaaCnTick
import Derived.Test.YtendndokgpppiaaGInts
namespace Go.Proofs.Ytendndokgpppiaa
open Go.RowKit
attribute [local irreducible] cnT cnW

/-- A connection's line: its number, where it lies. -/
def lineR : Recs (Nat × Nat) := ⟨fun x => [.int .i64 (x.1 : Int), .pointer (some ⟨x.2, 0, none⟩)], 2, by decide, fun _ => rfl, fun p v hv => by
  simp at hv
  rcases hv with rfl | rfl <;> rfl⟩
theorem infoLine : (Try.prog.info? 47).map (fun i => (i.zero, i.size, i.bytes)) = some (some (.agg #[.int .i64 0, .pointer none]), 2, 16) := by kernel_rfl
/-- A Pool: where it lies; how its connections are; how many may be; the last number; whether one is dialled; the list's header; its connections by their numbers. -/
structure Po where
  g : Nat
  every : Nat
  wait : Nat
  most : Nat
  last : Nat
  dialing : Bool
  x : Option Addr
  n : Nat
  c : Nat
  L : List (Nat × Cn)
def lsOf (L : List (Nat × Cn)) : List (Nat × Nat) := L.map fun p => (p.1, p.2.g)
def poC (p : Po) : Array Value := #[.int .i64 100, .int .i64 1, .int .i64 (p.every : Int), .int .i64 (p.wait : Int), .int .i64 (p.most : Int), .int .i64 (p.last : Int), .bool p.dialing, .slice p.x p.n p.c]
abbrev poT (p : Po) : Thing := recT p.g (poC p) 45
abbrev lnT (p : Po) : Thing := lineR.rowT 47 (.slice p.x p.n p.c) (lsOf p.L)
/-- A Pool and its connections, and what there is besides. -/
def poTs (p : Po) (ts : List Thing) : List Thing := poT p :: lnT p :: (p.L.map (fun q => cnT q.2) ++ ts)
structure PFit (p : Po) : Prop where
  every1 : 1 ≤ p.every
  every2 : p.every ≤ 9223372036854775807
  wait1 : 1 ≤ p.wait
  wait2 : p.wait ≤ 9223372036854775807
  most1 : 1 ≤ p.most
  most2 : p.most ≤ 3
  last : p.last ≤ 1000000
  len : p.L.length ≤ 1000000
section
variable {W w : World} {p : Po} {ts : List Thing}
theorem lsOf_length (L : List (Nat × Cn)) : (lsOf L).length = L.length := by simp [lsOf]
theorem Hold.po (H : Hold W w (poTs p ts)) : w.cell? ⟨p.g, 0, none⟩ = some (.int .i64 100) ∧ w.cell? ⟨p.g, 1, none⟩ = some (.int .i64 1) ∧ w.cell? ⟨p.g, 2, none⟩ = some (.int .i64 (p.every : Int)) ∧ w.cell? ⟨p.g, 3, none⟩ = some (.int .i64 (p.wait : Int)) ∧ w.cell? ⟨p.g, 4, none⟩ = some (.int .i64 (p.most : Int)) ∧ w.cell? ⟨p.g, 5, none⟩ = some (.int .i64 (p.last : Int)) ∧ w.cell? ⟨p.g, 6, none⟩ = some (.bool p.dialing) ∧ w.cell? ⟨p.g, 7, none⟩ = some (.slice p.x p.n p.c) ∧ (∀ n, w.frozen? ⟨p.g, n, none⟩ = false) ∧ p.g < w.heap.size := by
  have h := H.cellsOf (g := p.g) (cs := poC p) (T := 45) (.head _)
  exact ⟨h.1 0, h.1 1, h.1 2, h.1 3, h.1 4, h.1 5, h.1 6, h.1 7, h.2.1, h.2.2⟩
theorem Hold.ln (H : Hold W w (poTs p ts)) : lineR.Own 47 0 w (.slice p.x p.n p.c) (lsOf p.L) := H.inv (lnT p) (.tail _ (.head _))
theorem Hold.len (H : Hold W w (poTs p ts)) : p.n = p.L.length := by
  have := own_len H.ln
  rwa [lsOf_length] at this
/-- The line at a place. -/
theorem Hold.at (H : Hold W w (poTs p ts)) (j : Nat) (k : Nat) (s : Cn) (hj : p.L[j]? = some (k, s)) : ∃ rb, p.x = some ⟨rb, 0, none⟩ ∧ rb < w.heap.size ∧ p.L.length ≤ p.c ∧ p.c ≤ maxLen ∧ w.cell? ⟨rb, j * 2, none⟩ = some (.int .i64 (k : Int)) ∧ w.cell? ⟨rb, j * 2 + 1, none⟩ = some (.pointer (some ⟨s.g, 0, none⟩)) := by
  have ho := H.ln
  have hl : j < p.L.length := (List.getElem?_eq_some_iff.1 hj).1
  obtain ⟨rb, hx, _, hlt, hc, hm⟩ := own_some ho (by rw [lsOf_length]; omega)
  rw [lsOf_length] at hc
  have hj2 : (lsOf p.L)[j]? = some (k, s.g) := by simp [lsOf, hj]
  rw [hx] at ho
  exact ⟨rb, hx, hlt, hc, hm, Recs.own_cell ho j 0 _ _ hj2 rfl, Recs.own_cell ho j 1 _ _ hj2 rfl⟩
theorem Hold.cn (H : Hold W w (poTs p ts)) {k : Nat} {s : Cn} (hm : (k, s) ∈ p.L) : (cnT s).inv w := by
  refine H.inv (cnT s) (.tail _ (.tail _ (List.mem_append.2 (.inl ?_))))
  exact List.mem_map.2 ⟨_, hm, rfl⟩
end
end Go.Proofs.Ytendndokgpppiaa
