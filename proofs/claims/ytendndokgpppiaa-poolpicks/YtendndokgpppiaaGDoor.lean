/-
  For every row: what is asked of the program, sizes by the reach.
-/
import Derived.Test.YtendndokgpppiaaGMem
import Derived.LaidMore
import Derived.LaidHandle
import Derived.Carry
import Derived.SizedLaws
import Derived.Deep.Slices
import Derived.HandedShaped
import Derived.Deep.DeepHandedRow
namespace Go.Proofs.Ytendndokgpppiaa
open Go.ChangeShapes Go.WideShapes Go.ChangeAt Go.RowKit

theorem own : ownKnob Try.prog.godebug = none := by kernel_rfl
theorem laidOut : laidOutB Try.prog = true := by kernel_rfl
theorem cellsStr : Try.prog.cellsOf 9 = 1 := by kernel_rfl
theorem all_mem {l : List Nat} (h : l.all (· ≤ reachBytes) = true) (n : Nat) (hn : n ∈ l) : n ≤ 140737488355328 := by
  have := List.all_eq_true.1 h n hn
  have h2 : n ≤ reachBytes := by simpa using this
  have h3 : reachBytes ≤ 140737488355328 := by decide
  omega
theorem weights_all_mem {H : Type} {P : Program} {e : TypeId} {d : DataW H} {ds : List (DataW H)} (h : d ∈ ds) : ∀ n ∈ d.weights P e, n ∈ DataW.weightsAll P e ds := by
  induction ds with
  | nil => simp at h
  | cons x ds ih =>
    intro n hn
    simp only [DataW.weightsAll, List.mem_append]
    rcases List.mem_cons.1 h with rfl | h
    · exact .inl hn
    · exact .inr (ih h n hn)
theorem addr_of_cell {w : World} {a : Addr} {v : Value} {j : Nat} (h : w.cell? (a.add j) = some v) (h0 : w.cell? (a.add 0) ≠ none) : ∃ b off, a = ⟨b, off, none⟩ ∧ b < w.heap.size := by
  obtain ⟨b, off, spot⟩ := a
  cases spot with
  | none =>
    refine ⟨b, off, rfl, ?_⟩
    rw [Addr.add_mid] at h
    exact World.block_lt_of_cell? w ⟨b, off + j, none⟩ h
  | some s =>
    exfalso
    have e : Addr.add ⟨b, off, some s⟩ 0 = ⟨b, off, some s⟩ := rfl
    rw [e] at h0
    apply h0
    unfold World.cell?
    split <;> simp
theorem below_of_keeps {w w' : World} (h : Keeps nobody w w') : Below w.heap.size w w' := ⟨h.os, h.tape, h.output, h.size, fun k hk => h.block k hk id⟩
end Go.Proofs.Ytendndokgpppiaa
