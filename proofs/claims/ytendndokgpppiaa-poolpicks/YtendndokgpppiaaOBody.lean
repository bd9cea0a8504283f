/-
  Package ping: bodyOf.
-/
import Derived.Test.YtendndokgpppiaaGBig
import Derived.Deep.Slices
import Derived.BigQuiet
namespace Go.Proofs.Ytendndokgpppiaa.Pi
open Go.RowKit

theorem wrap_u8 (V : Nat) : IntKind.u8.wrap (V : Int) = ((V % 256 : Nat) : Int) := by
  simp [IntKind.wrap, IntKind.bits, IntKind.signed]
/-- Eight bytes in an array's box. -/
def Arr (w : World) (g : Nat) (l : List Nat) : Prop := w.heap[g]? = some (.cells (cellsOf l).toArray 122 (0, 0))
theorem Arr.cell {w : World} {g : Nat} {l : List Nat} (h : Arr w g l) (p : Nat) : w.cell? ⟨g, p, none⟩ = (cellsOf l)[p]? := by
  have h' : w.heap[g]? = some (.cells (cellsOf l).toArray 122 (0, 0)) := h
  simp [World.cell?, h']
theorem Arr.frozen {w : World} {g : Nat} {l : List Nat} (h : Arr w g l) (p : Nat) : w.frozen? ⟨g, p, none⟩ = false := by
  have h' : w.heap[g]? = some (.cells (cellsOf l).toArray 122 (0, 0)) := h
  simp [World.frozen?, h']
theorem Arr.set {w : World} {g : Nat} {l : List Nat} (h : Arr w g l) (p x : Nat) : Arr (w.setCell ⟨g, p, none⟩ (.int .u8 (x : Int))) g (l.set p x) := by
  have h' : w.heap[g]? = some (.cells (cellsOf l).toArray 122 (0, 0)) := h
  show (w.setCell ⟨g, p, none⟩ (.int .u8 (x : Int))).heap[g]? = _
  simp [World.setCell, h', Array.getElem?_modify, cellsOf_set]
theorem Arr.conv {w : World} {g : Nat} {l : List Nat} (h : Arr w g l) (hl : l.length = 8) : (convert 99 9 (.slice (some ⟨g, 0, none⟩) 8 8)).run Try.prog w = .ok (.string (str l)) w := by
  refine run_convert_bytes_arg w 99 5 Try.underlying99 Try.underlying5 g 0 8 8 (l.map Int.ofNat) (by simpa using hl) (fun i hi => ?_) 9 Try.underlying9
  have hil : i < l.length := by omega
  rw [h.cell]
  simp [cellsOf, List.getD, List.getElem?_map, List.getElem?_eq_getElem hil]
theorem arr_new (V : Nat) (w : World) : Arr (w.alloc (.cells #[.int .u8 0, .int .u8 0, .int .u8 0, .int .u8 0, .int .u8 0, .int .u8 0, .int .u8 0, .int .u8 0] 122)) w.heap.size (partL 8 V 0) := by
  rw [partL_zero]
  exact heap_alloc_new w _
attribute [local irreducible] partL bigL nums str

set_option maxRecDepth 100000 in
set_option maxHeartbeats 1000000 in
theorem body_ok (V : Nat) (w : World) (hV : V < 4294967296) : Calls Try.prog 59 #[.int .i64 (V : Int)] w fun e w' => e = .returned (.string (str (bigL 8 V))) ∧ Keeps nobody w w' := by
  have HC : Hid (∀ W : World, Arr W w.heap.size (bigL 8 V) → (convert 99 9 (.slice (some ⟨w.heap.size, 0, none⟩) 8 8)).run Try.prog W = .ok (.string (str (bigL 8 V))) W) := fun W h => h.conv (bigL_length 8 V)
  have HB : Hid (bigL 8 V = partL 8 V 8) := by unfold bigL; rfl
  generalize bigL 8 V = L at *
  go_enter Try.func59, Try.ntmps59
  go_wp2
  go_loopg [0, 4] 8 (fun k v i wr => ∃ j : Nat, i = .int .i64 (7 - (j : Int)) ∧ k + j = 8 ∧ v = .int .i64 ((V / 256 ^ j : Nat) : Int) ∧ Hid (Arr wr w.heap.size (partL 8 V j)) ∧ Keeps nobody w wr)
  case atStart => exact ⟨0, by simp, rfl, by simp, arr_new V w, keeps_alloc _ _⟩
  case round =>
    obtain ⟨j, rfl, hk, rfl, hrow, kr⟩ := hrel
    by_cases hj : j < 8
    · have hu := wrap_u8 (V / 256 ^ j)
      have hst := hrow.out.set (7 - j) (V / 256 ^ j % 256)
      have hps := partL_set 8 V j hj
      simp only [show 8 - 1 - j = 7 - j by omega] at hps
      rw [hps] at hst
      have hc := hrow.out.cell (7 - j)
      have hcs : (cellsOf (partL 8 V j))[7 - j]? = some ((cellsOf (partL 8 V j))[7 - j]'(by simp [cellsOf, partL_length]; omega)) := List.getElem?_eq_getElem _
      rw [hcs] at hc
      generalize (cellsOf (partL 8 V j))[7 - j]'_ = v0 at hc
      have hfz := hrow.out.frozen (7 - j)
      have hdv := div_step V j
      have hlt : V / 256 ^ j % 256 < 256 := by omega
      have hix : 7 - (j : Int) = ((7 - j : Nat) : Int) := by omega
      have HN : Hid (Arr (wr.setCell ⟨w.heap.size, 7 - j, none⟩ (.int .u8 ((V / 256 ^ j % 256 : Nat) : Int))) w.heap.size (partL 8 V (j + 1)) ∧ gk + j = 8 ∧ Keeps nobody w (wr.setCell ⟨w.heap.size, 7 - j, none⟩ (.int .u8 ((V / 256 ^ j % 256 : Nat) : Int)))) := ⟨hst, hk, kr.setCell (.inr (Nat.le_refl _)) _⟩
      have hd2 : ((V / 256 ^ j : Nat) : Int) / 256 = ((V / 256 ^ (j + 1) : Nat) : Int) := by rw [← hdv]; simp
      have hq : 7 - j < 8 := by omega
      have HQ : Hid (7 - ((j + 1 : Nat) : Int) = ((7 - j : Nat) : Int) - 1) := by show _ = _; omega
      have hV1 : V / 256 ^ j < 4294967296 := Nat.lt_of_le_of_lt (Nat.div_le_self _ _) hV
      clear hst hps hrow hk hcs HC HB hdv
      rw [hix]
      generalize 7 - j = p at *
      generalize hV2 : V / 256 ^ (j + 1) = V2 at *
      have HV := hid hV2
      clear hV2
      generalize V / 256 ^ j % 256 = y at *
      generalize V / 256 ^ j = V1 at *
      clear hix
      go_wp2
      obtain ⟨e1, e2, e3⟩ := HN.out
      go_roundg (gk - 1)
      case measure => omega
      case rel => exact ⟨j + 1, by rw [HQ.out], by omega, by rw [HV.out], e1, e3⟩
    · have hjn : j = 8 := by omega
      subst hjn
      have hcv := HC.out wr (by rw [HB.out]; exact hrow.out)
      have hbr : (7 - ((8 : Nat) : Int)) = -1 := by omega
      rw [hbr]
      clear HC HB hrow hk hj hbr
      go_wp2
      go_ret
      exact ⟨rfl, kr⟩
end Go.Proofs.Ytendndokgpppiaa.Pi
