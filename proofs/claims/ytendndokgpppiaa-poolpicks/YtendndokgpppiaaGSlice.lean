/-
  Slices of bytes held; a variable's box as a thing: what hangs on no package.
-/
import Derived.Test.YtendndokgpppiaaLMem
import Derived.Test.YtendndokgpppiaaRSpec
namespace Go.Proofs.Ytendndokgpppiaa
open Go.RowKit

def sfoot (g : Nat) (v : Value) : Nat → Prop := fun k => k = g ∨ v.ownBlock = some k
theorem byte_cell (B : ByteArray) (j : Nat) (h : j < B.size) : (cellsOf (nums B))[j]? = some (.int .u8 (byteAt B j : Int)) := by
  have hl : j < (nums B).length := by rw [nums_length]; exact h
  simp [cellsOf, byteAt, List.getElem?_eq_getElem hl]
theorem extract_all (B : ByteArray) (n : Nat) (h : B.size ≤ n) : B.extract 0 n = B := by
  apply nums_inj
  rw [nums_extract, List.take_of_length_le (by rw [nums_length]; exact h), List.drop_zero]
theorem extract_extract (B : ByteArray) (n i j : Nat) (h : j ≤ n) : (B.extract 0 n).extract i j = B.extract i j := by
  apply nums_inj
  simp only [nums_extract, List.drop_zero, List.take_take]
  rw [Nat.min_eq_left h]
theorem byteAt_extract (B : ByteArray) (n i : Nat) (h : i < n) : byteAt (B.extract 0 n) i = byteAt B i := by
  rw [byteAt, byteAt, nums_extract, List.drop_zero, List.getD_eq_getElem?_getD, List.getD_eq_getElem?_getD, List.getElem?_take, if_pos h]
theorem none_append (b : ByteArray) : (⟨#[]⟩ : ByteArray) ++ b = b := by apply nums_inj; simp [nums]
theorem append_none' (b : ByteArray) : b ++ (⟨#[]⟩ : ByteArray) = b := by apply nums_inj; simp [nums]
theorem size_u8 (w : World) : (sizeOf 5).run Try.prog w = .ok 1 w := by
  obtain ⟨i, hi, _, h1, _⟩ := info_u8
  simp [sizeOf, typeInfo, hi, h1]
theorem elem_bytes : Try.prog.elem 99 = 5 := by simp [Program.elem, Try.underlying99]
theorem under_bytes : Try.prog.underlying 99 = some (.slice (Try.prog.elem 99)) := by rw [elem_bytes]; exact Try.underlying99
theorem add_zero (a : Addr) : a.add 0 = a := rfl
/-- What is held, from its beginning up to a place. -/
theorem slice_to (rb off n cap h : Nat) (hc : h ≤ cap) (W : World) : (Instr.slice 99 (.slice (some ⟨rb, off, none⟩) n cap) none (some (.int .i64 (h : Int))) none).run Try.prog W = .ok (.slice (some ⟨rb, off, none⟩) h cap) W := by
  rw [run_slice_h W 99 _ _ _ under_bytes .i64 _ (by omega) (by omega), elem_bytes, size_u8]
  simp [Result.andThen, sliced, add_zero]
theorem slice_none (W : World) : (Instr.slice 99 (.slice none 0 0) none (some (.int .i64 0)) none).run Try.prog W = .ok (.slice none 0 0) W := by
  rw [run_slice_h W 99 _ _ _ under_bytes .i64 _ (by omega) (by omega), elem_bytes, size_u8]
  simp [Result.andThen, sliced]
/-- What is held, without its first l bytes. -/
theorem hb_drop {w : World} {rb off cap : Nat} {B : ByteArray} (hcap : B.size ≤ cap) (hr : w.rangeAt rb off (cellsOf (nums B))) (ht : w.there rb off cap) (hlt : rb < w.heap.size) (l : Nat) (hl : l ≤ B.size) :
    ∃ off', (∀ W, (Instr.slice 99 (.slice (some ⟨rb, off, none⟩) B.size cap) (some (.int .i64 (l : Int))) none none).run Try.prog W = .ok (.slice (some ⟨rb, off', none⟩) (B.size - l) (cap - l)) W) ∧ Hb w (.slice (some ⟨rb, off', none⟩) (B.size - l) (cap - l)) (B.extract l B.size) := by
  have hz : (B.extract l B.size).size = B.size - l := by rw [extract_size _ _ _ (Nat.le_refl _)]
  by_cases h0 : cap = l
  · have he : B.extract l B.size = ⟨#[]⟩ := eq_empty_of_size _ (by omega)
    refine ⟨off, fun W => ?_, .inr ⟨rb, off, cap - l, by rw [hz], by omega, ?_, fun j hj => by omega, hlt⟩⟩
    · rw [run_slice_l W 99 _ _ _ under_bytes .i64 _ (by omega) (by omega), elem_bytes, size_u8]
      simp [Result.andThen, sliced, h0]
    · rw [he]
      intro j v hj
      simp [cellsOf, nums] at hj
  · refine ⟨off + l, fun W => ?_, .inr ⟨rb, off + l, cap - l, by rw [hz], by omega, fun j v hj => ?_, fun j hj => ?_, hlt⟩⟩
    · rw [run_slice_l W 99 _ _ _ under_bytes .i64 _ (by omega) (by omega), elem_bytes, size_u8]
      simp [Result.andThen, sliced, h0, Addr.add_mid]
    · rw [Nat.add_assoc]
      refine hr (l + j) v ?_
      rw [nums_extract, List.take_of_length_le (by rw [nums_length]; omega)] at hj
      simp only [cellsOf, List.map_drop, List.getElem?_drop] at hj
      exact hj
    · rw [Nat.add_assoc]
      exact ht (l + j) (by omega)
/-- The first h bytes of what is held, as a string. -/
theorem conv_to {w : World} {rb off cap : Nat} {B : ByteArray} (hr : w.rangeAt rb off (cellsOf (nums B))) (hlt : rb < w.heap.size) (h : Nat) (hh : h ≤ B.size) (W : World) (hk : Keeps nobody w W) :
    (convert 99 9 (.slice (some ⟨rb, off, none⟩) h cap)).run Try.prog W = .ok (.string (B.extract 0 h)) W := by
  have e : B.extract 0 h = strOfNums (((nums B).take h).map Int.ofNat) := by
    apply nums_inj
    have := nums_str ((nums B).take h) fun x hx => nums_byte B x (List.mem_of_mem_take hx)
    rw [str] at this
    rw [this, nums_extract, List.drop_zero]
  rw [e]
  refine run_convert_bytes_arg W 99 5 Try.underlying99 Try.underlying5 rb off h cap _ (by simp [nums_length]; omega) (fun i hi => ?_) 9 Try.underlying9
  rw [hk.cell (p := ⟨rb, off + i, none⟩) hlt (fun h => h), hr i _ (byte_cell B i (by omega))]
  have hil : i < (nums B).length := by rw [nums_length]; omega
  simp [List.getD, hi, List.getElem?_eq_getElem hil, byteAt]
theorem conv_none (W : World) : (convert 99 9 (.slice none 0 0)).run Try.prog W = .ok (.string ⟨#[]⟩) W := run_convert_bytes_nil W 99 5 Try.underlying99 Try.underlying5 0 0 9 Try.underlying9
theorem min_nat (a b : Nat) (ts : Array TypeId) (t : TypeId) (W : World) : (Builtin.min_ ts t #[.int .i64 (a : Int), .int .i64 (b : Int)]).run Try.prog W = .ok (.int .i64 ((min a b : Nat) : Int)) W := by
  rw [run_min_int2]
  have : (if (b : Int) < (a : Int) then (b : Int) else (a : Int)) = ((min a b : Nat) : Int) := by split <;> omega
  rw [this]
/-- A variable of one cell lies there. -/
def vrT (g : Nat) (v : Value) (T : TypeId) : Thing := ⟨fun k => k = g, fun w => w.heap[g]? = some (.cells #[v] T (0, 0))⟩
section
variable {W w w' : World} {g : Nat} {v v' : Value} {T : TypeId} {ts a b : List Thing}
theorem hold_start (W : World) : Hold W W [] := hold_nil (Below.refl _ _)
theorem Hold.perm {ts' : List Thing} (h : Hold W w ts) (hp : ts.Perm ts') : Hold W w ts' :=
  ⟨h.below, fun s hs => h.ok s (hp.mem_iff.2 hs), fun s hs => h.inv s (hp.mem_iff.2 hs), fun s hs => h.new s (hp.mem_iff.2 hs), hp.pairwise h.apart fun ha k e e2 => ha k e2 e⟩
theorem vrT_ok : (vrT g v T).Ok := ⟨fun {S w w'} h hk hS => by
    have h' : w.heap[g]? = some (.cells #[v] T (0, 0)) := h
    show w'.heap[g]? = _
    rw [hk.block g (Array.getElem?_eq_some_iff.1 h').1 (hS g rfl)]
    exact h', fun {w} h k hk => by
    have h' : w.heap[g]? = some (.cells #[v] T (0, 0)) := h
    have hk' : k = g := hk
    rw [hk']
    exact (Array.getElem?_eq_some_iff.1 h').1⟩
theorem Hold.vr (h : Hold W w ts) (hm : vrT g v T ∈ ts) : w.cell? ⟨g, 0, none⟩ = some v ∧ (∀ n, w.frozen? ⟨g, n, none⟩ = false) ∧ g < w.heap.size := by
  have h' : w.heap[g]? = some (.cells #[v] T (0, 0)) := h.inv _ hm
  exact ⟨by simp [World.cell?, h'], fun n => by simp [World.frozen?, h'], (Array.getElem?_eq_some_iff.1 h').1⟩
theorem Hold.var (h : Hold W w ts) (v : Value) (T : TypeId) : Hold W (w.alloc (.cells #[v] T)) (vrT w.heap.size v T :: ts) := h.add (keeps_alloc _ _) vrT_ok (heap_alloc_new w _) fun k e => by
  have e' : k = w.heap.size := e
  omega
theorem Hold.vset (h : Hold W w (a ++ vrT g v T :: b)) (u : Value) : Hold W (w.setCell ⟨g, 0, none⟩ u) (a ++ vrT g u T :: b) := by
  have h' : w.heap[g]? = some (.cells #[v] T (0, 0)) := h.inv (vrT g v T) (by simp)
  refine h.act ⟨vrT_ok, ?_, (Keeps.refl (fun k => k = g) w).setCell (p := ⟨g, 0, none⟩) (.inl rfl) u, fun _ e => .inl e⟩
  show (w.setCell ⟨g, 0, none⟩ u).heap[g]? = _
  simp [World.setCell, h', Array.getElem?_modify]
end
end Go.Proofs.Ytendndokgpppiaa
