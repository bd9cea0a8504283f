/-
  A frame's box; slices of what is held.
-/
import Derived.Test.YtkogkkjdcackcaaLLong
namespace Go.Proofs.Ytkogkkjdcackcaa
open Go.RowKit

abbrev frobj (k fl id : Int) (b : ByteArray) : Obj := .cells #[.int .i64 k, .int .i64 fl, .int .i64 id, .string b] 28
/-- A frame lies in its box, which may be written. -/
structure Bx (w : World) (g : Nat) (f : Frm) : Prop where
  c0 : w.cell? ⟨g, 0, none⟩ = some (.int .i64 f.kind)
  c1 : w.cell? ⟨g, 1, none⟩ = some (.int .i64 f.flags)
  c2 : w.cell? ⟨g, 2, none⟩ = some (.int .i64 f.id)
  c3 : w.cell? ⟨g, 3, none⟩ = some (.string f.body)
  fz : ∀ o, w.frozen? ⟨g, o, none⟩ = false
theorem Bx.lt {w : World} {g : Nat} {f : Frm} (h : Bx w g f) : g < w.heap.size := World.block_lt_of_cell? w ⟨g, 0, none⟩ h.c0
theorem bx_new (w : World) (f : Frm) : Bx (w.alloc (frobj f.kind f.flags f.id f.body)) w.heap.size f := by
  refine ⟨by simp, by simp, by simp, by simp, fun o => ?_⟩
  have h := heap_alloc_new w (frobj f.kind f.flags f.id f.body)
  unfold World.frozen?
  simp only [h]
  simp
theorem Bx.keeps {S : Nat → Prop} {w w' : World} {g : Nat} {f : Frm} (h : Bx w g f) (k : Keeps S w w') (hS : ¬ S g) : Bx w' g f := by
  have hb := h.lt
  have hc : ∀ o, w'.cell? ⟨g, o, none⟩ = w.cell? ⟨g, o, none⟩ := fun o => k.cell (p := ⟨g, o, none⟩) hb hS
  have hf : ∀ o, w'.frozen? ⟨g, o, none⟩ = w.frozen? ⟨g, o, none⟩ := fun o => k.frozen (p := ⟨g, o, none⟩) hb hS
  exact ⟨(hc _).trans h.c0, (hc _).trans h.c1, (hc _).trans h.c2, (hc _).trans h.c3, fun o => (hf o).trans (h.fz o)⟩
theorem size_u8 (w : World) : (sizeOf 5).run Try.prog w = .ok 1 w := by
  obtain ⟨i, hi, _, h1, _⟩ := info_u8
  simp [sizeOf, typeInfo, hi, h1]
theorem elem_bytes : Try.prog.elem 46 = 5 := by simp [Program.elem, Try.underlying46]
theorem under_bytes : Try.prog.underlying 46 = some (.slice (Try.prog.elem 46)) := by rw [elem_bytes]; exact Try.underlying46
theorem add_zero (a : Addr) : a.add 0 = a := rfl
/-- What is held, from its beginning up to a place. -/
theorem slice_to (rb off n cap h : Nat) (hc : h ≤ cap) (W : World) : (Instr.slice 46 (.slice (some ⟨rb, off, none⟩) n cap) none (some (.int .i64 (h : Int))) none).run Try.prog W = .ok (.slice (some ⟨rb, off, none⟩) h cap) W := by
  rw [run_slice_h W 46 _ _ _ under_bytes .i64 _ (by omega) (by omega), elem_bytes, size_u8]
  simp [Result.andThen, sliced, add_zero]
theorem slice_none (W : World) : (Instr.slice 46 (.slice none 0 0) none (some (.int .i64 0)) none).run Try.prog W = .ok (.slice none 0 0) W := by
  rw [run_slice_h W 46 _ _ _ under_bytes .i64 _ (by omega) (by omega), elem_bytes, size_u8]
  simp [Result.andThen, sliced]
/-- What is held, without its first l bytes. -/
theorem hb_drop {w : World} {rb off cap : Nat} {B : ByteArray} (hcap : B.size ≤ cap) (hr : w.rangeAt rb off (cellsOf (nums B))) (ht : w.there rb off cap) (hlt : rb < w.heap.size) (l : Nat) (hl : l ≤ B.size) :
    ∃ off', (∀ W, (Instr.slice 46 (.slice (some ⟨rb, off, none⟩) B.size cap) (some (.int .i64 (l : Int))) none none).run Try.prog W = .ok (.slice (some ⟨rb, off', none⟩) (B.size - l) (cap - l)) W) ∧ Hb w (.slice (some ⟨rb, off', none⟩) (B.size - l) (cap - l)) (B.extract l B.size) := by
  have hz : (B.extract l B.size).size = B.size - l := by rw [extract_size _ _ _ (Nat.le_refl _)]
  by_cases h0 : cap = l
  · have he : B.extract l B.size = ⟨#[]⟩ := eq_empty_of_size _ (by omega)
    refine ⟨off, fun W => ?_, .inr ⟨rb, off, cap - l, by rw [hz], by omega, ?_, fun j hj => by omega, hlt⟩⟩
    · rw [run_slice_l W 46 _ _ _ under_bytes .i64 _ (by omega) (by omega), elem_bytes, size_u8]
      simp [Result.andThen, sliced, h0]
    · rw [he]
      intro j v hj
      simp [cellsOf, nums] at hj
  · refine ⟨off + l, fun W => ?_, .inr ⟨rb, off + l, cap - l, by rw [hz], by omega, fun j v hj => ?_, fun j hj => ?_, hlt⟩⟩
    · rw [run_slice_l W 46 _ _ _ under_bytes .i64 _ (by omega) (by omega), elem_bytes, size_u8]
      simp [Result.andThen, sliced, h0, Addr.add_mid]
    · rw [Nat.add_assoc]
      refine hr (l + j) v ?_
      rw [nums_extract, List.take_of_length_le (by rw [nums_length]; omega)] at hj
      simp only [cellsOf, List.map_drop, List.getElem?_drop] at hj
      exact hj
    · rw [Nat.add_assoc]
      exact ht (l + j) (by omega)
/-- The first h bytes of what is held, as a string. -/
theorem conv_to {w : World} {rb off cap : Nat} {B : ByteArray} (hr : w.rangeAt rb off (cellsOf (nums B))) (hlt : rb < w.heap.size) (h : Nat) (hh : h ≤ B.size) (W : World) (hk : Keeps nobody w W) :
    (convert 46 9 (.slice (some ⟨rb, off, none⟩) h cap)).run Try.prog W = .ok (.string (B.extract 0 h)) W := by
  have e : B.extract 0 h = strOfNums (((nums B).take h).map Int.ofNat) := by
    apply nums_inj
    have := nums_str ((nums B).take h) fun x hx => nums_byte B x (List.mem_of_mem_take hx)
    rw [str] at this
    rw [this, nums_extract, List.drop_zero]
  rw [e]
  refine run_convert_bytes_arg W 46 5 Try.underlying46 Try.underlying5 rb off h cap _ (by simp [nums_length]; omega) (fun i hi => ?_) 9 Try.underlying9
  rw [hk.cell (p := ⟨rb, off + i, none⟩) hlt (fun h => h), hr i _ (byte_cell B i (by omega))]
  have hil : i < (nums B).length := by rw [nums_length]; omega
  simp [List.getD, hi, List.getElem?_eq_getElem hil, byteAt]
theorem conv_none (W : World) : (convert 46 9 (.slice none 0 0)).run Try.prog W = .ok (.string ⟨#[]⟩) W := run_convert_bytes_nil W 46 5 Try.underlying46 Try.underlying5 0 0 9 Try.underlying9
theorem min_nat (a b : Nat) (ts : Array TypeId) (t : TypeId) (W : World) : (Builtin.min_ ts t #[.int .i64 (a : Int), .int .i64 (b : Int)]).run Try.prog W = .ok (.int .i64 ((min a b : Nat) : Int)) W := by
  rw [run_min_int2]
  have : (if (b : Int) < (a : Int) then (b : Int) else (a : Int)) = ((min a b : Nat) : Int) := by split <;> omega
  rw [this]
theorem long_ok {w : World} {g : Nat} {v : Value} {most : Nat} {o : Bool} {B : ByteArray} (h : Sp w g v most o B) : Calls Try.prog 20 #[.pointer (some ⟨g, 0, none⟩)] w fun e w' => e = .returned (.bool (decide (great most B))) ∧ Keeps nobody w w' := by
  by_cases hB : B.size < 3
  · have e : decide (great most B) = false := decide_eq_false fun hg => by have := hg.1; omega
    rw [e]
    exact long_few h hB
  · have e : decide (great most B) = decide (most < num3 B) := by
      have : great most B ↔ most < num3 B := ⟨fun hg => hg.2, fun hx => ⟨by omega, hx⟩⟩
      simp [this]
    rw [e]
    exact long_many h (by omega)
end Go.Proofs.Ytkogkkjdcackcaa
