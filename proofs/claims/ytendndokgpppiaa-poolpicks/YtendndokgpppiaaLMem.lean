/-
  Bytes that are held: a slice that lies wherever in its block, with room behind it; a string put behind them.
-/
import Derived.Test.YtendndokgpppiaaGStr
import Derived.Test.YtendndokgpppiaaGThing
namespace Go.Proofs.Ytendndokgpppiaa
open Go.RowKit

/-- These bytes are held. -/
def Hb (w : World) (v : Value) (B : ByteArray) : Prop :=
  (v = .slice none 0 0 ∧ B = ⟨#[]⟩) ∨
  ∃ rb off cap, v = .slice (some ⟨rb, off, none⟩) B.size cap ∧ B.size ≤ cap ∧ w.rangeAt rb off (cellsOf (nums B)) ∧ w.there rb off cap ∧ rb < w.heap.size
theorem Hb.slice {w : World} {v : Value} {B : ByteArray} (h : Hb w v B) : ∃ a c, v = .slice a B.size c ∧ B.size ≤ c := by
  rcases h with ⟨rfl, rfl⟩ | ⟨rb, off, cap, rfl, h, _⟩
  · exact ⟨none, 0, rfl, Nat.le_refl _⟩
  · exact ⟨_, _, rfl, h⟩
theorem Hb.keeps {S : Nat → Prop} {w w' : World} {v : Value} {B : ByteArray} (h : Hb w v B) (hk : Keeps S w w') (hS : ∀ k, v.ownBlock = some k → ¬ S k) : Hb w' v B := by
  rcases h with h | ⟨rb, off, cap, rfl, h1, h2, h3, h4⟩
  · exact .inl h
  · have hn : ¬ S rb := hS rb rfl
    refine .inr ⟨rb, off, cap, rfl, h1, fun j x hj => ?_, fun j hj => ?_, Nat.lt_of_lt_of_le h4 hk.size⟩
    · rw [hk.cell (p := ⟨rb, off + j, none⟩) h4 hn]
      exact h2 j x hj
    · rw [hk.cell (p := ⟨rb, off + j, none⟩) h4 hn, hk.frozen (p := ⟨rb, off + j, none⟩) h4 hn]
      exact h3 j hj
theorem Hb.lt {w : World} {v : Value} {B : ByteArray} (h : Hb w v B) : ∀ k, v.ownBlock = some k → k < w.heap.size := by
  rcases h with ⟨rfl, _⟩ | ⟨rb, off, cap, rfl, _, _, _, h⟩
  · intro k hk; cases hk
  · intro k hk
    cases hk
    exact h
theorem cells_nums (b : ByteArray) : (b.data.map fun x => Value.int .u8 (x.toNat : Int)) = (cellsOf (nums b)).toArray := by
  apply Array.toList_inj.1
  simp [cellsOf, nums, Function.comp_def]
theorem cellsOf_length (l : List Nat) : (cellsOf l).length = l.length := by simp [cellsOf]
theorem cellsOf_append (a b : List Nat) : cellsOf (a ++ b) = cellsOf a ++ cellsOf b := by simp [cellsOf]
theorem cellsOf_one (l : List Nat) : ∀ v ∈ cellsOf l, v.oneCell' = true := by
  intro v hv
  obtain ⟨x, _, rfl⟩ := List.mem_map.1 hv
  rfl
theorem heap_setCells (b : Nat) : ∀ (vs : List Value) (o : Nat) (w : World) (k : Nat), k ≠ b → (w.setCells b o vs).heap[k]? = w.heap[k]?
  | [], _, _, _, _ => rfl
  | v :: r, o, w, k, h => by
    rw [World.setCells, heap_setCells b r (o + 1) _ k h]
    exact Below.heap_setCell _ _ _ _ h
theorem size_setCells (b : Nat) : ∀ (vs : List Value) (o : Nat) (w : World), (w.setCells b o vs).heap.size = w.heap.size
  | [], _, _ => rfl
  | v :: r, o, w => by
    rw [World.setCells, size_setCells b r (o + 1) _]
    simp [World.setCell]
theorem same_setCells (b : Nat) : ∀ (vs : List Value) (o : Nat) (w : World), (w.setCells b o vs).os = w.os ∧ (w.setCells b o vs).tape = w.tape ∧ (w.setCells b o vs).output = w.output
  | [], _, _ => ⟨rfl, rfl, rfl⟩
  | v :: r, o, w => by
    rw [World.setCells]
    exact same_setCells b r (o + 1) _
theorem rangeAt_append {w : World} {b o : Nat} {xs ys : List Value} (h : w.rangeAt b o xs) (k : w.rangeAt b (o + xs.length) ys) : w.rangeAt b o (xs ++ ys) := by
  intro j v hj
  by_cases hl : j < xs.length
  · rw [List.getElem?_append_left hl] at hj
    exact h j v hj
  · rw [List.getElem?_append_right (by omega)] at hj
    have := k (j - xs.length) v hj
    rwa [show o + xs.length + (j - xs.length) = o + j by omega] at this
/-- A new block of bytes, and zeros behind them. -/
theorem hb_new (w : World) (C : ByteArray) (cap : Nat) (h : C.size ≤ cap) (z : Array Value) (hz : z.size = cap - C.size) :
    Hb (w.alloc (.cells ((cellsOf (nums C)).toArray ++ z) 5)) (.slice (some ⟨w.heap.size, 0, none⟩) C.size cap) C := by
  have hl : (cellsOf (nums C)).length = C.size := by rw [cellsOf_length, nums_length]
  have hb := heap_alloc_new w (.cells ((cellsOf (nums C)).toArray ++ z) 5)
  refine .inr ⟨w.heap.size, 0, cap, rfl, h, fun j v hj => ?_, fun j hj => ?_, by simp⟩
  · have hjl : j < (cellsOf (nums C)).length := (List.getElem?_eq_some_iff.1 hj).1
    simp only [World.cell?, hb, Nat.zero_add]
    rw [Array.getElem?_append_left (by simpa using hjl)]
    simpa using hj
  · simp only [World.cell?, World.frozen?, hb, Nat.zero_add]
    refine ⟨?_, by simp⟩
    rw [Option.isSome_iff_exists]
    exact ⟨_, Array.getElem?_eq_getElem (by simp [hl, hz]; omega)⟩
theorem info_u8 : ∃ i, Try.prog.info? 5 = some i ∧ i.zero = some (.int .u8 0) ∧ i.size = 1 ∧ i.bytes = 1 := by
  have h := info5
  cases hi : Try.prog.info? 5 with
  | none => rw [hi] at h; cases h
  | some i =>
    rw [hi] at h
    simp at h
    exact ⟨i, rfl, h.1, h.2.1, h.2.2⟩
theorem zeros_size (z : Value) (n : Nat) (h : z.cells.size = 1) : (Builtin.zeroCells z.cells n).size = n := by rw [size_zeroCells, h, Nat.mul_one]
/-- A string put behind what is held. -/
theorem hb_append {w : World} {v : Value} {B : ByteArray} (h : Hb w v B) (b : ByteArray) (hs : B.size + b.size ≤ 140737488355328) (ty : TypeId) :
    ∃ a c w', (Builtin.append_ #[99, 9] ty #[v, .string b]).run Try.prog w = .ok (.slice a (B.size + b.size) c) w' ∧ Hb w' (.slice a (B.size + b.size) c) (B ++ b) ∧ w.grownBy w' v.ownBlock ∧
      ∀ k, Value.ownBlock (.slice a (B.size + b.size) c) = some k → v.ownBlock = some k ∨ w.heap.size ≤ k := by
  obtain ⟨i, hi, hz, hi1, hi2⟩ := info_u8
  have hu := Try.underlying99
  have hst := Try.underlying9
  have hC : (B ++ b).size = B.size + b.size := by simp
  have hx : (b.extract 0 b.size).data = b.data := by
    have : b.extract 0 b.size = b := by
      apply ByteArray.ext
      simp
    rw [this]
  rcases h with ⟨rfl, rfl⟩ | ⟨rb, off, cap, rfl, hcap, hr, ht, hlt⟩
  · have he : (⟨#[]⟩ : ByteArray) ++ b = b := by
      apply ByteArray.ext
      simp
    by_cases h0 : b.size = 0
    · have hb : b = ⟨#[]⟩ := eq_empty_of_size b (by omega)
      subst hb
      refine ⟨none, 0, w, ?_, ?_, World.grownBy.refl _ _, fun k hk => by cases hk⟩
      · simp [Builtin.append_, run_underlying hu, run_underlying hst, sizeOf, typeInfo, hi, Builtin.lenOf, Builtin.firstCells]
        rfl
      · rw [he]
        exact .inl ⟨rfl, rfl⟩
    · have hr := run_append_nil_string (P := Try.prog) w 99 9 ty 5 i _ hu hst hi hz b (by omega) (by omega) (by rw [hi2]; omega)
      rw [cells_nums] at hr
      have hz0 : (⟨#[]⟩ : ByteArray).size + b.size = b.size := Nat.zero_add _
      rw [hz0, he]
      refine ⟨_, _, _, hr, ?_, ⟨rfl, rfl, rfl, by simp, fun k hk _ => Below.heap_alloc w.drew _ k hk⟩, fun k hk => .inr (by cases hk; exact Nat.le_refl _)⟩
      have := hb_new w.drew b (grownCap w b.size 0 5) (grownCap_ge w _ _ _) _ (zeros_size (.int .u8 0) _ rfl)
      exact this
  · by_cases hroom : B.size + b.size ≤ cap
    · have hl : (cellsOf (nums b)).length = b.size := by rw [cellsOf_length, nums_length]
      have hlB : (cellsOf (nums B)).length = B.size := by rw [cellsOf_length, nums_length]
      have hst2 := run_storeCells_cells (P := Try.prog) rb (off + B.size) (cellsOf (nums b)) 0 w
        (fun j hj => by have := (ht (B.size + j) (by omega)).1; rwa [show off + (B.size + j) = off + B.size + 0 + j by omega] at this)
        (fun j hj => by have := (ht (B.size + j) (by omega)).2; rwa [show off + (B.size + j) = off + B.size + 0 + j by omega] at this) (cellsOf_one _)
      have hth : w.there rb (off + B.size) (cellsOf (nums b)).length := fun j hj => by
        have := ht (B.size + j) (by omega)
        rwa [show off + (B.size + j) = off + B.size + j by omega] at this
      refine ⟨some ⟨rb, off, none⟩, cap, w.setCells rb (off + B.size) (cellsOf (nums b)), ?_, ?_, ?_, fun k hk => .inl hk⟩
      · simp only [Nat.add_zero] at hst2
        simp [Builtin.append_, run_underlying hu, run_underlying hst, sizeOf, typeInfo, hi, hi1, Builtin.lenOf, Builtin.firstCells, hroom, Addr.add_mid]
        have hx2 : (Array.map (fun x : UInt8 => Value.int IntKind.u8 (x.toNat : Int)) b.data).toList = cellsOf (nums b) := by rw [cells_nums]
        simp at hx2
        have htk : (cellsOf (nums b)).take b.size = cellsOf (nums b) := List.take_of_length_le (by omega)
        simp [hx2, htk, hst2]
      · refine .inr ⟨rb, off, cap, by rw [hC], by rw [hC]; exact hroom, ?_, fun j hj => ?_, by rw [size_setCells]; exact hlt⟩
        · rw [nums_append, cellsOf_append]
          refine rangeAt_append (World.rangeAt_setCells_apart hr _ _ _ (.inr (.inl (by omega)))) ?_
          rw [hlB]
          exact World.rangeAt_setCells_same _ _ _ _ hth
        · exact ⟨World.isSome_setCells _ _ _ _ _ (ht j hj).1, by rw [World.frozen?_setCells]; exact (ht j hj).2⟩
      · obtain ⟨s1, s2, s3⟩ := same_setCells rb (cellsOf (nums b)) (off + B.size) w
        refine ⟨s1, s2, s3, by rw [size_setCells]; exact Nat.le_refl _, fun k _ hk => heap_setCells _ _ _ _ _ fun e => hk (by rw [e]; rfl)⟩
    · have hlB : (cellsOf (nums B)).length = B.size := by rw [cellsOf_length, nums_length]
      have hn : ¬ (B.size + b.size ≤ cap) := hroom
      have h63' : ¬ (9223372036854775807 < ((B.size : Int) + (b.size : Int))) := by omega
      have h48' : ¬ (281474976710656 < Builtin.nextslicecap (B.size + b.size) cap * i.bytes) := by
        have := growslice_fits (need := B.size + b.size) (old := cap) (bytes := i.bytes) (by omega) (by rw [hi2]; omega)
        omega
      have hfo := run_firstCells_some (P := Try.prog) w.drew i.size B.size ⟨rb, off, none⟩ B.size cap (cellsOf (nums B)) (by rw [hlB, hi1, Nat.mul_one]) (fun j u hj => by
        rw [Addr.add_mid]
        simpa using hr j u hj)
      refine ⟨some ⟨w.heap.size, 0, none⟩, grownCap w (B.size + b.size) cap 5, w.drew.alloc (.cells ((cellsOf (nums (B ++ b))).toArray ++ Builtin.zeroCells (Value.cells (.int .u8 0)) (grownCap w (B.size + b.size) cap 5 - (B.size + b.size))) 5), ?_, ?_, ⟨rfl, rfl, rfl, by simp, fun k hk _ => Below.heap_alloc w.drew _ k hk⟩, fun k hk => .inr (by cases hk; exact Nat.le_refl _)⟩
      · rw [nums_append, cellsOf_append]
        rw [hi1] at hfo
        simp [Builtin.append_, run_underlying hu, run_underlying hst, sizeOf, typeInfo, zeroValue, hi, hz, hi1, Builtin.lenOf, hn, h63', h48', Question.forced, hfo, newRow, grownCap]
        simp [Builtin.firstCells]
        rw [cells_nums, ← Array.append_assoc, List.append_toArray (cellsOf (nums B)) (cellsOf (nums b))]
      · have := hb_new w.drew (B ++ b) (grownCap w (B.size + b.size) cap 5) (by rw [hC]; exact grownCap_ge w _ _ _) _ (by rw [zeros_size (.int .u8 0) _ rfl, ← hC])
        rw [hC] at this
        exact this
end Go.Proofs.Ytendndokgpppiaa
