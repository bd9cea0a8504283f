/-
  Bytes that a call has made of a string, and puts more behind: a row of its own, of whose cells none is frozen up to its capacity; the string over it.
-/
import Derived.Test.YthgcbgdafoiacaaFmtEErr
import Derived.Deep.AppendSrc
import Derived.Lib.ConvBytes
import Derived.Lib.UnsafeStr
namespace Go.Proofs.YthgcbgdafoiacaaFmt
open Go.RowKit Go.Extern.Stop Go.Stop Go.Extern

/-- The row: made since the base, these bytes from its head on. -/
def Hz (B : Nat) (w : World) (v : Value) (l : List UInt8) : Prop :=
  ∃ g cap n, v = .slice (some ⟨g, 0, none⟩) l.length cap ∧ l.length ≤ cap ∧ B ≤ g ∧ g < w.heap.size ∧ w.rangeAt g 0 (Lib.byteCells l) ∧ w.there g 0 cap ∧ w.shape? g = some (5, n) ∧ cap ≤ n
theorem Hz.keeps {B : Nat} {w w' : World} {v : Value} {l : List UInt8} (h : Hz B w v l) (hk : Keeps nobody w w') : Hz B w' v l := by
  obtain ⟨g, cap, n, rfl, h1, h2, h3, h4, h5, h6, h7⟩ := h
  refine ⟨g, cap, n, rfl, h1, h2, Nat.lt_of_lt_of_le h3 hk.size, fun j x hj => ?_, fun j hj => ?_, ?_, h7⟩
  · rw [hk.cell (p := ⟨g, 0 + j, none⟩) h3 id]; exact h4 j x hj
  · rw [hk.cell (p := ⟨g, 0 + j, none⟩) h3 id, hk.frozen (p := ⟨g, 0 + j, none⟩) h3 id]; exact h5 j hj
  · unfold World.shape? at h6 ⊢
    rw [hk.block g h3 id]
    exact h6
theorem byteCells_append (a b : List UInt8) : Lib.byteCells (a ++ b) = Lib.byteCells a ++ Lib.byteCells b := Lib.byteCells_append a b
theorem byteCells_one (l : List UInt8) : ∀ v ∈ Lib.byteCells l, v.oneCell' = true := by
  intro v hv
  obtain ⟨x, _, rfl⟩ := List.mem_map.1 hv
  rfl
/-- A new row of that make. -/
theorem hz_new (B : Nat) (w : World) (l : List UInt8) (cap : Nat) (cs : Array Value) (fz : Nat × Nat) (g : Nat) (hB : B ≤ g) (hg : g < w.heap.size) (hh : w.heap[g]? = some (.cells cs 5 fz)) (hl : l.length ≤ cap) (hc : cap ≤ cs.size) (hcs : ∀ (j : Nat) (x : Value), (Lib.byteCells l)[j]? = some x → cs[j]? = some x) (hf : ∀ j, j < cap → ¬ (fz.1 ≤ j ∧ j < fz.2)) :
    Hz B w (.slice (some ⟨g, 0, none⟩) l.length cap) l := by
  refine ⟨g, cap, cs.size, rfl, hl, hB, hg, fun j x hj => ?_, fun j hj => ⟨?_, ?_⟩, ?_, hc⟩
  · simp only [World.cell?, hh, Nat.zero_add]
    exact hcs j x hj
  · simp only [World.cell?, hh, Nat.zero_add]
    rw [Array.getElem?_eq_getElem (by omega)]
    rfl
  · have := hf j hj
    simp only [World.frozen?, hh, Nat.zero_add]
    simp only [Bool.and_eq_false_iff, decide_eq_false_iff_not]
    omega
  · simp only [World.shape?, hh]
theorem conv_bytes (w : World) (s : ByteArray) : ∃ v w', (convert 9 108 (.string s)).run Tryf.prog w = .ok v w' ∧ Hz w.heap.size w' v s.data.toList ∧ Keeps nobody w w' ∧ ∃ a c, v = .slice (some a) s.size c := by
  have h := Lib.run_convert_string_bytes (P := Tryf.prog) w 9 108 5 s Tryf.underlying9 Tryf.underlying108 Tryf.underlying5
  have hge := grownCap_ge w s.size 0 5
  have hsz : (Lib.bytesCells w 5 s).size = grownCap w s.size 0 5 := by
    have : s.size = s.data.size := rfl
    simp [Lib.bytesCells]
    omega
  have hlen : s.data.toList.length = s.size := rfl
  refine ⟨_, _, h, ?_, ⟨rfl, rfl, rfl, by rw [Lib.bytesWorld_size]; omega, fun k hk _ => Lib.bytesWorld_at_old w _ s k hk⟩, _, _, rfl⟩
  have hn := Lib.bytesWorld_at_new w 5 s
  have := hz_new w.heap.size (Lib.bytesWorld w 5 s) s.data.toList (grownCap w s.size 0 5) _ _ w.heap.size (Nat.le_refl _) (by rw [Lib.bytesWorld_size]; omega) hn (by omega) (by omega) (fun j x hj => ?_) (fun j hj => by rw [hsz]; simp only; omega)
  · rw [hlen] at this
    exact this
  · have hjl : j < s.data.size := by
      have := (List.getElem?_eq_some_iff.1 hj).1
      simpa [Lib.byteCells] using this
    unfold Lib.bytesCells
    rw [Array.getElem?_append_left (by simpa using hjl)]
    simpa [Lib.byteCells] using hj
theorem heap_setCells (b : Nat) : ∀ (vs : List Value) (o : Nat) (w : World) (k : Nat), k ≠ b → (w.setCells b o vs).heap[k]? = w.heap[k]?
  | [], _, _, _, _ => rfl
  | v :: r, o, w, k, h => by
    rw [World.setCells, heap_setCells b r (o + 1) _ k h]
    exact Below.heap_setCell _ _ _ _ h
theorem size_setCells (b : Nat) : ∀ (vs : List Value) (o : Nat) (w : World), (w.setCells b o vs).heap.size = w.heap.size
  | [], _, _ => rfl
  | v :: r, o, w => by
    rw [World.setCells, size_setCells b r (o + 1) _]
    simp [World.setCell]
theorem same_setCells (b : Nat) : ∀ (vs : List Value) (o : Nat) (w : World), (w.setCells b o vs).os = w.os ∧ (w.setCells b o vs).tape = w.tape ∧ (w.setCells b o vs).output = w.output
  | [], _, _ => ⟨rfl, rfl, rfl⟩
  | v :: r, o, w => by
    rw [World.setCells]
    exact same_setCells b r (o + 1) _
theorem shape_setCell (w : World) (a : Addr) (v : Value) (g : Nat) (x : TypeId × Nat) (h : w.shape? g = some x) : (w.setCell a v).shape? g = some x := by
  unfold World.shape? World.setCell at *
  simp only [Array.getElem?_modify]
  by_cases e : a.block = g
  · rw [if_pos e]
    cases hh : w.heap[g]? with
    | none => rw [hh] at h; simp at h
    | some o =>
      rw [hh] at h
      cases o <;> simp at h ⊢
      rw [← h]
      split <;> simp
  · rw [if_neg e]
    exact h
theorem shape_setCells (b g : Nat) (x : TypeId × Nat) : ∀ (vs : List Value) (o : Nat) (w : World), w.shape? g = some x → (w.setCells b o vs).shape? g = some x
  | [], _, _, h => h
  | v :: r, o, w, h => by
    rw [World.setCells]
    exact shape_setCells b g x r (o + 1) _ (shape_setCell w _ v g x h)
theorem rangeAt_append {w : World} {b o : Nat} {xs ys : List Value} (h : w.rangeAt b o xs) (k : w.rangeAt b (o + xs.length) ys) : w.rangeAt b o (xs ++ ys) := by
  intro j v hj
  by_cases hl : j < xs.length
  · rw [List.getElem?_append_left hl] at hj
    exact h j v hj
  · rw [List.getElem?_append_right (by omega)] at hj
    have := k (j - xs.length) v hj
    rwa [show o + xs.length + (j - xs.length) = o + j by omega] at this
theorem info_u8 : ∃ i, Tryf.prog.info? 5 = some i ∧ i.zero = some (.int .u8 0) ∧ i.size = 1 ∧ i.bytes = 1 := by
  obtain ⟨i, hi, h⟩ := Option.map_eq_some_iff.1 info5
  simp only [Prod.mk.injEq] at h
  exact ⟨i, hi, h⟩
/-- More put behind. -/
theorem hz_append {B : Nat} {w : World} {v : Value} {l : List UInt8} (h : Hz B w v l) (hB : B ≤ w.heap.size) (tx : TypeId) (x : Value) (m : List UInt8) (hs : Src Tryf.prog 1 tx x m.length (Lib.byteCells m) w) (hlen : l.length + m.length ≤ 140737488355328) (ty : TypeId) :
    ∃ v' w', (Builtin.append_ #[108, tx] ty #[v, x]).run Tryf.prog w = .ok v' w' ∧ Hz B w' v' (l ++ m) ∧ Keeps (fun k => B ≤ k) w w' := by
  obtain ⟨i, hi, hz, hi1, hi2⟩ := info_u8
  have hu := Tryf.underlying108
  obtain ⟨g, cap, n, rfl, h1, h2, h3, h4, h5, h6, h7⟩ := h
  have hl : (Lib.byteCells m).length = m.length := Lib.byteCells_length m
  have hl2 : (Lib.byteCells l).length = l.length := Lib.byteCells_length l
  rw [← hi1] at hs
  by_cases hroom : l.length + m.length ≤ cap
  · have hr := run_append_room_src (P := Tryf.prog) w 108 tx ty 5 i hu hi g 0 l.length cap x m.length (Lib.byteCells m) hs hroom
      (fun j hj => by rw [hi1]; have := (h5 (l.length + j) (by omega)).1; rwa [show 0 + (l.length + j) = 0 + l.length * 1 + j by omega] at this)
      (fun j hj => by rw [hi1]; have := (h5 (l.length + j) (by omega)).2; rwa [show 0 + (l.length + j) = 0 + l.length * 1 + j by omega] at this)
    rw [hi1, Nat.mul_one, Nat.zero_add] at hr
    refine ⟨_, _, hr, ⟨g, cap, n, by simp, by simpa using hroom, h2, by rw [size_setCells]; exact h3, ?_, fun j hj => ?_, shape_setCells _ _ _ _ _ _ h6, h7⟩, ?_⟩
    · rw [byteCells_append]
      refine rangeAt_append (World.rangeAt_setCells_apart h4 _ _ _ (.inr (.inl (by omega)))) ?_
      rw [hl2, Nat.zero_add]
      exact World.rangeAt_setCells_same _ _ _ _ (fun j hj => by have := h5 (l.length + j) (by omega); rwa [Nat.zero_add] at this)
    · exact ⟨World.isSome_setCells _ _ _ _ _ (h5 j hj).1, by rw [World.frozen?_setCells]; exact (h5 j hj).2⟩
    · obtain ⟨s1, s2, s3⟩ := same_setCells g (Lib.byteCells m) l.length w
      exact ⟨s1, s2, s3, by rw [size_setCells]; exact Nat.le_refl _, fun k _ hk => heap_setCells _ _ _ _ _ fun e => hk (by rw [e]; exact h2)⟩
  · have hold := run_firstCells_some (P := Tryf.prog) w.drew i.size l.length ⟨g, 0, none⟩ l.length cap (Lib.byteCells l) (by rw [hl2, hi1, Nat.mul_one]) (fun j u hj => by
      rw [Addr.add_mid]
      have := h4 j u hj
      simpa using this)
    have hr := run_append_grow_src (P := Tryf.prog) w 108 tx ty 5 i (.int .u8 0) hu hi hz (some ⟨g, 0, none⟩) l.length cap (Lib.byteCells l) hold x m.length (Lib.byteCells m) hs (by omega) (by omega)
      (by have := growslice_fits (need := l.length + m.length) (old := cap) (bytes := i.bytes) (by omega) (by rw [hi2]; omega); omega)
    have hge := grownCap_ge w (l.length + m.length) cap 5
    refine ⟨_, _, hr, ?_, ⟨rfl, rfl, rfl, by simp, fun k hk _ => Below.heap_alloc w.drew _ k hk⟩⟩
    have hb := heap_alloc_new w.drew (.cells ((Lib.byteCells l ++ Lib.byteCells m).toArray ++ Builtin.zeroCells (Value.cells (.int .u8 0)) (grownCap w (l.length + m.length) cap 5 - (l.length + m.length))) 5)
    have hzs : (Builtin.zeroCells (Value.cells (.int .u8 0)) (grownCap w (l.length + m.length) cap 5 - (l.length + m.length))).size = grownCap w (l.length + m.length) cap 5 - (l.length + m.length) := by rw [size_zeroCells]; simp [Value.cells]
    have := hz_new B _ (l ++ m) (grownCap w (l.length + m.length) cap 5) _ _ w.heap.size hB (by simp) hb (by simpa using hge) (by simp [hl, hl2, hzs]; omega) (fun j x hj => by
      have hjl := (List.getElem?_eq_some_iff.1 hj).1
      rw [byteCells_append] at hj hjl
      rw [Array.getElem?_append_left (by simpa using hjl)]
      simpa using hj) (fun j hj => by simp)
    simpa using this
/-- The string over it. -/
theorem Keeps.freeze {S : Nat → Prop} {a b : World} (h : Keeps S a b) {p : Addr} (hp : a.heap.size ≤ p.block) (n : Nat) : Keeps S a (b.freeze p n) := by
  refine ⟨?_, ?_, ?_, ?_, fun k hk hS => ?_⟩
  · rw [← h.os]; unfold World.freeze; split <;> rfl
  · rw [← h.tape]; unfold World.freeze; split <;> rfl
  · rw [← h.output]; unfold World.freeze; split <;> rfl
  · refine Nat.le_trans h.size ?_
    unfold World.freeze
    split
    · exact Nat.le_refl _
    · simp
  · rw [← h.block k hk hS]
    unfold World.freeze
    split
    · rfl
    · simp only [Array.getElem?_modify]
      rw [if_neg (by omega)]
theorem cellsU8 : Tryf.prog.cellsOf 5 = 1 := by kernel_rfl
theorem hz_string {B : Nat} {w : World} {v : Value} {l : List UInt8} (h : Hz B w v l) (h0 : l ≠ []) (hlen : l.length ≤ 140737488355328) : ∃ g cap, v = .slice (some ⟨g, 0, none⟩) l.length cap ∧ B ≤ g ∧ w.cell? ⟨g, 0, none⟩ ≠ none ∧ ∀ ty, (Builtin.unsafeString_ #[102, 3] ty #[.pointer (some ⟨g, 0, none⟩), .int .i64 l.length]).run Tryf.prog w = .ok (.string ⟨l.toArray⟩) (w.freeze ⟨g, 0, none⟩ l.length) := by
  obtain ⟨g, cap, n, rfl, h1, h2, h3, h4, h5, h6, h7⟩ := h
  refine ⟨g, cap, rfl, h2, ?_, fun ty => Lib.run_unsafeString_row w 102 3 ty 5 Tryf.underlying102 cellsU8 g n h6 l h0 (by omega) (by omega) (fun j x hj => ?_)⟩
  · have hp : 0 < l.length := List.length_pos_iff.2 h0
    have := (h5 0 (by omega)).1
    intro e
    rw [Nat.zero_add] at this
    rw [e] at this
    simp at this
  · have := h4 j (.int .u8 x.toNat) (by simp [Lib.byteCells, hj])
    rw [Addr.add_mid]
    exact this
end Go.Proofs.YthgcbgdafoiacaaFmt
