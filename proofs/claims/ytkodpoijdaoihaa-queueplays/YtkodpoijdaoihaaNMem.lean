/-
  Numbers that are held: a slice that lies wherever in its block, with room behind it; a queue in memory.
-/
import Derived.Test.YtkodpoijdaoihaaNSpec
import Derived.Test.YtkodpoijdaoihaaGRec
import Derived.Test.YtkodpoijdaoihaaNLay
import Derived.Deep.AppendSrc
namespace Go.Proofs.Ytkodpoijdaoihaa
open Go.RowKit

abbrev icells (l : List Int) : List Value := l.map (Value.int .i64)
theorem icells_one (l : List Int) : ∀ v ∈ icells l, v.oneCell' = true := by
  intro v hv
  obtain ⟨x, _, rfl⟩ := List.mem_map.1 hv
  rfl
theorem infoN : (Try.prog.info? 3).map (fun i => (i.zero, i.size, i.bytes)) = some (some (.int .i64 0), 1, 8) := by kernel_rfl
/-- These numbers are held. -/
def Hq (w : World) (v : Value) (l : List Int) : Prop :=
  (v = .slice none 0 0 ∧ l = []) ∨
  ∃ rb off cap cur, v = .slice (some ⟨rb, off, none⟩) l.length cap ∧ l.length ≤ cap ∧ cap ≤ 9223372036854775807 ∧ w.heap[rb]? = some (.cells cur 3 (0, 0)) ∧ off + cap ≤ cur.size ∧ ∀ i x, l[i]? = some x → cur[off + i]? = some (.int .i64 x)
theorem Hq.slice {w : World} {v : Value} {l : List Int} (h : Hq w v l) : ∃ a c, v = .slice a l.length c ∧ l.length ≤ c := by
  rcases h with ⟨rfl, rfl⟩ | ⟨rb, off, cap, cur, rfl, h, _⟩
  · exact ⟨none, 0, rfl, Nat.le_refl _⟩
  · exact ⟨_, _, rfl, h⟩
theorem Hq.keeps {S : Nat → Prop} {w w' : World} {v : Value} {l : List Int} (h : Hq w v l) (hk : Keeps S w w') (hS : ∀ k, v.ownBlock = some k → ¬ S k) : Hq w' v l := by
  rcases h with h | ⟨rb, off, cap, cur, rfl, h1, h2, h3, h4⟩
  · exact .inl h
  · exact .inr ⟨rb, off, cap, cur, rfl, h1, h2, by rw [hk.block rb (Array.getElem?_eq_some_iff.1 h3).1 (hS rb rfl)]; exact h3, h4⟩
theorem Hq.quiet {w w' : World} {v : Value} {l : List Int} (h : Hq w v l) (hk : Keeps nobody w w') : Hq w' v l := h.keeps hk fun _ _ => id
theorem Hq.lt {w : World} {v : Value} {l : List Int} (h : Hq w v l) : ∀ k, v.ownBlock = some k → k < w.heap.size := by
  rcases h with ⟨rfl, _⟩ | ⟨rb, off, cap, cur, rfl, _, _, h, _⟩
  · intro k hk; cases hk
  · intro k hk
    cases hk
    exact (Array.getElem?_eq_some_iff.1 h).1
theorem cell_of {w : World} {rb o : Nat} {cur : Array Value} {T : TypeId} (h : w.heap[rb]? = some (.cells cur T (0, 0))) : w.cell? ⟨rb, o, none⟩ = cur[o]? := by simp [World.cell?, h]
theorem frozen_of {w : World} {rb o : Nat} {cur : Array Value} {T : TypeId} (h : w.heap[rb]? = some (.cells cur T (0, 0))) : w.frozen? ⟨rb, o, none⟩ = false := by simp [World.frozen?, h]
theorem icell_at {l : List Int} {j : Nat} {v : Value} (h : (icells l)[j]? = some v) : ∃ x, l[j]? = some x ∧ v = .int .i64 x := by
  rw [List.getElem?_map] at h
  obtain ⟨x, h1, h2⟩ := Option.map_eq_some_iff.1 h
  exact ⟨x, h1, h2.symm⟩
/-- Cells written one behind the other. -/
theorem setCells_block (b : Nat) : ∀ (vs : List Value) (o : Nat) (w : World) (cur : Array Value) (T : TypeId), w.heap[b]? = some (.cells cur T (0, 0)) → o + vs.length ≤ cur.size →
    ∃ cur', (w.setCells b o vs).heap[b]? = some (.cells cur' T (0, 0)) ∧ cur'.size = cur.size ∧ ∀ i, cur'[i]? = if o ≤ i ∧ i < o + vs.length then vs[i - o]? else cur[i]?
  | [], o, w, cur, T, h, _ => ⟨cur, h, rfl, fun i => by rw [if_neg (by simp)]⟩
  | v :: r, o, w, cur, T, h, hs => by
    have hs' : o + (r.length + 1) ≤ cur.size := by simpa using hs
    have h1 : (w.setCell ⟨b, o, none⟩ v).heap[b]? = some (.cells (cur.setIfInBounds o v) T (0, 0)) := by simp [World.setCell, h, Array.getElem?_modify]
    obtain ⟨cur', e1, e2, e3⟩ := setCells_block b r (o + 1) _ _ T h1 (by rw [Array.size_setIfInBounds]; omega)
    refine ⟨cur', e1, by rw [e2, Array.size_setIfInBounds], fun i => ?_⟩
    rw [e3 i]
    simp only [List.length_cons]
    by_cases hi : i = o
    · subst hi
      rw [if_neg (by omega), if_pos (by omega), Nat.sub_self, Array.getElem?_setIfInBounds_self_of_lt (by omega)]
      rfl
    · by_cases hr : o + 1 ≤ i ∧ i < o + 1 + r.length
      · rw [if_pos hr, if_pos (by omega)]
        have : i - o = i - (o + 1) + 1 := by omega
        rw [this, List.getElem?_cons_succ]
      · rw [if_neg hr, if_neg (by omega), Array.getElem?_setIfInBounds_ne (fun e => hi e.symm)]
theorem setCells_keeps (b : Nat) : ∀ (vs : List Value) (o : Nat) (w : World), Keeps (fun k => k = b) w (w.setCells b o vs)
  | [], _, w => Keeps.refl _ w
  | v :: r, o, w => ((Keeps.refl (fun k => k = b) w).setCell (p := ⟨b, o, none⟩) (.inl rfl) v).trans (setCells_keeps b r (o + 1) _) fun _ _ h => h
theorem Keeps.own {w w' : World} {b : Nat} {v : Value} (h : Keeps (fun k => k = b) w w') (hv : v.ownBlock = some b) : Keeps (fun k => v.ownBlock = some k) w w' := h.mono fun k _ e => by rw [e]; exact hv
/-- What a call leaves of a list that is held: another one, there or in a new block. -/
def Left (v : Value) (l : List Int) (w : World) (v' : Value) (w' : World) : Prop :=
  Hq w' v' l ∧ Keeps (fun k => v.ownBlock = some k) w w' ∧ ∀ k, v'.ownBlock = some k → v.ownBlock = some k ∨ w.heap.size ≤ k
/-- A new block of numbers, and zeros behind them. -/
theorem hq_new (w : World) (l : List Int) (cap : Nat) (h : l.length ≤ cap) (hc : cap ≤ 9223372036854775807) (z : Array Value) (hz : z.size = cap - l.length) :
    Hq (w.alloc (.cells ((icells l).toArray ++ z) 3)) (.slice (some ⟨w.heap.size, 0, none⟩) l.length cap) l := by
  refine .inr ⟨w.heap.size, 0, cap, _, rfl, h, hc, heap_alloc_new w _, ?_, fun i x hi => ?_⟩
  · simp only [Array.size_append, List.size_toArray, List.length_map, hz]
    omega
  · have hil : i < l.length := (List.getElem?_eq_some_iff.1 hi).1
    rw [Nat.zero_add, Array.getElem?_append_left (by simpa using hil)]
    simp [hi]
theorem zcells_size (n : Nat) : (Builtin.zeroCells (Value.int .i64 0).cells n).size = n := by rw [size_zeroCells]; simp [Value.cells]
/-- append of one. -/
theorem hq_append {w : World} {v : Value} {l : List Int} (h : Hq w v l) (x : Int) (vb : Nat) (hv : w.cell? ⟨vb, 0, none⟩ = some (.int .i64 x)) (hl : l.length ≤ 1000000) (ty : TypeId) :
    ∃ a c w', (Builtin.append_ #[32, 32] ty #[v, .slice (some ⟨vb, 0, none⟩) 1 1]).run Try.prog w = .ok (.slice a (l.length + 1) c) w' ∧ Left v (l ++ [x]) w (.slice a (l.length + 1) c) w' := by
  obtain ⟨i5, hi5, hz0, hz1, hz2⟩ := info_parts infoN
  have hu := Try.underlying32
  have hone : ∀ u ∈ [Value.int .i64 x], u.oneCell' = true := fun u hu => by obtain rfl := List.mem_singleton.1 hu; rfl
  have hsrc : ∀ j u, [Value.int .i64 x][j]? = some u → w.cell? ((⟨vb, 0, none⟩ : Addr).add j) = some u := by
    intro j u hj
    match j, hj with
    | 0, hj => simp at hj; subst hj; exact hv
    | j + 1, hj => simp at hj
  have hlen : (l ++ [x]).length = l.length + 1 := by simp
  have hic : icells (l ++ [x]) = icells l ++ [.int .i64 x] := by simp [icells]
  rcases h with ⟨rfl, rfl⟩ | ⟨rb, off, cap, cur, rfl, hcap, hcm, hg, hs, hc⟩
  · have hr := run_append_nil (P := Try.prog) w 32 ty 3 i5 _ hu hi5 hz0 ⟨vb, 0, none⟩ 1 1 [.int .i64 x] (by rw [hz1]; rfl) hsrc (by decide) (by decide) (by rw [hz2]; decide)
    refine ⟨_, _, _, hr, ?_, ⟨rfl, rfl, rfl, by simp, fun k hk _ => Below.heap_alloc w.drew _ k hk⟩, fun k hk => .inr (by cases hk; exact Nat.le_refl _)⟩
    have := hq_new w.drew [x] (grownCap w 1 0 3) (grownCap_ge w _ _ _) (by have := grownCap_le_maxLen w 1 0 3 (by decide); unfold maxLen at this; omega) _ (zcells_size _)
    exact this
  · by_cases hroom : l.length + 1 ≤ cap
    · have hr := run_append_room_src (P := Try.prog) w 32 32 ty 3 i5 hu hi5 rb off l.length cap (.slice (some ⟨vb, 0, none⟩) 1 1) 1 [.int .i64 x] (by rw [hz1]; exact Src.ofSlice w hu ⟨vb, 0, none⟩ 1 1 _ rfl hsrc hone) hroom
        (fun j hj => by
          have hj0 : j = 0 := by simpa using hj
          subst hj0
          rw [hz1, cell_of hg, Option.isSome_iff_exists]
          exact ⟨_, Array.getElem?_eq_getElem (by omega)⟩) (fun j _ => frozen_of hg)
      rw [hz1, Nat.mul_one] at hr
      obtain ⟨cur', e1, e2, e3⟩ := setCells_block rb [.int .i64 x] (off + l.length) w cur 3 hg (by simp; omega)
      refine ⟨_, _, _, hr, .inr ⟨rb, off, cap, cur', by rw [hlen], by rw [hlen]; exact hroom, hcm, e1, by rw [e2]; exact hs, fun i y hi => ?_⟩, (setCells_keeps rb _ _ _).own rfl, fun k hk => .inl hk⟩
      rw [e3]
      have hil : i < l.length + 1 := by rw [← hlen]; exact (List.getElem?_eq_some_iff.1 hi).1
      by_cases e : i = l.length
      · subst e
        rw [if_pos (by simp)]
        simp at hi
        subst hi
        simp
      · rw [if_neg (by omega)]
        rw [List.getElem?_append_left (by omega)] at hi
        exact hc i y hi
    · have hr := run_append_grow (P := Try.prog) w 32 ty 3 i5 _ hu hi5 hz0 ⟨rb, off, none⟩ l.length cap (icells l) (by rw [hz1]; simp) (fun j u hj => by
          obtain ⟨y, hy, rfl⟩ := icell_at hj
          rw [Addr.add_mid, cell_of hg]
          exact hc j y hy) ⟨vb, 0, none⟩ 1 1 [.int .i64 x] (by rw [hz1]; rfl) hsrc (by omega) (by omega) (growslice_fits (by omega) (by rw [hz2]; omega))
      refine ⟨_, _, _, hr, ?_, ⟨rfl, rfl, rfl, by simp, fun k hk _ => Below.heap_alloc w.drew _ k hk⟩, fun k hk => .inr (by cases hk; exact Nat.le_refl _)⟩
      have := hq_new w.drew (l ++ [x]) (grownCap w (l.length + 1) cap 3) (by rw [hlen]; exact grownCap_ge w _ _ _) (by have := grownCap_le_maxLen w (l.length + 1) cap 3 (by unfold maxLen; omega); unfold maxLen at this; omega) (Builtin.zeroCells (Value.int .i64 0).cells (grownCap w (l.length + 1) cap 3 - (l.length + 1))) (by rw [zcells_size, hlen])
      rw [hlen, hic] at this
      simpa using this
end Go.Proofs.Ytkodpoijdaoihaa
