/-
  slices.Index, Insert at the front, Delete of one, Clone, over numbers that are held.
-/
import Derived.Test.YtkodpoijdaoihaaNMem
namespace Go.Proofs.Ytkodpoijdaoihaa
open Go.RowKit

theorem hq_getD {w : World} {rb off : Nat} {cur : Array Value} {l : List Int} (hg : w.heap[rb]? = some (.cells cur 3 (0, 0))) (hc : ∀ i x, l[i]? = some x → cur[off + i]? = some (.int .i64 x)) : ∀ j, j < l.length → w.cell? ⟨rb, off + j, none⟩ = some (.int .i64 (l.getD j 0)) := fun j hj => by
  rw [cell_of hg, hc j (l[j]'hj) (List.getElem?_eq_getElem hj)]
  simp [List.getD, hj]
theorem hq_at {w : World} {rb off : Nat} {cur : Array Value} {l : List Int} (hg : w.heap[rb]? = some (.cells cur 3 (0, 0))) (hc : ∀ i x, l[i]? = some x → cur[off + i]? = some (.int .i64 x)) : ∀ j v, (icells l)[j]? = some v → w.cell? ⟨rb, off + j, none⟩ = some v := fun j v hj => by
  obtain ⟨y, hy, rfl⟩ := icell_at hj
  rw [cell_of hg]
  exact hc j y hy
theorem index_ok {w : World} {v : Value} {l : List Int} (h : Hq w v l) (id : Int) : Calls Try.prog 21 #[v, .int .i64 id] w fun e w' => e = .returned (.int .i64 (placeQ l id)) ∧ w = w' := by
  rcases h with ⟨rfl, rfl⟩ | ⟨rb, off, cap, cur, rfl, hcap, hcm, hg, hs, hc⟩
  · exact (Any.slices_Index_int_empty lays108 none 0 id w).mono fun e w' h => ⟨h.1, h.2.symm⟩
  · refine (Any.slices_Index_int lays108 rb off l.length cap l id w (Nat.le_refl _) (by omega) (hq_getD hg hc)).mono fun e w' h => ⟨?_, h.2.symm⟩
    rw [h.1, List.take_length]
    rfl
theorem clone_ok {w : World} {v : Value} {l : List Int} (h : Hq w v l) (hl : l.length ≤ 1000000) : Calls Try.prog 22 #[v] w fun e w' => ∃ x c, e = .returned (.slice x l.length c) ∧ w'.ownsRow w.heap.size 3 1 (.slice x l.length c) l.length (icells l) ∧ Keeps nobody w w' := by
  have out : ∀ {w' : World} {v' : Value} {k : Nat} {xs : List Value}, w'.ownsRow w.heap.size 3 1 v' k xs → ∃ x c, v' = .slice x k c := by
    intro w' v' k xs h
    rcases h.2 with ⟨rfl, rfl⟩ | ⟨g, cap, cur, rfl, _⟩
    · exact ⟨none, 0, rfl⟩
    · exact ⟨_, _, rfl⟩
  rcases h with ⟨rfl, rfl⟩ | ⟨rb, off, cap, cur, rfl, hcap, hcm, hg, hs, hc⟩
  · refine (Any.slices_Clone_int_nil lays15 0 0 w).mono ?_
    rintro e w' ⟨rfl, rfl⟩
    exact ⟨none, 0, rfl, World.ownsRow_nil _ _ _ _, Keeps.refl _ _⟩
  · by_cases h0 : l.length = 0
    · obtain rfl : l = [] := List.eq_nil_of_length_eq_zero h0
      refine (Any.slices_Clone_int_zero lays15 ⟨rb, off, none⟩ cap w).mono ?_
      rintro e w' ⟨v', rfl, h1, _, h2⟩
      obtain ⟨x, c, rfl⟩ := out h1
      exact ⟨x, c, rfl, h1, keeps_of_below h2⟩
    · refine (Any.slices_Clone_int lays15 rb off l.length cap l w (Nat.le_refl _) (by omega) (hq_getD hg hc)).mono ?_
      rintro e w' ⟨v', rfl, h1, _, h2⟩
      obtain ⟨x, c, rfl⟩ := out h1
      rw [List.take_length] at h1
      exact ⟨x, c, rfl, h1, keeps_of_below h2⟩
theorem delete_ok {w : World} {v : Value} {l : List Int} (h : Hq w v l) (i : Nat) (hi : i < l.length) : Calls Try.prog 20 #[v, .int .i64 (i : Int), .int .i64 ((i : Int) + 1)] w fun e w' => ∃ a c, e = .returned (.slice a (l.length - 1) c) ∧ Left v (l.take i ++ l.drop (i + 1)) w (.slice a (l.length - 1) c) w' := by
  rcases h with ⟨rfl, rfl⟩ | ⟨rb, off, cap, cur, rfl, hcap, hcm, hg, hs, hc⟩
  · simp at hi
  · have H := Any.slices_Delete_int_cells lays23 rb off l.length cap i (i + 1) l w (Nat.le_refl _) hcap hcm (by omega) (by omega) (hq_getD hg hc) (fun j _ => frozen_of hg)
    have e1 : ((i + 1 : Nat) : Int) = (i : Int) + 1 := by omega
    have e2 : l.length - (i + 1 - i) = l.length - 1 := by omega
    rw [e1, e2, List.take_length] at H
    refine H.mono ?_
    rintro e w' ⟨rfl, q, rfl⟩
    have hlen : (l.take i ++ l.drop (i + 1)).length = l.length - 1 := by simp; omega
    have hz : (i + 1 - i) = 1 := by omega
    rw [hz]
    obtain ⟨cur', f1, f2, f3⟩ := setCells_block rb ((l.take i ++ l.drop (i + 1) ++ List.replicate 1 0).map (Value.int .i64)) off (w.drewN q) cur 3 hg (by rw [List.length_map, List.length_append, hlen]; simp; omega)
    refine ⟨_, _, rfl, .inr ⟨rb, off, cap, cur', by rw [hlen], by rw [hlen]; omega, hcm, f1, by rw [f2]; exact hs, fun j x hj => ?_⟩, (((Keeps.refl (fun k => k = rb) w).drewN q).trans (setCells_keeps rb _ _ _) fun _ _ h => h).own rfl, fun k hk => .inl hk⟩
    have hjl : j < l.length - 1 := by rw [← hlen]; exact (List.getElem?_eq_some_iff.1 hj).1
    rw [f3, if_pos (by rw [List.length_map, List.length_append, hlen]; simp; omega)]
    rw [List.getElem?_map, Nat.add_sub_cancel_left, List.getElem?_append_left (by rw [hlen]; exact hjl), hj]
    rfl
theorem left_of {w w' : World} {v v' : Value} {l : List Int} (hv : Hq w' v' l) (hk : Keeps (fun k => v.ownBlock = some k) w w') (ho : ∀ k, v'.ownBlock = some k → v.ownBlock = some k ∨ w.heap.size ≤ k) : Left v l w v' w' := ⟨hv, hk, ho⟩
set_option maxHeartbeats 2000000 in
theorem insert_ok {w : World} {v : Value} {l : List Int} (h : Hq w v l) (x : Int) (vb : Nat) (hv : w.heap[vb]? = some (.cells #[.int .i64 x] 3 (0, 0))) (hne : v.ownBlock ≠ some vb) (hl : l.length ≤ 1000000) :
    Calls Try.prog 19 #[v, .int .i64 0, .slice (some ⟨vb, 0, none⟩) 1 1] w fun e w' => ∃ a c, e = .returned (.slice a (l.length + 1) c) ∧ Left v (x :: l) w (.slice a (l.length + 1) c) w' := by
  have hone : ∀ u ∈ [Value.int .i64 x], u.oneCell' = true := fun u hu => by obtain rfl := List.mem_singleton.1 hu; rfl
  have hvs : ∀ j u, [Value.int .i64 x][j]? = some u → w.cell? ⟨vb, 0 + j, none⟩ = some u := by
    intro j u hj
    match j, hj with
    | 0, hj => simp at hj; subst hj; rw [cell_of hv]; rfl
    | j + 1, hj => simp at hj
  have empty : ∀ (base : Option Addr), Calls Try.prog 19 #[.slice base 0 0, .int .i64 0, .slice (some ⟨vb, 0, none⟩) 1 1] w fun e w' => ∃ a c, e = .returned (.slice a (([] : List Int).length + 1) c) ∧ Left (.slice base 0 0) [x] w (.slice a (([] : List Int).length + 1) c) w' := fun base => by
    refine (Any2.slices_Insert_int_end_grow lays21 base 0 0 vb 0 1 1 [] [.int .i64 x] w (by decide) (by decide) (by decide) (by decide) rfl rfl (fun _ => rfl) (fun a _ j u hj => by simp at hj) hvs hone).mono ?_
    rintro e w' ⟨rfl, rfl⟩
    refine ⟨_, _, rfl, ?_, ⟨rfl, rfl, rfl, by simp, fun k hk _ => Below.heap_alloc w.drew _ k hk⟩, fun k hk => .inr (by cases hk; exact Nat.le_refl _)⟩
    have := hq_new w.drew [x] (grownCap w 1 0 3) (grownCap_ge w _ _ _) (by have := grownCap_le_maxLen w 1 0 3 (by decide); unfold maxLen at this; omega) _ (zcells_size _)
    exact this
  rcases h with ⟨rfl, rfl⟩ | ⟨rb, off, cap, cur, rfl, hcap, hcm, hg, hs, hc⟩
  · exact empty none
  · have hvb : vb ≠ rb := fun e => hne (by rw [e]; rfl)
    by_cases h0 : l.length = 0
    · obtain rfl : l = [] := List.eq_nil_of_length_eq_zero h0
      by_cases hc0 : cap = 0
      · subst hc0
        exact empty (some ⟨rb, off, none⟩)
      · have hlt : off < cur.size := by omega
        refine (Any2.slices_Insert_int_end_room lays21 rb off 0 cap vb 0 1 1 [.int .i64 x] w (by decide) (by omega) hcm rfl (fun j hj => ?_) (fun j _ => frozen_of hg) hvs hone).mono ?_
        · obtain rfl : j = 0 := by omega
          rw [cell_of hg, Option.isSome_iff_exists]
          exact ⟨_, Array.getElem?_eq_getElem (by omega)⟩
        · rintro e w' ⟨rfl, rfl⟩
          obtain ⟨cur', f1, f2, f3⟩ := setCells_block rb [.int .i64 x] (off + 0) w cur 3 hg (by simp; omega)
          refine ⟨_, _, rfl, .inr ⟨rb, off, cap, cur', rfl, by show 1 ≤ cap; omega, hcm, f1, by rw [f2]; exact hs, fun j y hj => ?_⟩, (setCells_keeps rb _ _ _).own rfl, fun k hk => .inl hk⟩
          match j, hj with
          | 0, hj => simp at hj; subst hj; rw [f3]; simp
          | j + 1, hj => simp at hj
    · have hpos : 0 < l.length := by omega
      by_cases hroom : l.length + 1 ≤ cap
      · refine (Any2.slices_Insert_int_shift lays21 rb off l.length cap 0 vb 0 1 1 (icells l) [.int .i64 x] w hpos (by decide) hroom hcm hvb (by simp) rfl (hq_at hg hc) (fun j hj => ?_) (fun j _ => frozen_of hg) hvs (icells_one l) hone 3 3 1 cur.size (by simp [World.shape?, hv]) (by simp [World.shape?, hg]) (by omega) (frozen_of hv) (frozen_of hv)).mono ?_
        · rw [cell_of hg, Option.isSome_iff_exists]
          exact ⟨_, Array.getElem?_eq_getElem (by omega)⟩
        · rintro e w' ⟨rfl, rfl⟩
          obtain ⟨c1, f1, f2, f3⟩ := setCells_block rb ((icells l).drop 0) (off + (0 + 1)) w.drew cur 3 hg (by simp; omega)
          obtain ⟨c2, g1, g2, g3⟩ := setCells_block rb [.int .i64 x] (off + 0) _ c1 3 f1 (by simp; omega)
          refine ⟨_, _, rfl, .inr ⟨rb, off, cap, c2, rfl, hroom, hcm, g1, by rw [g2, f2]; exact hs, fun j y hj => ?_⟩, (((Keeps.refl (fun k => k = rb) w).drew.trans (setCells_keeps rb _ _ _) fun _ _ h => h).trans (setCells_keeps rb _ _ _) fun _ _ h => h).own rfl, fun k hk => .inl hk⟩
          match j, hj with
          | 0, hj => simp at hj; subst hj; rw [g3]; simp
          | j + 1, hj =>
            have hj' : l[j]? = some y := by simpa using hj
            have hjl : j < l.length := (List.getElem?_eq_some_iff.1 hj').1
            rw [g3, if_neg (by simp), f3, if_pos (by simp; omega)]
            have e : off + (j + 1) - (off + (0 + 1)) = j := by omega
            rw [e, List.drop_zero, List.getElem?_map, hj']
            rfl
      · refine (Any2.slices_Insert_int_grow lays21 rb off l.length cap 0 vb 0 1 1 (icells l) [.int .i64 x] w hpos (by decide) hcap (by omega) (by omega) (by simp) rfl (hq_at hg hc) hvs (icells_one l) hone).mono ?_
        rintro e w' ⟨rfl, rfl⟩
        have hge := grownCap_ge w (l.length + 1) cap 3
        have hgm : grownCap w (l.length + 1) cap 3 ≤ 9223372036854775807 := by
          have := grownCap_le_maxLen w (l.length + 1) cap 3 (by unfold maxLen; omega)
          unfold maxLen at this
          omega
        generalize hG : grownCap w (l.length + 1) cap 3 = G at *
        obtain ⟨R0, hR0⟩ : ∃ R0 : Array Value, R0 = ((icells l).take 0).toArray ++ Builtin.zeroCells (Value.int .i64 0).cells (l.length + 1 - 0) ++ Builtin.zeroCells (Value.int .i64 0).cells (G - (l.length + 1)) := ⟨_, rfl⟩
        have hsz : R0.size = G := by
          rw [hR0, Array.size_append, Array.size_append, zcells_size, zcells_size]
          simp
          omega
        show ∃ a c, Ending.returned (.slice (some ⟨w.heap.size, 0, none⟩) (l.length + 1) (grownCap w (l.length + 1) cap 3)) = Ending.returned (.slice a (l.length + 1) c) ∧ Left (.slice (some ⟨rb, off, none⟩) l.length cap) (x :: l) w (.slice a (l.length + 1) c) ((((w.alloc (.cells (((icells l).take 0).toArray ++ Builtin.zeroCells (Value.int .i64 0).cells (l.length + 1 - 0) ++ Builtin.zeroCells (Value.int .i64 0).cells (grownCap w (l.length + 1) cap 3 - (l.length + 1))) 3)).drew.setCells w.heap.size 0 [.int .i64 x]).drew).setCells w.heap.size (0 + 1) ((icells l).drop 0))
        rw [hG, ← hR0]
        have ha : (w.alloc (.cells R0 3)).drew.heap[w.heap.size]? = some (.cells R0 3 (0, 0)) := heap_alloc_new w _
        obtain ⟨c1, f1, f2, f3⟩ := setCells_block w.heap.size [.int .i64 x] 0 _ R0 3 ha (by simp; omega)
        obtain ⟨c2, g1, g2, g3⟩ := setCells_block w.heap.size ((icells l).drop 0) (0 + 1) (((w.alloc (.cells R0 3)).drew.setCells w.heap.size 0 [.int .i64 x]).drew) c1 3 f1 (by simp; omega)
        refine ⟨_, _, rfl, .inr ⟨w.heap.size, 0, G, c2, rfl, hge, hgm, g1, by rw [g2, f2, hsz]; omega, fun j y hj => ?_⟩, ?_, fun k hk => .inr (by cases hk; exact Nat.le_refl _)⟩
        · match j, hj with
          | 0, hj => simp at hj; subst hj; rw [g3]; simp [f3]
          | j + 1, hj =>
            have hj' : l[j]? = some y := by simpa using hj
            have hjl : j < l.length := (List.getElem?_eq_some_iff.1 hj').1
            rw [g3, if_pos (by simp; omega)]
            have e : 0 + (j + 1) - (0 + 1) = j := by omega
            rw [e, List.drop_zero, List.getElem?_map, hj']
            rfl
        · have k1 := setCells_keeps w.heap.size [.int .i64 x] 0 (w.alloc (.cells R0 3)).drew
          have k2 := setCells_keeps w.heap.size ((icells l).drop 0) (0 + 1) (((w.alloc (.cells R0 3)).drew.setCells w.heap.size 0 [.int .i64 x]).drew)
          refine (((((Keeps.refl (fun k => (Value.slice (some ⟨rb, off, none⟩) l.length cap).ownBlock = some k) w).alloc _).drew).trans k1 fun n hn e => by omega).drew).trans k2 fun n hn e => by omega
end Go.Proofs.Ytkodpoijdaoihaa
