/-
  bywashbook: lists that are grown.
-/
import Derived.Test.YtkodpoijdaoihaaCMarked
namespace Go.Proofs.Ytkodpoijdaoihaa
open Go.RowKit

/-- append of a row to a row: in place, or anew. -/
theorem run_append_two {P : Program} {w : World} {base base2 : Nat} (t ty e : TypeId) (i : TypeInfo) (z : Value) (size bytes : Nat) (ht : P.underlying t = some (.slice e)) (hi : P.info? e = some i) (hz : i.zero = some z)
    (hsize : i.size = size) (hby : i.bytes = bytes) (hzs : z.cells.size = size) (hsz : 0 < size)
    {v v2 : Value} {n m : Nat} {xs news : List Value} (hown : w.ownsRow base e size v n xs) (hown2 : w.ownsRow base2 e size v2 m news) (hm : 0 < m) (h1 : ∀ u ∈ news, u.oneCell' = true)
    (h63 : n + m ≤ maxLen) (hbytes : (n + m) * bytes ≤ 140737488355328) (hbase : base ≤ w.heap.size) :
    ∃ x n' c w', (Builtin.append_ #[t, t] ty #[v, v2]).run P w = .ok (.slice x n' c) w' ∧ w'.ownsRow base e size (.slice x n' c) (n + m) (xs ++ news) ∧
      ((∃ rb cap, v = .slice (some ⟨rb, 0, none⟩) n cap ∧ Value.slice x n' c = .slice (some ⟨rb, 0, none⟩) (n + m) cap ∧ w.grownBy w' (some rb)) ∨ (w.grownBy w' none ∧ ∀ k, (Value.slice x n' c).ownBlock = some k → w.heap.size ≤ k)) := by
  rcases hown2.2 with ⟨rfl, hx⟩ | ⟨r2, c2, cur2, rfl, _, _, _, _⟩
  · omega
  rcases hown.2 with ⟨rfl, hn⟩ | ⟨rb, cap, cur, rfl, hb, hg, hnc, hcm, hcs, htk⟩
  · obtain ⟨v', w', a1, a2, a3, a4⟩ := run_append_new (P := P) t ty e i z size bytes ht hi hz hsize hby hzs hsz hown ⟨r2, 0, none⟩ m c2 news hown2.1 (hown2.cells (g := r2) rfl) h1 h63 hbytes hbase
    obtain ⟨x, n', c, rfl⟩ := row_slice a2
    exact ⟨x, n', c, w', a1, a2, .inr ⟨a3, fun k hk => (a4 k hk).resolve_left (by simp [Value.ownBlock])⟩⟩
  · by_cases hroom : n + m ≤ cap
    · obtain ⟨w', a1, a2, a3⟩ := run_append_fits (P := P) w base t ty e i size ht hi hsize rb n cap xs hown ⟨r2, 0, none⟩ m c2 news hown2.1 (hown2.cells (g := r2) rfl) h1 hroom
      exact ⟨_, _, _, w', a1, a2, .inl ⟨rb, cap, rfl, rfl, a3⟩⟩
    · subst hsize
      subst hby
      have hr := run_append_grow (P := P) w t ty e i z ht hi hz ⟨rb, 0, none⟩ n cap xs hown.1 (hown.cells (g := rb) rfl) ⟨r2, 0, none⟩ m c2 news hown2.1 (hown2.cells (g := r2) rfl) (by omega) (by unfold maxLen at h63; omega) (growslice_fits (by omega) hbytes)
      refine ⟨_, _, _, _, hr, ⟨by rw [List.length_append, hown.1, hown2.1, Nat.add_mul], .inr ⟨w.heap.size, _, _, rfl, hbase, heap_alloc_new w.drew _, grownCap_ge w _ _ _, grownCap_le_maxLen w _ _ _ h63, ?_, ?_⟩⟩, .inr ⟨⟨rfl, rfl, rfl, by simp, fun k hk _ => Below.heap_alloc w.drew _ k hk⟩, fun k hk => by simp [Value.ownBlock] at hk; omega⟩⟩
      · simp only [Array.size_append, List.size_toArray, size_zeroCells, hzs, hown.1, hown2.1, ← Nat.add_mul]
        congr 1
        have := grownCap_ge w (n + m) cap e
        omega
      · simp only [Array.toList_append, List.append_assoc]
        have hlen : (xs ++ news).length = (n + m) * i.size := by rw [List.length_append, hown.1, hown2.1, Nat.add_mul]
        rw [← List.append_assoc, ← hlen]
        exact List.take_left

/-- The first of a row. -/
theorem row_front {w : World} {base rb cap n : Nat} {l : List Int} (h : w.ownsRow base 3 1 (.slice (some ⟨rb, 0, none⟩) n cap) n (icells l)) (k : Nat) (hk : k ≤ n) : w.ownsRow base 3 1 (.slice (some ⟨rb, 0, none⟩) k cap) k (icells (l.take k)) := by
  have hln : l.length = n := by have := h.1; rw [icells_length] at this; omega
  rcases h.2 with ⟨hx, _⟩ | ⟨rb', cap', cur, hx, hb, hg, hnc, hcm, hcs, ht⟩
  · cases hx
  simp only [Value.slice.injEq, Option.some.injEq, Addr.mk.injEq, and_true, true_and] at hx
  obtain ⟨rfl, rfl⟩ := hx
  refine ⟨by rw [icells_length, List.length_take]; omega, .inr ⟨rb, cap, cur, rfl, hb, hg, by omega, hcm, hcs, ?_⟩⟩
  rw [← icells_take, ← ht, List.take_take]
  congr 1
  omega
theorem marks_take (i a n k : Nat) (hk : k ≤ n) : (marks i a n).take k = marks i a k := by
  apply List.ext_getElem?
  intro t
  rw [List.getElem?_take]
  by_cases ht : t < k
  · rw [if_pos ht, marks_at _ _ _ _ (by omega), marks_at _ _ _ _ ht]
  · rw [if_neg ht, List.getElem?_eq_none (by rw [marks_length]; omega)]

/-- The book's lists, and the lists that are grown from them. -/
structure Gw (B0 : Nat) (w W : World) (kb : Nat) (fv wv : Value) (fs : List PL) (gv : Value) (gs : List PL) : Prop where
  ke : Keeps (above B0) w W
  hi : ∀ k, lfoot fv fs k → B0 ≤ k
  f : Fs W kb fv wv fs
  g : Lists W gv gs
  out : ∀ k, gv.ownBlock = some k → w.heap.size ≤ k
  old : ∀ k, lfoot fv fs k → k < w.heap.size
  isf : ∀ (s : Nat) (p : PL), fs[s]? = some p → p.2.length ≤ 150 ∧ p.2 = marks s 0 p.2.length
  isg : ∀ (s : Nat) (q : PL), gs[s]? = some q → (q.2.length ≤ 1000 ∧ q.2 = marks s 0 q.2.length) ∧ ((∃ p, fs[s]? = some p ∧ q.1.ownBlock = p.1.ownBlock) ∨ ∀ k, q.1.ownBlock = some k → w.heap.size ≤ k)
section
variable {B0 : Nat} {w W W' : World} {kb : Nat} {fv wv gv : Value} {fs gs : List PL}
theorem Gw.lt (h : Gw B0 w W kb fv wv fs gv gs) : ∀ k, k = kb ∨ lfoot fv fs k ∨ lfoot gv gs k → k < W.heap.size := by
  rintro k (rfl | hk | hk)
  · exact h.f.lt
  · exact h.f.f.footlt k hk
  · exact h.g.footlt k hk
theorem Gw.keep {S : Nat → Prop} (h : Gw B0 w W kb fv wv fs gv gs) (hk : Keeps S W W') (hS : ∀ k, k = kb ∨ lfoot fv fs k ∨ lfoot gv gs k → ¬ S k) (hS2 : ∀ k, k < w.heap.size → S k → B0 ≤ k) : Gw B0 w W' kb fv wv fs gv gs :=
  ⟨h.ke.trans hk hS2, h.hi, ⟨by rw [hk.block kb h.f.lt (hS kb (.inl rfl))]; exact h.f.blk, h.f.f.keeps hk fun k e => hS k (.inr (.inl e)), h.f.apart⟩, h.g.keeps hk fun k e => hS k (.inr (.inr e)), h.out, h.old, h.isf, h.isg⟩
/-- A list is grown in its own place. -/
theorem Gw.inplace (h : Gw B0 w W kb fv wv fs gv gs) {j rb cap N : Nat} {l : List Int} (hj : fs[j]? = some (.slice (some ⟨rb, 0, none⟩) l.length cap, l)) (hgs : gs.length ≤ j) (hk : Keeps (fun k => k = rb) W W') (hrow : W'.ownsRow 0 3 1 (.slice (some ⟨rb, 0, none⟩) N cap) N (icells (marks j 0 N))) (hle : l.length ≤ N) : Gw B0 w W' kb fv wv fs gv gs := by
  have hr0 := h.f.f.rows _ (List.mem_of_getElem? hj)
  simp only at hr0
  have hkb : kb ≠ rb := by
    rintro rfl
    exact row_not hr0 h.f.blk (by decide) rfl
  have hrb : rb < w.heap.size := h.old rb (.inr ⟨_, List.mem_of_getElem? hj, rfl⟩)
  refine ⟨h.ke.trans hk (fun k _ e => by subst e; exact h.hi k (.inr ⟨_, List.mem_of_getElem? hj, rfl⟩)), h.hi, ⟨by rw [hk.block kb h.f.lt hkb]; exact h.f.blk, ⟨?_, ?_⟩, h.f.apart⟩, ⟨?_, ?_⟩, h.out, h.old, h.isf, h.isg⟩
  · exact hk.row h.f.f.outer fun k e e2 => by subst e2; exact rows_other h.f.f.outer hr0 (by decide) e rfl
  · intro p hp
    obtain ⟨s, hs⟩ := List.mem_iff_getElem?.1 hp
    by_cases e : j = s
    · subst e
      rw [hj] at hs
      cases hs
      have := row_front hrow l.length hle
      rw [marks_take _ _ _ _ hle, ← (h.isf j _ hj).2] at this
      exact this
    · exact hk.row (h.f.f.rows p hp) fun k e1 e2 => by subst e2; exact h.f.apart j s _ _ hj hs e k rfl e1
  · exact hk.row h.g.outer fun k e e2 => by subst e2; exact rows_other h.g.outer hr0 (by decide) e rfl
  · intro q hq
    obtain ⟨s, hs⟩ := List.mem_iff_getElem?.1 hq
    have hsl : s < gs.length := (List.getElem?_eq_some_iff.1 hs).1
    refine hk.row (h.g.rows q hq) fun k e1 e2 => ?_
    subst e2
    rcases (h.isg s q hs).2 with ⟨p, hp, ep⟩ | hx
    · exact h.f.apart j s _ _ hj hp (by omega) k rfl (by rw [← ep]; exact e1)
    · have := hx k e1
      omega

/-- The list that is growing. -/
structure Gl (B : Nat) (W : World) (kb : Nat) (fv : Value) (fs : List PL) (gv : Value) (gs : List PL) (j : Nat) (lv : Value) (N : Nat) : Prop where
  row : W.ownsRow 0 3 1 lv N (icells (marks j 0 N))
  ext : (∃ rb cap l, fs[j]? = some (.slice (some ⟨rb, 0, none⟩) l.length cap, l) ∧ lv = .slice (some ⟨rb, 0, none⟩) N cap ∧ l.length ≤ N) ∨ ∀ k, lv.ownBlock = some k → B ≤ k
  low : ∀ k, k = kb ∨ lfoot fv fs k ∨ lfoot gv gs k → k < B
  size : B ≤ W.heap.size
theorem Gl.quiet {B j N : Nat} {lv : Value} (h : Gl B W kb fv fs gv gs j lv N) (hk : Keeps nobody W W') : Gl B W' kb fv fs gv gs j lv N := ⟨hk.row h.row fun _ _ => id, h.ext, h.low, Nat.le_trans h.size hk.size⟩
theorem Gl.step {B j N m b2 : Nat} {lv mv : Value} (h : Gw B0 w W kb fv wv fs gv gs) (hl : Gl B W kb fv fs gv gs j lv N) (hwB : w.heap.size ≤ B) (hgs : gs.length ≤ j) (hm : W.ownsRow b2 3 1 mv m (icells (marks j N m))) (h0 : 0 < m) (hN : N + m ≤ 1000) (ty : TypeId) :
    ∃ x n' c W', (Builtin.append_ #[32, 32] ty #[lv, mv]).run Try.prog W = .ok (.slice x n' c) W' ∧ Hid (Gw B0 w W' kb fv wv fs gv gs ∧ Gl B W' kb fv fs gv gs j (.slice x n' c) (N + m)) := by
  obtain ⟨i5, hi5, hz0, hz1, hz2⟩ := info_parts infoN
  obtain ⟨x, n', c, W', a1, a2, a3⟩ := run_append_two (P := Try.prog) 32 ty 3 i5 _ 1 8 Try.underlying32 hi5 hz0 hz1 hz2 rfl (by decide) hl.row hm h0 (icells_one _) (by unfold maxLen; omega) (by omega) (Nat.zero_le _)
  have hma := marks_append j 0 N m
  rw [Nat.zero_add] at hma
  rw [← icells_append, hma] at a2
  refine ⟨x, n', c, W', a1, ?_⟩
  rcases a3 with ⟨rb, cap, rfl, a4, a5⟩ | ⟨a4, a5⟩
  · have hk : Keeps (fun k => k = rb) W W' := (Keeps.refl _ W).grown a5 fun k hk => .inl (by cases hk; rfl)
    rw [a4] at a2 ⊢
    rcases hl.ext with ⟨rb', cap', l, e1, e2, e3⟩ | hx
    · simp only [Value.slice.injEq, Option.some.injEq, Addr.mk.injEq, and_true, true_and] at e2
      obtain ⟨rfl, rfl⟩ := e2
      exact ⟨h.inplace e1 hgs hk a2 (by omega), ⟨a2, .inl ⟨rb, cap, l, e1, rfl, by omega⟩, hl.low, Nat.le_trans hl.size hk.size⟩⟩
    · have hB : B ≤ rb := hx rb rfl
      refine ⟨h.keep hk (fun k e e2 => ?_) (fun k e e2 => ?_), ⟨a2, .inr fun k e => ?_, hl.low, Nat.le_trans hl.size hk.size⟩⟩
      · have := hl.low k e
        omega
      · omega
      · exact hx k e
  · have hk : Keeps nobody W W' := (Keeps.refl _ W).grown a4 fun k hk => by cases hk
    exact ⟨h.keep hk (fun _ _ => id) (fun _ _ e => e.elim), ⟨a2, .inr fun k e => Nat.le_trans hl.size (a5 k e), hl.low, Nat.le_trans hl.size hk.size⟩⟩
end
end Go.Proofs.Ytkodpoijdaoihaa
