/-
  bywashbook's Book in memory; Fields.
-/
import Derived.Test.YtkodpoijdaoihaaCNil
import Derived.Deep.DeepCutAuto
import Derived.Deep.RegionHeld3
import Derived.BigQuiet
namespace Go.Proofs.Ytkodpoijdaoihaa
open Go.RowKit

theorem Keeps.undrew {S : Nat → Prop} {a b : World} (h : Keeps S a.drew b) : Keeps S a b := ⟨h.os, h.tape, h.output, h.size, h.block⟩
theorem infoL : (Try.prog.info? 32).map (fun i => (i.zero, i.size, i.bytes)) = some (some (.slice none 0 0), 1, 24) := by kernel_rfl

/-- A list that is kept: its value, what is in it. -/
abbrev PL : Type := Value × List Int
def vals (ps : List PL) : List Value := ps.map Prod.fst
theorem vals_length (ps : List PL) : (vals ps).length = ps.length := by simp [vals]
theorem vals_append (ps qs : List PL) : vals (ps ++ qs) = vals ps ++ vals qs := by simp [vals]
/-- Lists of headers, kept in a list. -/
structure Lists (w : World) (v : Value) (ps : List PL) : Prop where
  outer : w.ownsRow 0 32 1 v ps.length (vals ps)
  rows : ∀ p ∈ ps, w.ownsRow 0 3 1 p.1 p.2.length (icells p.2)
def lfoot (v : Value) (ps : List PL) (k : Nat) : Prop := v.ownBlock = some k ∨ ∃ p ∈ ps, p.1.ownBlock = some k
theorem Lists.keeps {S : Nat → Prop} {w w' : World} {v : Value} {ps : List PL} (h : Lists w v ps) (hk : Keeps S w w') (hS : ∀ k, lfoot v ps k → ¬ S k) : Lists w' v ps :=
  ⟨hk.row h.outer fun k e => hS k (.inl e), fun p hp => hk.row (h.rows p hp) fun k e => hS k (.inr ⟨p, hp, e⟩)⟩
theorem Lists.footlt {w : World} {v : Value} {ps : List PL} (h : Lists w v ps) : ∀ k, lfoot v ps k → k < w.heap.size := by
  rintro k (hk | ⟨p, hp, hk⟩)
  · exact (h.outer.lt k hk).2
  · exact ((h.rows p hp).lt k hk).2

/-- Rows of elements of two kinds lie apart; a row lies apart from a struct. -/
theorem row_block {w : World} {b e s n : Nat} {v : Value} {xs : List Value} (h : w.ownsRow b e s v n xs) {k : Nat} (hk : v.ownBlock = some k) : ∃ cur, w.heap[k]? = some (.cells cur e (0, 0)) := by
  rcases h.2 with ⟨rfl, _⟩ | ⟨g, cap, cur, rfl, _, hg, _⟩
  · simp [Value.ownBlock] at hk
  · simp [Value.ownBlock] at hk
    subst hk
    exact ⟨cur, hg⟩
theorem rows_other {w : World} {b1 e1 s1 n1 b2 e2 s2 n2 : Nat} {v1 v2 : Value} {xs1 xs2 : List Value} (h1 : w.ownsRow b1 e1 s1 v1 n1 xs1) (h2 : w.ownsRow b2 e2 s2 v2 n2 xs2) (hne : e1 ≠ e2) {k : Nat} (hk : v1.ownBlock = some k) : v2.ownBlock ≠ some k := by
  intro hk2
  obtain ⟨c1, g1⟩ := row_block h1 hk
  obtain ⟨c2, g2⟩ := row_block h2 hk2
  rw [g1] at g2
  simp at g2
  exact hne g2.2
theorem row_not {w : World} {b e s n : Nat} {v : Value} {xs : List Value} (h : w.ownsRow b e s v n xs) {k t : Nat} {cs : Array Value} (hb : w.heap[k]? = some (.cells cs t (0, 0))) (hne : e ≠ t) : v.ownBlock ≠ some k := by
  intro hk
  obtain ⟨c1, g1⟩ := row_block h hk
  rw [g1] at hb
  simp at hb
  exact hne hb.2

/-- The book: lists of headers, and copies of them. -/
structure Bk (w : World) (kb : Nat) (fv wv : Value) (fs ws : List PL) : Prop where
  blk : w.heap[kb]? = some (.cells #[fv, wv, .slice none 0 0, .slice none 0 0, .slice none 0 0, .slice none 0 0, .slice none 0 0, .slice none 0 0, .slice none 0 0, .slice none 0 0] 41 (0, 0))
  f : Lists w fv fs
  s : Lists w wv ws
  two : ∀ k, fv.ownBlock = some k → wv.ownBlock ≠ some k
def kfoot (kb : Nat) (fv wv : Value) (fs ws : List PL) (k : Nat) : Prop := k = kb ∨ lfoot fv fs k ∨ lfoot wv ws k
/-- What Fields writes. -/
def kwrites (kb : Nat) (fv wv : Value) (k : Nat) : Prop := k = kb ∨ fv.ownBlock = some k ∨ wv.ownBlock = some k
section
variable {w w' : World} {kb : Nat} {fv wv : Value} {fs ws : List PL}
theorem Bk.lt (h : Bk w kb fv wv fs ws) : kb < w.heap.size := (Array.getElem?_eq_some_iff.1 h.blk).1
theorem Bk.footlt (h : Bk w kb fv wv fs ws) : ∀ k, kfoot kb fv wv fs ws k → k < w.heap.size := by
  rintro k (rfl | hk | hk)
  · exact h.lt
  · exact h.f.footlt k hk
  · exact h.s.footlt k hk
theorem Bk.cells (h : Bk w kb fv wv fs ws) : w.cell? ⟨kb, 0, none⟩ = some fv ∧ w.cell? ⟨kb, 1, none⟩ = some wv ∧ ∀ o, w.frozen? ⟨kb, o, none⟩ = false := by
  refine ⟨?_, ?_, fun o => ?_⟩ <;> simp [World.cell?, World.frozen?, h.blk]
theorem Bk.nils (h : Bk w kb fv wv fs ws) : w.cell? ⟨kb, 8, none⟩ = some (.slice none 0 0) ∧ w.cell? ⟨kb, 2, none⟩ = some (.slice none 0 0) ∧ w.cell? ⟨kb, 6, none⟩ = some (.slice none 0 0) ∧ w.cell? ⟨kb, 4, none⟩ = some (.slice none 0 0) := by
  refine ⟨?_, ?_, ?_, ?_⟩ <;> simp [World.cell?, h.blk]
theorem Bk.keeps {S : Nat → Prop} (h : Bk w kb fv wv fs ws) (hk : Keeps S w w') (hS : ∀ k, kfoot kb fv wv fs ws k → ¬ S k) : Bk w' kb fv wv fs ws :=
  ⟨by rw [hk.block kb h.lt (hS kb (.inl rfl))]; exact h.blk, h.f.keeps hk fun k hk => hS k (.inr (.inl hk)), h.s.keeps hk fun k hk => hS k (.inr (.inr hk)), h.two⟩
theorem Bk.quiet (h : Bk w kb fv wv fs ws) (hk : Keeps nobody w w') : Bk w' kb fv wv fs ws := h.keeps hk fun _ _ => id

/-- append of one list to a list of lists, as a run's equation. -/
theorem app_list {w : World} {v : Value} {ps : List PL} (h : Lists w v ps) (a : Value) (h1 : a.oneCell' = true) (vb : Nat) (hv : w.heap[vb]? = some (.cells #[a] 32 (0, 0))) (hn : ps.length ≤ 1000) (ty : TypeId) :
    ∃ v' w', (Builtin.append_ #[35, 35] ty #[v, .slice (some ⟨vb, 0, none⟩) 1 1]).run Try.prog w = .ok v' w' ∧ w'.ownsRow 0 32 1 v' (ps.length + 1) (vals ps ++ [a]) ∧ w.grownBy w' v.ownBlock ∧ ∀ k, v'.ownBlock = some k → v.ownBlock = some k ∨ w.heap.size ≤ k := by
  obtain ⟨i5, hi5, hz0, hz1, hz2⟩ := info_parts infoL
  refine run_append_new (P := Try.prog) 35 ty 32 i5 _ 1 24 Try.underlying35 hi5 hz0 hz1 hz2 rfl (by decide) h.outer ⟨vb, 0, none⟩ 1 1 [a] rfl ?_ ?_ (by unfold maxLen; omega) (by omega) (Nat.zero_le _)
  · intro j u hj
    rw [Addr.add_mid]
    match j, hj with
    | 0, hj => simp at hj; subst hj; simp [World.cell?, hv]
  · intro u hu; simp at hu; subst hu; exact h1

theorem set_cells10 (c0 c1 c2 c3 c4 c5 c6 c7 c8 c9 x : Value) (hb : w.heap[kb]? = some (.cells #[c0, c1, c2, c3, c4, c5, c6, c7, c8, c9] 41 (0, 0))) : (w.setCell ⟨kb, 0, none⟩ x).heap[kb]? = some (.cells #[x, c1, c2, c3, c4, c5, c6, c7, c8, c9] 41 (0, 0)) ∧ (w.setCell ⟨kb, 1, none⟩ x).heap[kb]? = some (.cells #[c0, x, c2, c3, c4, c5, c6, c7, c8, c9] 41 (0, 0)) := by
  constructor <;> simp [World.setCell, hb, Array.getElem?_modify]

/-- One more list among the lists. -/
theorem Bk.more {W : World} (h : Bk w kb fv wv fs ws) (hK : Keeps nobody w W) (a : Value) (l : List Int) (ha : w.ownsRow 0 3 1 a l.length (icells l)) (vb : Nat) (hv : W.heap[vb]? = some (.cells #[a] 32 (0, 0))) (hn : fs.length ≤ 1000) (ty : TypeId) :
    ∃ x n c w', (Builtin.append_ #[35, 35] ty #[fv, .slice (some ⟨vb, 0, none⟩) 1 1]).run Try.prog W = .ok (.slice x n c) w' ∧ w'.cell? ⟨kb, 0, none⟩ = some fv ∧ (∀ o, w'.frozen? ⟨kb, o, none⟩ = false) ∧
      Hid (Bk (w'.setCell ⟨kb, 0, none⟩ (.slice x n c)) kb (.slice x n c) wv (fs ++ [(a, l)]) ws ∧ Keeps (kwrites kb fv wv) w (w'.setCell ⟨kb, 0, none⟩ (.slice x n c)) ∧ ∀ k, (Value.slice x n c).ownBlock = some k → fv.ownBlock = some k ∨ w.heap.size ≤ k) := by
  have hW := h.quiet hK
  obtain ⟨xa, na, ca, rfl⟩ := row_slice ha
  obtain ⟨v', w', r1, r2, r3, r4⟩ := app_list hW.f (.slice xa na ca) rfl vb hv hn ty
  obtain ⟨x, n, c, rfl⟩ := row_slice r2
  have hkf : fv.ownBlock ≠ some kb := row_not hW.f.outer hW.blk (by decide)
  have hb : w'.heap[kb]? = _ := (r3.block kb hW.lt fun e => hkf e.symm).trans hW.blk
  have hnew : ∀ k, (Value.slice x n c).ownBlock = some k → fv.ownBlock = some k ∨ w.heap.size ≤ k := fun k hk => (r4 k hk).imp id fun h => Nat.le_trans hK.size h
  have hKw : Keeps (kwrites kb fv wv) w w' := (hK.mono (fun _ _ h => h.elim)).grown r3 (fun k hk => .inl (.inr (.inl hk)))
  have hK2 : Keeps (fun k => k = kb ∨ fv.ownBlock = some k) W (w'.setCell ⟨kb, 0, none⟩ (.slice x n c)) := ((Keeps.refl _ _).grown r3 (fun k hk => .inl (.inr hk))).setCell (p := ⟨kb, 0, none⟩) (.inl (.inl rfl)) _
  refine ⟨x, n, c, w', r1, by simp [World.cell?, hb], fun o => by simp [World.frozen?, hb], ⟨(set_cells10 _ _ _ _ _ _ _ _ _ _ _ hb).1, ⟨?_, ?_⟩, ?_, ?_⟩, hKw.setCell (p := ⟨kb, 0, none⟩) (.inl (.inl rfl)) _, hnew⟩
  · have hr : w'.ownsRow 0 32 1 (.slice x n c) (fs ++ [(Value.slice xa na ca, l)]).length (vals (fs ++ [(Value.slice xa na ca, l)])) := by
      rw [vals_append, List.length_append]; exact r2
    refine Keeps.row ((Keeps.refl (fun k => k = kb) w').setCell (p := ⟨kb, 0, none⟩) (.inl rfl) _) hr (fun k hk e => ?_)
    subst e
    exact row_not hr hb (by decide) hk
  · intro p hp
    have hrow : W.ownsRow 0 3 1 p.1 p.2.length (icells p.2) := by
      rcases List.mem_append.1 hp with hp | hp
      · exact hW.f.rows p hp
      · simp at hp; subst hp; exact hK.row ha (fun _ _ => id)
    refine hK2.row hrow (fun k hk e => ?_)
    rcases e with rfl | e
    · exact row_not hrow hW.blk (by decide) hk
    · exact rows_other hrow hW.f.outer (by decide) hk e
  · refine hW.s.keeps hK2 (fun k hk e => ?_)
    rcases e with rfl | e
    · rcases hk with hk | ⟨p, hp, hk⟩
      · exact row_not hW.s.outer hW.blk (by decide) hk
      · exact row_not (hW.s.rows p hp) hW.blk (by decide) hk
    · rcases hk with hk | ⟨p, hp, hk⟩
      · exact hW.two k e hk
      · exact rows_other (hW.s.rows p hp) hW.f.outer (by decide) hk e
  · intro k hk hk2
    rcases hnew k hk with e | e
    · exact h.two k e hk2
    · have := (h.s.outer.lt k hk2).2; omega
/-- One more list among the copies. -/
theorem Bk.moreW {W : World} (h : Bk w kb fv wv fs ws) (hK : Keeps nobody w W) (a : Value) (l : List Int) (ha : W.ownsRow 0 3 1 a l.length (icells l)) (vb : Nat) (hv : W.heap[vb]? = some (.cells #[a] 32 (0, 0))) (hn : ws.length ≤ 1000) (ty : TypeId) :
    ∃ x n c w', (Builtin.append_ #[35, 35] ty #[wv, .slice (some ⟨vb, 0, none⟩) 1 1]).run Try.prog W = .ok (.slice x n c) w' ∧ w'.cell? ⟨kb, 1, none⟩ = some wv ∧ (∀ o, w'.frozen? ⟨kb, o, none⟩ = false) ∧
      Hid (Bk (w'.setCell ⟨kb, 1, none⟩ (.slice x n c)) kb fv (.slice x n c) fs (ws ++ [(a, l)]) ∧ Keeps (kwrites kb fv wv) w (w'.setCell ⟨kb, 1, none⟩ (.slice x n c)) ∧ ∀ k, (Value.slice x n c).ownBlock = some k → wv.ownBlock = some k ∨ w.heap.size ≤ k) := by
  have hW := h.quiet hK
  obtain ⟨xa, na, ca, rfl⟩ := row_slice ha
  obtain ⟨v', w', r1, r2, r3, r4⟩ := app_list hW.s (.slice xa na ca) rfl vb hv hn ty
  obtain ⟨x, n, c, rfl⟩ := row_slice r2
  have hkf : wv.ownBlock ≠ some kb := row_not hW.s.outer hW.blk (by decide)
  have hb : w'.heap[kb]? = _ := (r3.block kb hW.lt fun e => hkf e.symm).trans hW.blk
  have hnew : ∀ k, (Value.slice x n c).ownBlock = some k → wv.ownBlock = some k ∨ w.heap.size ≤ k := fun k hk => (r4 k hk).imp id fun h => Nat.le_trans hK.size h
  have hKw : Keeps (kwrites kb fv wv) w w' := (hK.mono (fun _ _ h => h.elim)).grown r3 (fun k hk => .inl (.inr (.inr hk)))
  have hK2 : Keeps (fun k => k = kb ∨ wv.ownBlock = some k) W (w'.setCell ⟨kb, 1, none⟩ (.slice x n c)) := ((Keeps.refl _ _).grown r3 (fun k hk => .inl (.inr hk))).setCell (p := ⟨kb, 1, none⟩) (.inl (.inl rfl)) _
  refine ⟨x, n, c, w', r1, by simp [World.cell?, hb], fun o => by simp [World.frozen?, hb], ⟨(set_cells10 _ _ _ _ _ _ _ _ _ _ _ hb).2, ?_, ⟨?_, ?_⟩, ?_⟩, hKw.setCell (p := ⟨kb, 1, none⟩) (.inl (.inl rfl)) _, hnew⟩
  · refine hW.f.keeps hK2 (fun k hk e => ?_)
    rcases e with rfl | e
    · rcases hk with hk | ⟨p, hp, hk⟩
      · exact row_not hW.f.outer hW.blk (by decide) hk
      · exact row_not (hW.f.rows p hp) hW.blk (by decide) hk
    · rcases hk with hk | ⟨p, hp, hk⟩
      · exact hW.two k hk e
      · exact rows_other (hW.f.rows p hp) hW.s.outer (by decide) hk e
  · have hr : w'.ownsRow 0 32 1 (.slice x n c) (ws ++ [(Value.slice xa na ca, l)]).length (vals (ws ++ [(Value.slice xa na ca, l)])) := by
      rw [vals_append, List.length_append]; exact r2
    refine Keeps.row ((Keeps.refl (fun k => k = kb) w').setCell (p := ⟨kb, 1, none⟩) (.inl rfl) _) hr (fun k hk e => ?_)
    subst e
    exact row_not hr hb (by decide) hk
  · intro p hp
    have hrow : W.ownsRow 0 3 1 p.1 p.2.length (icells p.2) := by
      rcases List.mem_append.1 hp with hp | hp
      · exact hW.s.rows p hp
      · simp at hp; subst hp; exact ha
    refine hK2.row hrow (fun k hk e => ?_)
    rcases e with rfl | e
    · exact row_not hrow hW.blk (by decide) hk
    · exact rows_other hrow hW.s.outer (by decide) hk e
  · intro k hk hk2
    rcases hnew k hk2 with e | e
    · exact h.two k hk e
    · have := (h.f.outer.lt k hk).2; omega
end
end Go.Proofs.Ytkodpoijdaoihaa
