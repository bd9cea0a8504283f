/-
  append of headers to a list that a call owns: what is appended lies wherever.
-/
import Derived.Test.YtladdbppkepphaaDoorGLies
namespace Go.Proofs.YtladdbppkepphaaDoor
open Go.RowKit

theorem lies_src {w : World} {b off : Nat} {l : List Fld} {S : Nat → Prop} (h : Lies w (some ⟨b, off, none⟩) l S) : ∀ j u, (fcells l)[j]? = some u → w.cell? ((⟨b, off, none⟩ : Addr).add j) = some u := by
  rcases h with rfl | ⟨b2, off2, e, hb, _, hc⟩
  · intro j u hu; simp [fcells] at hu
  simp only [Option.some.injEq, Addr.mk.injEq] at e
  obtain ⟨rfl, rfl, _⟩ := e
  intro j u hu
  have hj : j < (fcells l).length := (List.getElem?_eq_some_iff.1 hu).1
  rw [fcells_length] at hj
  have hj2 : j / 2 < l.length := by omega
  obtain ⟨e0, e1⟩ := hc (j / 2) _ (List.getElem?_eq_getElem hj2)
  rw [Addr.add_mid]
  rcases Nat.mod_two_eq_zero_or_one j with hm | hm
  · have ej : j = j / 2 * 2 := by omega
    rw [ej, fcells_at0 l (j / 2) _ (List.getElem?_eq_getElem hj2)] at hu
    rw [ej, ← hu]
    exact e0
  · have ej : j = j / 2 * 2 + 1 := by omega
    rw [ej, fcells_at1 l (j / 2) _ (List.getElem?_eq_getElem hj2)] at hu
    rw [ej, ← hu]
    exact e1
/-- A list that the call owns, its blocks not below base. -/
abbrev Owns (base : Nat) (w : World) (v : Value) (l : List Fld) : Prop := w.ownsRow base 39 2 v l.length (fcells l)
theorem app_lies {w : World} {base : Nat} {v : Value} {l0 l : List Fld} (ho : Owns base w v l0) {a : Option Addr} {S : Nat → Prop} (h : Lies w a l S) (c : Nat) (hl : l0.length + l.length ≤ 100000) (hb : base ≤ w.heap.size) (ty : TypeId) :
    ∃ x c' w', (Builtin.append_ #[22, 22] ty #[v, .slice a l.length c]).run Tryd.prog w = .ok (.slice x (l0 ++ l).length c') w' ∧ Hid (Owns base w' (.slice x (l0 ++ l).length c') (l0 ++ l) ∧ Keeps (fun k => v.ownBlock = some k) w w') := by
  obtain ⟨i5, hi5, hz0, hz1, hz2⟩ := info_parts infoF
  have key : ∃ v' w', (Builtin.append_ #[22, 22] ty #[v, .slice a l.length c]).run Tryd.prog w = .ok v' w' ∧ Owns base w' v' (l0 ++ l) ∧ Keeps (fun k => v.ownBlock = some k) w w' := by
    rcases h with rfl | ⟨b, off, rfl, hb2, hS, hc⟩
    · refine ⟨v, w, run_append_zero (P := Tryd.prog) 22 ty 39 i5 2 Tryd.underlying22 hi5 ho a c, by simpa using ho, Keeps.refl _ _⟩
    · obtain ⟨v', w', r1, r2, r3, _⟩ := run_append_new (P := Tryd.prog) 22 ty 39 i5 _ 2 32 Tryd.underlying22 hi5 hz0 hz1 hz2 rfl (by decide) ho ⟨b, off, none⟩ l.length c (fcells l) (fcells_length l) (lies_src (S := S) (.inr ⟨b, off, rfl, hb2, hS, hc⟩)) (fcells_one l) (by unfold maxLen; omega) (by omega) hb
      refine ⟨v', w', r1, ?_, (Keeps.refl _ _).grown r3 fun k e => .inl e⟩
      rw [← fcells_append, ← List.length_append] at r2
      exact r2
  obtain ⟨v', w', r1, r2, r3⟩ := key
  obtain ⟨x, n, c', rfl⟩ := row_slice r2
  have hn : n = (l0 ++ l).length := by
    rcases r2.2 with ⟨h1, h2⟩ | ⟨rb, cap, cur, h1, _⟩
    · simp only [Value.slice.injEq] at h1; omega
    · simp only [Value.slice.injEq] at h1; exact h1.2.1
  subst hn
  exact ⟨x, c', w', r1, r2, r3⟩
theorem own_nil (base : Nat) (w : World) : Owns base w (.slice none 0 0) [] := World.ownsRow_nil _ _ _ _
theorem own_lit (base : Nat) (w : World) (l : List Fld) (cs : Array Value) (hb : base ≤ w.heap.size) (hl : l.length ≤ 100000) (h : cs.toList = fcells l) : Owns base (w.alloc (.cells cs 39)) (.slice (some ⟨w.heap.size, 0, none⟩) l.length l.length) l := by
  have hs : cs.size = l.length * 2 := by rw [← fcells_length, ← h]; simp
  have := World.ownsRow_lit (base := base) (e := 39) (size := 2) w cs l.length hb (by unfold maxLen; omega) hs
  rwa [h] at this
/-- Its own list lies there; nothing older has turned by an append to it. -/
theorem Owns.lies {base : Nat} {w : World} {x : Option Addr} {n c : Nat} {l : List Fld} (h : Owns base w (.slice x n c) l) : Lies w x l nobody := row_lies h fun _ _ => id
theorem Owns.cap {base : Nat} {w : World} {x : Option Addr} {n c : Nat} {l : List Fld} (h : Owns base w (.slice x n c) l) : l.length ≤ c ∧ c ≤ maxLen := by
  rcases h.2 with ⟨h1, h2⟩ | ⟨rb, cap, cur, h1, _, _, hnc, hcm, _⟩
  · simp only [Value.slice.injEq] at h1; exact ⟨by omega, by rw [h1.2.2]; simp [maxLen]⟩
  · simp only [Value.slice.injEq] at h1
    obtain ⟨_, _, rfl⟩ := h1
    exact ⟨hnc, hcm⟩
theorem Owns.fresh {base : Nat} {w0 w w' : World} {v : Value} {l : List Fld} (h : Owns base w v l) (hk : Keeps nobody w0 w) (hb : w0.heap.size ≤ base) (ha : Keeps (fun k => v.ownBlock = some k) w w') : Keeps nobody w0 w' :=
  (hk.trans ha fun k hk' e => by
    have := (h.lt k e).1
    omega)
/-- append, its run known by an equation, where a guard stands ahead of it: out of a region, as one step of a region that draws. -/
theorem wpList_append_run_g {P : Program} {w : World} {ops : Array Oper} {rest : List Oper} {o : Oper} {a : Act} {Q : Exit → Act → World → Prop} (hw : Region.wanted o (yielded ops a.tmps) = true) (d s : Operand) (t t' : TypeId)
    (ho : o.op = .call { callee := .builtin .append, args := #[d, s], argTypes := #[t, t'] }) (v u : Value) (hd : a.eval d = v) (hs : a.eval s = u) {v' : Value} {w' : World}
    (hr : (Builtin.append_ #[t, t'] o.type #[v, u]).run P w = .ok v' w') (h : wpList P ops Q rest (a.put o.dst v') w') : wpList P ops Q (o :: rest) a w := by
  refine wpList_step fun _ hK => ?_
  rw [if_pos hw]
  unfold Oper.wp execOp
  simp only [ho, resolve, invoke, builtin, Sem.run_bind, Sem.run_pure, Result.andThen_ok, List.map_toArray, List.map_cons, List.map_nil, hd, hs, hr]
  exact hK _ _ h
end Go.Proofs.YtladdbppkepphaaDoor
