/-
  bywashbook: growInts.
-/
import Derived.Test.YtkodpoijdaoihaaCGw
namespace Go.Proofs.Ytkodpoijdaoihaa
open Go.RowKit

section
variable {B0 : Nat} {w W W' : World} {kb : Nat} {fv wv gv : Value} {fs gs : List PL}
/-- A grown list among the grown ones. -/
theorem Gw.push {B j N vb : Nat} {lv : Value} (h : Gw B0 w W kb fv wv fs gv gs) (hl : Gl B W kb fv fs gv gs j lv N) (hB : w.heap.size ≤ B) (hgs : gs.length = j) (hj : j ≤ 250) (hN : N ≤ 1000) (hv : W.heap[vb]? = some (.cells #[lv] 32 (0, 0))) (ty : TypeId) :
    ∃ x n' c W', (Builtin.append_ #[35, 35] ty #[gv, .slice (some ⟨vb, 0, none⟩) 1 1]).run Try.prog W = .ok (.slice x n' c) W' ∧ Hid (Gw B0 w W' kb fv wv fs (.slice x n' c) (gs ++ [(lv, marks j 0 N)])) := by
  obtain ⟨xa, xn, xc, rfl⟩ := row_slice hl.row
  obtain ⟨v', W', a1, a2, a3, a4⟩ := app_list h.g (.slice xa xn xc) rfl vb hv (by omega) ty
  obtain ⟨x, n', c, rfl⟩ := row_slice a2
  refine ⟨x, n', c, W', a1, ?_⟩
  have hk : Keeps (fun k => gv.ownBlock = some k) W W' := (Keeps.refl _ W).grown a3 fun k hk => .inl hk
  have hf : ∀ k, lfoot fv fs k → ¬ gv.ownBlock = some k := fun k e e2 => by
    have h1 := h.out k e2
    have h2 := h.old k e
    omega
  refine ⟨h.ke.trans hk (fun k hkw e => by have := h.out k e; omega), h.hi, ⟨?_, h.f.f.keeps hk hf, h.f.apart⟩, ⟨?_, ?_⟩, ?_, h.old, h.isf, ?_⟩
  · rw [hk.block kb h.f.lt (row_not h.g.outer h.f.blk (by decide))]
    exact h.f.blk
  · rw [vals_append, List.length_append]
    exact a2
  · intro q hq
    rcases List.mem_append.1 hq with hq | hq
    · exact hk.row (h.g.rows q hq) fun k e e2 => rows_other h.g.outer (h.g.rows q hq) (by decide) e2 e
    · obtain rfl := List.mem_singleton.1 hq
      simp only [marks_length]
      exact hk.row hl.row fun k e e2 => rows_other h.g.outer hl.row (by decide) e2 e
  · intro k e
    rcases a4 k e with e | e
    · exact h.out k e
    · exact Nat.le_trans h.ke.size e
  · intro s q hq
    rw [List.getElem?_append] at hq
    by_cases hs : s < gs.length
    · rw [if_pos hs] at hq
      exact h.isg s q hq
    · rw [if_neg hs] at hq
      have hsj : s - gs.length = 0 := by
        have := (List.getElem?_eq_some_iff.1 hq).1
        simp at this
        omega
      obtain rfl : s = j := by omega
      rw [hsj] at hq
      simp at hq
      subst hq
      simp only [marks_length]
      refine ⟨⟨hN, trivial⟩, ?_⟩
      rcases hl.ext with ⟨rb, cap, l, e1, e2, e3⟩ | hx
      · exact .inl ⟨_, e1, by rw [e2]; rfl⟩
      · exact .inr fun k e => Nat.le_trans hB (hx k e)
end

theorem grow_len {w : World} {b e s n : Nat} {v : Value} {xs : List Value} (h : w.ownsRow b e s v n xs) : ∃ a c, v = .slice a n c := by
  rcases h.2 with ⟨rfl, hx⟩ | ⟨rb, cap, cur, rfl, _⟩
  · exact ⟨none, 0, by rw [hx]⟩
  · exact ⟨_, _, rfl⟩

set_option maxRecDepth 100000 in
set_option maxHeartbeats 2000000 in
theorem growInts_ok {w : World} {kb : Nat} {fv wv : Value} {fs : List PL} (h : Fs w kb fv wv fs) (hn : fs.length ≤ 250) (hl : ∀ (s : Nat) (p : PL), fs[s]? = some p → p.2.length ≤ 150 ∧ p.2 = marks s 0 p.2.length) {B0 : Nat} (hB0 : ∀ k, lfoot fv fs k → B0 ≤ k) :
    Calls Try.prog 34 #[.pointer (some ⟨kb, 0, none⟩)] w fun e w' => ∃ x n c gs, e = .returned (.slice x n c) ∧ gs.length = fs.length ∧ Gw B0 w w' kb fv wv fs (.slice x n c) gs := by
  obtain ⟨fa, fc, rfl⟩ := grow_len h.f.outer
  have H : Hid (Gw B0 w w kb (.slice fa fs.length fc) wv fs (.slice none 0 0) []) := ⟨Keeps.refl _ _, hB0, h, ⟨World.ownsRow_nil _ _ _ _, fun p hp => by cases hp⟩, fun k hk => by simp [Value.ownBlock] at hk, fun k hk => h.f.footlt k hk, hl, fun s q hq => by simp at hq⟩
  clear h hl hB0
  go_enter Try.func34, Try.ntmps34
  go_wp2
  go_loopg [3, 4] fs.length (fun k gvv i wr => ∃ j : Nat, i = .int .i64 j ∧ k + j = fs.length ∧ ∃ ga gn gc gs, gvv = .slice ga gn gc ∧ Hid (gs.length = j ∧ Gw B0 w wr kb (.slice fa fs.length fc) wv fs (.slice ga gn gc) gs))
  case atStart => exact ⟨0, rfl, rfl, none, 0, 0, [], rfl, rfl, H.out⟩
  case round =>
    obtain ⟨j, rfl, hk, ga, gn, gc, gs, rfl, G⟩ := hrel
    have c4 := G.out.2.f.cells.1
    by_cases hj : j < fs.length
    · rcases G.out.2.f.f.outer.2 with ⟨_, hx⟩ | ⟨rf, cf1, curf, hfv, z1, z2, hnf, hcf, z3⟩
      · omega
      simp only [Value.slice.injEq, true_and] at hfv
      obtain ⟨rfl, rfl⟩ := hfv
      have q1 : wr.cell? ⟨rf, j, none⟩ = some (fs[j]'hj).1 := list_cell G.out.2.f.f j hj
      have hrow := G.out.2.f.f.rows _ (List.getElem_mem hj)
      have hft : fs[j]? = some (fs[j]'hj) := List.getElem?_eq_getElem hj
      obtain ⟨hll, hma⟩ := G.out.2.isf j _ hft
      generalize fs[j]'hj = m at *
      obtain ⟨mv, l⟩ := m
      simp only at hrow q1 hll hma
      obtain ⟨xa, xc, rfl⟩ := grow_len hrow
      have G0 : Hid (gs.length = j ∧ Gw B0 w wr kb (.slice (some ⟨rf, 0, none⟩) fs.length fc) wv fs (.slice ga gn gc) gs ∧ Gl wr.heap.size wr kb (.slice (some ⟨rf, 0, none⟩) fs.length fc) fs (.slice ga gn gc) gs j (.slice xa l.length xc) l.length ∧ gk + j = fs.length ∧ w.heap.size ≤ wr.heap.size) := by
        refine ⟨G.out.1, G.out.2, ⟨by rw [← hma]; exact hrow, ?_, G.out.2.lt, Nat.le_refl _⟩, hk, G.out.2.ke.size⟩
        rcases hrow.2 with ⟨hx, h0⟩ | ⟨rb, cap, cur, hx, _⟩
        · exact .inr fun k e => by rw [hx] at e; simp [Value.ownBlock] at e
        · rw [hx] at hft
          exact .inl ⟨rb, cap, l, hft, hx, Nat.le_refl _⟩
      unfold maxLen at hcf
      clear G hk hrow hft hma z1 z2 z3 curf H
      go_wp2
      obtain ⟨gk0, rfl⟩ : ∃ g, g = gk := ⟨gk, rfl⟩
      obtain ⟨wr0, rfl⟩ : ∃ g, g = wr := ⟨wr, rfl⟩
      clear c4 q1
      go_loopg [5, 6] 12 (fun k lv i wr => ∃ t : Nat, i = .int .i64 t ∧ k + t = 12 ∧ ∃ ya yc, lv = .slice ya (l.length + t) yc ∧ Hid (Gw B0 w wr kb (.slice (some ⟨rf, 0, none⟩) fs.length fc) wv fs (.slice ga gn gc) gs ∧ Gl wr0.heap.size wr kb (.slice (some ⟨rf, 0, none⟩) fs.length fc) fs (.slice ga gn gc) gs j (.slice ya (l.length + t) yc) (l.length + t)))
      case atStart => exact ⟨0, rfl, rfl, xa, xc, rfl, G0.out.2.1, G0.out.2.2.1⟩
      case round =>
        obtain ⟨t, rfl, hk, ya, yc, rfl, G⟩ := hrel
        have HJ := hid G0.out.1
        by_cases ht : t < 12
        · have hM := hid fun W => mark_ok j (l.length + t) 1 W (by omega) (by omega) (by omega)
          have HT := hid ht
          have HK := hid hk
          clear hk
          have hti : (t : Int) < 12 := by omega
          clear ht
          generalize hq : l.length + t = N at *
          have HQ := hid hq
          clear hq
          go_wp2_with fail
          refine Calls.mono (hM.out _) ?_
          rintro e wq ⟨v, rfl, hv, kq⟩
          obtain ⟨va, vc, rfl⟩ := grow_len hv
          obtain ⟨x, n', c, W', R, HN⟩ := Gl.step (G.out.1.keep kq (fun _ _ => id) (fun _ _ e => e.elim)) (G.out.2.quiet kq) G0.out.2.2.2.2 (Nat.le_of_eq HJ.out) hv (by omega) (by have := HQ.out; have := HT.out; omega) 32
          have R1 := hid R
          obtain ⟨za, zc, hz⟩ := grow_len HN.out.2.row
          simp only [Value.slice.injEq] at hz
          obtain ⟨rfl, rfl, rfl⟩ := hz
          clear R G hM hv kq
          go_wp2_with (at_builtin; refine wpList_append_run rfl _ _ 32 32 rfl _ _ rfl rfl R1.out ?_)
          have hk := HK.out
          have ht := HT.out
          go_roundg (gk - 1)
          case measure => omega
          case rel =>
            obtain rfl := HQ.out
            exact ⟨t + 1, by simp, by omega, x, c, rfl, HN.out⟩
        · obtain rfl : t = 12 := by omega
          have hM := hid fun W => mark_ok j (l.length + 12) 60 W (by omega) (by omega) (by omega)
          generalize hq : l.length + 12 = N at *
          have hN : N ≤ 200 := by omega
          have HN' := hid hN
          clear hN hq hk ht
          go_wp2_with fail
          refine Calls.mono (hM.out _) ?_
          rintro e wq ⟨v, rfl, hv, kq⟩
          obtain ⟨va, vc, rfl⟩ := grow_len hv
          obtain ⟨x, n', c, W', R, HN⟩ := Gl.step (G.out.1.keep kq (fun _ _ => id) (fun _ _ e => e.elim)) (G.out.2.quiet kq) G0.out.2.2.2.2 (Nat.le_of_eq HJ.out) hv (by omega) (by have := HN'.out; omega) 32
          have R1 := hid R
          have ka := keeps_alloc W' (.cells #[.slice x n' c] 32)
          obtain ⟨x2, n2, c2, W2, R2, HP⟩ := Gw.push (HN.out.1.keep ka (fun _ _ => id) (fun _ _ e => e.elim)) (HN.out.2.quiet ka) G0.out.2.2.2.2 HJ.out (by omega) (by have := HN'.out; omega) (heap_alloc_new W' _) 35
          have R3 := hid R2
          clear R R2 G hM hv kq ka
          go_wp2_with (at_builtin; first | refine wpList_append_run rfl _ _ 32 32 rfl _ _ rfl rfl R1.out ?_ | refine wpList_append_run rfl _ _ 35 35 rfl _ _ rfl rfl R3.out ?_)
          have hk := G0.out.2.2.2.1
          go_roundg (gk0 - 1)
          case measure => omega
          case rel => exact ⟨j + 1, by simp, by omega, x2, n2, c2, _, rfl, by rw [List.length_append, HJ.out]; rfl, HP.out⟩
    · obtain rfl : j = fs.length := by omega
      clear hk
      go_wp2
      go_ret
      exact ⟨_, _, _, gs, rfl, G.out⟩
end Go.Proofs.Ytkodpoijdaoihaa
