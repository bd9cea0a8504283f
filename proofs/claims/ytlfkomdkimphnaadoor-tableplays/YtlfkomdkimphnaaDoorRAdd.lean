/-
  The reference's Add, Resize.
-/
import Derived.Test.YtlfkomdkimphnaaDoorRShrink
namespace Go.Proofs.YtlfkomdkimphnaaDoor
open Go.RowKit

theorem RActed.trans {g size' : Nat} {v v1 : Value} {l2 : List Fld} {w w1 w2 : World} (hk : Keeps (tfoot g v) w w1) (hf : ∀ k, tfoot g v1 k → tfoot g v k ∨ w.heap.size ≤ k) (h2 : RActed g v1 size' l2 w1 w2) : RActed g v size' l2 w w2 := by
  obtain ⟨v2, t2, k2, f2⟩ := h2
  refine ⟨v2, t2, hk.trans k2 fun n hn hT => ?_, fun k hk2 => ?_⟩
  · rcases hf n hT with h | h
    · exact h
    · omega
  · rcases f2 k hk2 with h | h
    · exact hf k h
    · exact .inr (Nat.le_trans hk.size h)
theorem RActed.before {g size : Nat} {v : Value} {l : List Fld} {w w1 w2 : World} (hk : Keeps nobody w w1) (h : RActed g v size l w1 w2) : RActed g v size l w w2 := by
  obtain ⟨v2, t2, k2, f2⟩ := h
  exact ⟨v2, t2, (hk.mono (fun _ _ h => h.elim)).trans k2 fun _ _ h => h, fun k hk2 => (f2 k hk2).imp id fun h => Nat.le_trans hk.size h⟩

/-- append([]Field{f}, t.L...): what it makes, as a run's equation; the table laid anew. -/
theorem rins_tab {w W : World} {g : Nat} {v : Value} {size : Nat} {l : List Fld} (h : RTab w g v size l) (hK : Keeps nobody w W) (f : Fld) (vb : Nat) (hvb : w.heap.size ≤ vb) (hv : W.heap[vb]? = some (.cells #[.string f.1, .string f.2] 28 (0, 0))) (hs : sum (f :: l) ≤ 512) (ty : TypeId) :
    ∃ a n c w', (Builtin.append_ #[33, 33] ty #[.slice (some ⟨vb, 0, none⟩) 1 1, v]).run Tryd.prog W = .ok (.slice a n c) w' ∧ w'.cell? ⟨g, 1, none⟩ = some v ∧ (∀ o, w'.frozen? ⟨g, o, none⟩ = false) ∧ Hid (RActed g v size (f :: l) w (w'.setCell ⟨g, 1, none⟩ (.slice a n c))) := by
  obtain ⟨i5, hi5, hz0, hz1, hz2⟩ := info_parts infoF
  have hW := h.quiet hK
  have hlen := h.length
  have hvlt : vb < W.heap.size := (Array.getElem?_eq_some_iff.1 hv).1
  have hone : W.ownsRow vb 28 2 (.slice (some ⟨vb, 0, none⟩) 1 1) 1 (fcells [f]) :=
    ⟨rfl, .inr ⟨vb, 1, _, rfl, Nat.le_refl _, hv, Nat.le_refl _, by unfold maxLen; omega, rfl, rfl⟩⟩
  obtain ⟨v', w', h1, h2, h3, h4⟩ := run_append_rows (P := Tryd.prog) 33 ty 28 i5 _ 2 32 Tryd.underlying33 hi5 hz0 hz1 hz2 rfl (by decide) hone hW.row (fcells_one l) (by unfold maxLen; omega) (by omega) (by omega)
  obtain ⟨a, n, c, rfl⟩ := row_slice h2
  have hgb : g ≠ vb := fun e => by have := h.lt; omega
  have hb : w'.heap[g]? = some (.cells #[.int .i64 (size : Int), v] 37 (0, 0)) := by
    rw [h3.block g hW.lt (fun e => hgb (by simpa [Value.ownBlock] using e))]; exact hW.blk
  have hr : w'.ownsRow 0 28 2 (.slice a n c) (f :: l).length (fcells (f :: l)) := by
    have e : fcells [f] ++ fcells l = fcells (f :: l) := by rw [← fcells_append]; rfl
    rw [e] at h2
    refine ⟨fcells_length _, ?_⟩
    rcases h2.2 with ⟨hx, hn⟩ | ⟨rb, cap, cur, hx, _, hg, hrest⟩
    · omega
    · refine .inr ⟨rb, cap, cur, ?_, Nat.zero_le _, hg, ?_⟩
      · rw [hx]; simp [Nat.add_comm]
      · simpa [Nat.add_comm] using hrest
  have hnew : ∀ k, (Value.slice a n c).ownBlock = some k → w.heap.size ≤ k := fun k hk => by
    rcases h4 k hk with h5 | h5
    · simp [Value.ownBlock] at h5; omega
    · exact Nat.le_trans hK.size h5
  refine ⟨a, n, c, w', h1, by simp [World.cell?, hb], fun o => by simp [World.frozen?, hb], .slice a n c, ?_, ?_, ?_⟩
  · refine ⟨?_, ?_, hs, h.most⟩
    · simp [World.setCell, hb, Array.getElem?_modify]
    · refine ⟨hr.1, ?_⟩
      rcases hr.2 with hn' | ⟨rb, cap, cur, hx, q1, q2, q3⟩
      · exact .inl hn'
      · refine .inr ⟨rb, cap, cur, hx, q1, ?_, q3⟩
        rw [Below.heap_setCell _ _ _ _ ?_]
        · exact q2
        · intro e
          simp only at e
          subst e
          have := hnew rb (by rw [hx]; rfl)
          have := h.lt
          omega
  · exact ((hK.mono (fun _ _ h => h.elim)).grown h3 (fun k hk => .inr (by simp [Value.ownBlock] at hk; omega))).setCell (.inl (.inl rfl)) _
  · rintro k (hk | hk)
    · exact .inl (.inl hk)
    · exact .inr (hnew k hk)

set_option maxRecDepth 100000 in
set_option maxHeartbeats 2000000 in
theorem radd_ok {w : World} {g : Nat} {v : Value} {size : Nat} {l : List Fld} (h : RTab w g v size l) (f : Fld) (hf : f.1.size + f.2.size ≤ 2000) : Calls Tryd.prog 17 #[.pointer (some ⟨g, 0, none⟩), fval f] w fun e w' => e = .returned (.tuple #[]) ∧ RActed g v size (addL size f l) w w' := by
  have hC : Hid (∀ w, Calls Tryd.prog 26 #[fval f] w fun e w' => e = .returned (.int .i64 (cost f : Int)) ∧ w' = w.alloc (.cells #[.string f.1, .string f.2] 28)) := fun w => rcost_ok f w hf
  have hcb : cost f ≤ 2032 := by unfold cost; omega
  have hc32 : 32 ≤ cost f := by unfold cost; omega
  have hsz := h.most
  have hS : Hid (∀ W, Keeps nobody w W → Calls Tryd.prog 33 #[.pointer (some ⟨g, 0, none⟩), .int .i64 (cost f : Int)] W fun e w' => e = .returned (.tuple #[]) ∧ ∃ v', Hid (RTab w' g v' size (keep ((size : Int) - cost f) l) ∧ ∀ k, tfoot g v' k → tfoot g v k ∨ W.heap.size ≤ k) ∧ Keeps (tfoot g v) W w') := fun W hW => by
    refine Calls.mono (rshrink_ok (h.quiet hW) (cost f) (by omega)) ?_
    rintro e w' ⟨rfl, v', h1, h2, h3⟩
    exact ⟨rfl, v', ⟨h1, h3⟩, h2⟩
  have hft := hid h.footlt
  have HA : Hid (addL size f l = if cost f ≤ size then f :: keep ((size : Int) - cost f) l else []) := rfl
  have HF := hid (addL_fits size f l)
  have HN : Hid (¬ cost f ≤ size → keep ((size : Int) - cost f) l = []) := fun hn => keep_neg l _ (by omega)
  generalize addL size f l = L at *
  clear h hf
  obtain ⟨a, b⟩ := f
  generalize cost (a, b) = c at *
  generalize keep ((size : Int) - c) l = K0 at *
  go_enter Tryd.func17, Tryd.ntmps17
  go_wp2_with fail
  refine Calls.mono (hC.out _) ?_
  rintro e w0 ⟨rfl, hw0⟩
  have hKc : Keeps nobody w w0 := by rw [hw0]; exact ((Keeps.refl _ _).alloc _).alloc _
  have hbx : w0.heap[w.heap.size]? = some (.cells #[.string a, .string b] 28 (0, 0)) := by rw [hw0]; exact box_at w _ _
  clear hw0
  go_wp2_with fail
  refine Calls.mono (hS.out _ hKc) ?_
  rintro e w1 ⟨rfl, v1, H1, hK1⟩
  have hlc : w.heap.size < w0.heap.size := (Array.getElem?_eq_some_iff.1 hbx).1
  have hb1 : w1.heap[w.heap.size]? = some (.cells #[.string a, .string b] 28 (0, 0)) := by
    rw [hK1.block _ hlc fun hk => by have := hft.out _ hk; omega]; exact hbx
  obtain ⟨d0, d1, d3⟩ := H1.out.1.cells
  have dlt := H1.out.1.lt
  have dsz : w.heap.size < w1.heap.size := Nat.lt_of_lt_of_le hlc hK1.size
  have b0 : w1.cell? ⟨w.heap.size, 0, none⟩ = some (.string a) := by simp [World.cell?, hb1]
  have b1 : w1.cell? ⟨w.heap.size, 1, none⟩ = some (.string b) := by simp [World.cell?, hb1]
  have HB1 := hid hb1
  have HK : Hid (Keeps nobody w w0 ∧ Keeps (tfoot g v) w0 w1) := ⟨hKc, hK1⟩
  clear hbx hb1 hS hlc hKc hK1
  go_wp2
  go_cut [14] (fun x wx => x = .bool (decide (c ≤ size)) ∧ Keeps nobody w1 wx)
  case first =>
    go_region_law (go_simp; go_at_call 26; refine Calls.mono (hC.out _) ?_; rintro e w2 ⟨rfl, rfl⟩)
    all_goals
      go_wp2_with fail
      go_meet
      exact ⟨by simp, ((Keeps.refl _ _).alloc _).drew⟩
  case rest =>
    obtain ⟨rfl, hKx⟩ := hcut
    have T2 := hid (H1.out.1.quiet hKx)
    have hb2 : wc.heap[w.heap.size]? = some (.cells #[.string a, .string b] 28 (0, 0)) := by
      rw [hKx.block _ dsz id]; exact HB1.out
    clear d0 d1 d3 b0 b1 HB1 hC
    obtain ⟨d0, d1, d3⟩ := T2.out.cells
    have e0 : wc.cell? ⟨w.heap.size, 0, none⟩ = some (.string a) := by simp [World.cell?, hb2]
    have e1 : wc.cell? ⟨w.heap.size, 1, none⟩ = some (.string b) := by simp [World.cell?, hb2]
    have dlt2 := T2.out.lt
    have dsz2 : w.heap.size < wc.heap.size := (Array.getElem?_eq_some_iff.1 hb2).1
    have HX : Hid (∀ {size' L' w'}, RActed g v1 size' L' wc w' → RActed g v size' L' w w') := fun ha =>
      RActed.before HK.out.1 (RActed.trans HK.out.2 H1.out.2 (RActed.before hKx ha))
    by_cases hfit : c ≤ size
    · have hL : L = (a, b) :: K0 := by rw [HA.out, if_pos hfit]
      have hI : Hid (∀ (W : World) (ty : TypeId), Keeps nobody wc W → W.heap[wc.heap.size]? = some (.cells #[.string a, .string b] 28 (0, 0)) → ∃ x n c w', (Builtin.append_ #[33, 33] ty #[.slice (some ⟨wc.heap.size, 0, none⟩) 1 1, v1]).run Tryd.prog W = .ok (.slice x n c) w' ∧ w'.cell? ⟨g, 1, none⟩ = some v1 ∧ (∀ o, w'.frozen? ⟨g, o, none⟩ = false) ∧ Hid (RActed g v1 size L wc (w'.setCell ⟨g, 1, none⟩ (.slice x n c)))) := fun W ty hW hv => by
        rw [hL]
        exact rins_tab T2.out hW (a, b) _ (Nat.le_refl _) hv (by rw [← hL]; exact Nat.le_trans HF.out hsz) ty
      obtain ⟨x, n2, c2, w2, r1, r2, r3, r4⟩ := hI.out (wc.alloc (.cells #[.string a, .string b] 28)).drew 33 ((Keeps.refl _ _).alloc _).drew (heap_alloc_new wc _)
      have R1 := hid r1
      clear hI r1 HA HF HN hL hKx H1 HK T2 hb2
      have hdec : decide (c ≤ size) = true := decide_eq_true hfit
      go_wp2
      go_region_law (refine step_append_run rfl (.tmp 17) (.tmp 21) 33 33 rfl (.slice (some ⟨wc.heap.size, 0, none⟩) 1 1) v1 (by simp [Act.eval]) (by simp [Act.eval]) R1.out ?_)
      all_goals
        go_wp2
        exact bodyPost_end (v := .tuple #[]) (by simp [results, Tryd.results17, go_sem]) rfl ⟨rfl, HX.out r4.out⟩
    · have hL : L = [] := by rw [HA.out, if_neg hfit]
      have hK0 := HN.out hfit
      subst hL
      subst hK0
      have HE := hid (HX.out (⟨v1, T2.out, Keeps.refl _ _, fun _ h => .inl h⟩ : RActed g v1 size [] wc wc))
      have hdec : decide (c ≤ size) = false := decide_eq_false hfit
      clear HX HA HF HN hKx H1 HK T2 hb2
      go_wp2
      exact bodyPost_end (v := .tuple #[]) (by simp [results, Tryd.results17, go_sem]) rfl ⟨rfl, HE.out⟩

theorem rresize_no {w : World} (g : Nat) (n : Int) (hn : ¬ (0 ≤ n ∧ n ≤ 512)) : Calls Tryd.prog 18 #[.pointer (some ⟨g, 0, none⟩), .int .i64 n] w fun e w' => e = .returned (.bool false) ∧ w = w' := by
  have hb : n < 0 ∨ 0 ≤ n ∧ 512 < n := by omega
  clear hn
  rcases hb with h1 | ⟨h1, h2⟩
  all_goals
    go_enter Tryd.func18, Tryd.ntmps18
    go_wp2
    go_ret
    exact ⟨rfl, rfl⟩
set_option maxRecDepth 100000 in
theorem rresize_ok {w : World} {g : Nat} {v : Value} {size : Nat} {l : List Fld} (h : RTab w g v size l) (n : Nat) (hn : n ≤ 512) : Calls Tryd.prog 18 #[.pointer (some ⟨g, 0, none⟩), .int .i64 (n : Int)] w fun e w' => e = .returned (.bool true) ∧ RActed g v n (keep n l) w w' := by
  have hS : Hid (Calls Tryd.prog 33 #[.pointer (some ⟨g, 0, none⟩), .int .i64 0] (w.setCell ⟨g, 0, none⟩ (.int .i64 (n : Int))) fun e w' => e = .returned (.tuple #[]) ∧ Hid (RActed g v n (keep n l) w w')) := by
    have h0 := rshrink_ok (h.resize n hn) 0 (by omega)
    simp only [Int.natCast_zero, Int.sub_zero] at h0
    refine Calls.mono h0 ?_
    rintro e w' ⟨rfl, v', t1, t2, t3⟩
    refine ⟨rfl, v', t1, ?_, fun k hk => by simpa [World.setCell] using t3 k hk⟩
    exact ((Keeps.refl (tfoot g v) w).setCell (p := ⟨g, 0, none⟩) (.inl (.inl rfl)) _).trans t2 fun _ _ h => h
  obtain ⟨h0, h1, h3⟩ := h.cells
  have hlt := h.lt
  clear h
  go_enter Tryd.func18, Tryd.ntmps18
  go_wp2_with fail
  refine Calls.mono hS.out ?_
  rintro e w1 ⟨rfl, H1⟩
  clear h0 h1 h3
  go_wp2
  go_ret
  exact ⟨rfl, H1.out⟩
end Go.Proofs.YtlfkomdkimphnaaDoor
