/-
  bywashbook: Fields, stillInts.
-/
import Derived.Test.YtkodpoijdaoihaaCMem
namespace Go.Proofs.Ytkodpoijdaoihaa
open Go.RowKit

set_option maxRecDepth 100000 in
set_option maxHeartbeats 2000000 in
theorem ints_ok {w : World} {kb : Nat} {fv wv : Value} {fs ws : List PL} (h : Bk w kb fv wv fs ws) (hsame : fs.length = ws.length) (hn : fs.length < 250) (xa : Option Addr) (ca : Nat) (l : List Int) (ha : w.ownsRow 0 3 1 (.slice xa l.length ca) l.length (icells l)) (hl : l.length ≤ 150) :
    Calls Try.prog 15 #[.pointer (some ⟨kb, 0, none⟩), .slice xa l.length ca] w fun e w' => e = .returned (.tuple #[]) ∧ ∃ fv' wv' cv, Bk w' kb fv' wv' (fs ++ [(.slice xa l.length ca, l)]) (ws ++ [(cv, l)]) ∧ Keeps (kwrites kb fv wv) w w' ∧ ∀ k, (fv'.ownBlock = some k → fv.ownBlock = some k ∨ w.heap.size ≤ k) ∧ (wv'.ownBlock = some k → wv.ownBlock = some k ∨ w.heap.size ≤ k) ∧ (cv.ownBlock = some k → w.heap.size ≤ k) := by
  obtain ⟨c4, c5, cf⟩ := h.cells
  have hlt := h.lt
  obtain ⟨fa, fn, fc, hfv⟩ := row_slice h.f.outer
  obtain ⟨wa, wn, wc0, hwv⟩ := row_slice h.s.outer
  have hfn : ∃ a c, fv = .slice a fs.length c := by
    rcases h.f.outer.2 with ⟨rfl, hx⟩ | ⟨rb, cap, cur, rfl, _⟩
    · exact ⟨none, 0, by rw [hx]⟩
    · exact ⟨_, _, rfl⟩
  clear fa fn fc hfv wa wn wc0 hwv
  obtain ⟨fa, fc, rfl⟩ := hfn
  obtain ⟨x, n, c, w1, r1, r2, r3, r4⟩ := h.more (keeps_alloc w (.cells #[.slice xa l.length ca] 32)) (.slice xa l.length ca) l ha w.heap.size (heap_alloc_new w _) (by omega) 35
  have R1 := hid r1
  obtain ⟨B1, K1, F1⟩ := r4.out
  obtain ⟨d4, d5, df⟩ := B1.cells
  have dlt := B1.lt
  have hA1 : (w1.setCell ⟨kb, 0, none⟩ (.slice x n c)).ownsRow 0 3 1 (.slice xa l.length ca) l.length (icells l) := B1.f.rows (.slice xa l.length ca, l) (by simp)
  have hdl : kb < w1.heap.size := by simpa [World.setCell] using dlt
  have hC : Hid (∀ W, Keeps nobody (w1.setCell ⟨kb, 0, none⟩ (.slice x n c)) W → Calls Try.prog 23 #[.slice xa l.length ca] W fun e w' => ∃ ya yn yc, e = .returned (.slice ya yn yc) ∧ Hid (w'.ownsRow W.heap.size 3 1 (.slice ya yn yc) l.length (icells l)) ∧ Keeps nobody W w') := fun W hW =>
    (copy_ok (hW.row hA1 fun _ _ => id) (by omega)).mono fun _ _ ⟨v', h1, h2, h3⟩ => by
      obtain ⟨ya, yn, yc, rfl⟩ := row_slice h2
      exact ⟨ya, yn, yc, h1, h2, h3⟩
  have hM : Hid (∀ (W : World) (cv : Value) (base bk : Nat), Keeps nobody (w1.setCell ⟨kb, 0, none⟩ (.slice x n c)) W → W.ownsRow base 3 1 cv l.length (icells l) → W.heap[bk]? = some (.cells #[cv] 32 (0, 0)) → ∃ x2 n2 c2 w', (Builtin.append_ #[35, 35] 35 #[wv, .slice (some ⟨bk, 0, none⟩) 1 1]).run Try.prog W = .ok (.slice x2 n2 c2) w' ∧ w'.cell? ⟨kb, 1, none⟩ = some wv ∧ (∀ o, w'.frozen? ⟨kb, o, none⟩ = false) ∧ Hid (Bk (w'.setCell ⟨kb, 1, none⟩ (.slice x2 n2 c2)) kb (.slice x n c) (.slice x2 n2 c2) (fs ++ [(.slice xa l.length ca, l)]) (ws ++ [(cv, l)]) ∧ Keeps (kwrites kb (.slice x n c) wv) (w1.setCell ⟨kb, 0, none⟩ (.slice x n c)) (w'.setCell ⟨kb, 1, none⟩ (.slice x2 n2 c2)) ∧ ∀ k, (Value.slice x2 n2 c2).ownBlock = some k → wv.ownBlock = some k ∨ (w1.setCell ⟨kb, 0, none⟩ (.slice x n c)).heap.size ≤ k)) := fun W cv base bk hW hcv hv => B1.moreW hW cv l (by
      refine ⟨hcv.1, ?_⟩
      rcases hcv.2 with hx | ⟨g, cap, cur, hx, _, hrest⟩
      · exact .inl hx
      · exact .inr ⟨g, cap, cur, hx, Nat.zero_le _, hrest⟩) _ hv (by omega) _
  have HF : Hid (Keeps (kwrites kb (.slice fa fs.length fc) wv) w (w1.setCell ⟨kb, 0, none⟩ (.slice x n c)) ∧ ∀ k, (Value.slice x n c).ownBlock = some k → (Value.slice fa fs.length fc).ownBlock = some k ∨ w.heap.size ≤ k) := ⟨K1, F1⟩
  have hwrow := hid h.s.outer.lt
  clear r1 r4 B1 K1 F1 h hA1 hsame ha
  go_enter Try.func15, Try.ntmps15
  go_wp2_with (at_builtin; refine wpList_append_run rfl _ _ 35 35 rfl _ _ rfl rfl R1.out ?_)
  generalize hW1 : w1.setCell ⟨kb, 0, none⟩ (.slice x n c) = W1 at *
  have HW1 := hid hW1
  clear hW1 R1 r2 r3 c4 c5 cf
  go_region_law (first | (go_simp; go_at_call 23; refine Calls.mono (hC.out _ (by exact (Keeps.refl _ _).drew)) ?_; rintro e w2 ⟨ya, yn, yc, rfl, H2, k2⟩; have k2' : Keeps nobody W1 w2 := Keeps.undrew k2; have e5 : w2.cell? ⟨kb, 1, none⟩ = some wv := (by rw [k2'.cell (p := ⟨kb, 1, none⟩) dlt id]; exact d5); have dl2 : kb < w2.heap.size := Nat.lt_of_lt_of_le dlt k2'.size; have e6 : (w2.alloc (.cells #[.slice ya yn yc] 32)).cell? ⟨kb, 1, none⟩ = some wv := (by rw [(keeps_alloc w2 _).cell (p := ⟨kb, 1, none⟩) dl2 id]; exact e5); obtain ⟨x2, n2, c2, w3, R2, R5, R6, HB⟩ := hM.out (w2.alloc (.cells #[.slice ya yn yc] 32)) (.slice ya yn yc) W1.heap.size w2.heap.size (k2'.alloc _) ((keeps_alloc w2 _).row H2.out fun _ _ => id) (heap_alloc_new w2 _); have R2' := hid R2; clear R2 hC hM d4 d5 df; have k2 := hid k2; have k2' := hid k2') | (refine step_append_run rfl (.tmp 24) (.tmp 27) 35 35 rfl _ _ (by simp [Act.eval]; done) (by simp [Act.eval]; done) R2'.out ?_))
  all_goals
    clear R2' e5 e6 R5 R6
    have hsz := HF.out.1.size
    refine bodyPost_end (v := .tuple #[]) (by simp [results, Try.results15, go_sem]) rfl ⟨rfl, _, _, _, HB.out.1, HF.out.1.trans HB.out.2.1 ?_, fun k => ⟨HF.out.2 k, ?_, ?_⟩⟩
    · rintro j hj (h | h | h)
      · exact .inl h
      · rcases HF.out.2 j h with h | h
        · exact .inr (.inl h)
        · omega
      · exact .inr (.inr h)
    · intro h
      rcases HB.out.2.2 k h with h | h
      · exact .inl h
      · exact .inr (Nat.le_trans hsz h)
    · intro h
      exact Nat.le_trans hsz (H2.out.lt k h).1
end Go.Proofs.Ytkodpoijdaoihaa
