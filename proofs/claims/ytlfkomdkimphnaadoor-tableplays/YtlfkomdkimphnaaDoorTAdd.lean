/-
  Package table: Add, Resize.
-/
import Derived.Test.YtlfkomdkimphnaaDoorTIns
import Derived.Deep.DeepCutAuto
namespace Go.Proofs.YtlfkomdkimphnaaDoor
open Go.RowKit

/-- What was done to a table: its list now, its size; which blocks may have turned. -/
def Acted (g : Nat) (v : Value) (size : Nat) (l : List Fld) (w w' : World) : Prop := ∃ v', Tab w' g v' size l ∧ Keeps (tfoot g v) w w' ∧ ∀ k, tfoot g v' k → tfoot g v k ∨ w.heap.size ≤ k

theorem ins_tab {w W : World} {g : Nat} {v : Value} {size : Nat} {l : List Fld} (h : Tab w g v size l) (hK : Keeps nobody w W) (f : Fld) (vb : Nat) (hvb : w.heap.size ≤ vb) (hv : W.heap[vb]? = some (.cells #[.string f.1, .string f.2] 28 (0, 0))) (hs : sum (f :: l) ≤ 512) :
    Calls Tryd.prog 30 #[v, .int .i64 0, .slice (some ⟨vb, 0, none⟩) 1 1] W fun e w' => ∃ a n c, e = .returned (.slice a n c) ∧ w'.cell? ⟨g, 2, none⟩ = some v ∧ (∀ o, w'.frozen? ⟨g, o, none⟩ = false) ∧ Hid (Acted g v size (f :: l) w (w'.setCell ⟨g, 2, none⟩ (.slice a n c))) := by
  have hW := h.quiet hK
  refine Calls.mono (insert_ok hW.row (Nat.zero_le _) f vb hv (fun e => by have := h.rowlt vb e; omega) (by have := h.length; omega)) ?_
  rintro e w' ⟨v', rfl, h1, h2, h3⟩
  obtain ⟨a, n, c, rfl⟩ := row_slice h1
  have hb : w'.heap[g]? = some (.cells #[.bool true, .int .i64 (size : Int), v] 61 (0, 0)) := by
    rw [h2.block g hW.lt fun e => hW.apart e.symm]; exact hW.blk
  refine ⟨a, n, c, rfl, by simp [World.cell?, hb], fun o => by simp [World.frozen?, hb], .slice a n c, ?_, ?_, ?_⟩
  · exact hW.relay h2 h1 hs h3
  · exact hK.mono (fun _ _ h => h.elim) |>.trans (hW.relay_keeps h2) fun _ _ h => h
  · rintro k (hk | hk)
    · exact .inl (.inl hk)
    · rcases h3 k hk with h4 | h4
      · exact .inl (.inr h4)
      · exact .inr (Nat.le_trans hK.size h4)
theorem Acted.trans {g size size' : Nat} {v v1 : Value} {l1 l2 : List Fld} {w w1 w2 : World} (_h : Tab w1 g v1 size l1) (hk : Keeps (tfoot g v) w w1) (hf : ∀ k, tfoot g v1 k → tfoot g v k ∨ w.heap.size ≤ k) (h2 : Acted g v1 size' l2 w1 w2) : Acted g v size' l2 w w2 := by
  obtain ⟨v2, t2, k2, f2⟩ := h2
  refine ⟨v2, t2, hk.trans k2 fun n hn hT => ?_, fun k hk2 => ?_⟩
  · rcases hf n hT with h | h
    · exact h
    · omega
  · rcases f2 k hk2 with h | h
    · exact hf k h
    · exact .inr (Nat.le_trans hk.size h)
theorem Acted.before {g size : Nat} {v : Value} {l : List Fld} {w w1 w2 : World} (hk : Keeps nobody w w1) (h : Acted g v size l w1 w2) : Acted g v size l w w2 := by
  obtain ⟨v2, t2, k2, f2⟩ := h
  exact ⟨v2, t2, (hk.mono (fun _ _ h => h.elim)).trans k2 fun _ _ h => h, fun k hk2 => (f2 k hk2).imp id fun h => Nat.le_trans hk.size h⟩

theorem wrap_fit (x : Int) (h1 : -9223372036854775808 ≤ x) (h2 : x ≤ 9223372036854775807) : IntKind.i64.wrap x = x := by rw [IntKind.wrap_i64]; omega
theorem box_at (w : World) (o o2 : Obj) : ((w.alloc o).alloc o2).heap[w.heap.size]? = some o := by
  rw [Below.heap_alloc (w.alloc o) o2 _ (by simp)]; exact heap_alloc_new w o

theorem add_nil (f : Fld) (w : World) : Calls Tryd.prog 11 #[.pointer none, fval f] w fun e w' => e = .returned (.tuple #[]) ∧ Keeps nobody w w' := by
  obtain ⟨a, b⟩ := f
  go_enter Tryd.func11, Tryd.ntmps11
  go_wp2
  exact bodyPost_ret (v := .tuple #[]) (by simp [results, Tryd.results11, go_sem]) rfl ⟨rfl, (Keeps.refl _ _).alloc _⟩

set_option maxRecDepth 100000 in
set_option maxHeartbeats 2000000 in
theorem add_ok {w : World} {g : Nat} {v : Value} {size : Nat} {l : List Fld} (h : Tab w g v size l) (f : Fld) (hf : f.1.size + f.2.size ≤ 2000) : Calls Tryd.prog 11 #[.pointer (some ⟨g, 0, none⟩), fval f] w fun e w' => e = .returned (.tuple #[]) ∧ Acted g v size (addL size f l) w w' := by
  have hC : Hid (∀ w, Calls Tryd.prog 25 #[fval f] w fun e w' => e = .returned (.int .i64 (cost f : Int)) ∧ w' = w.alloc (.cells #[.string f.1, .string f.2] 28)) := fun w => cost_ok f w hf
  have hcb : cost f ≤ 2032 := by unfold cost; omega
  have hc32 : 32 ≤ cost f := by unfold cost; omega
  have hsz := h.most
  have hS : Hid (∀ W, Keeps nobody w W → Calls Tryd.prog 29 #[.pointer (some ⟨g, 0, none⟩), .int .i64 ((size : Int) - cost f)] W fun e w' => e = .returned (.tuple #[]) ∧ ∃ v', Hid (Tab w' g v' size (keep ((size : Int) - cost f) l) ∧ ∀ k, tfoot g v' k → tfoot g v k ∨ W.heap.size ≤ k) ∧ Keeps (tfoot g v) W w') := fun W hW => by
    refine Calls.mono (shrink_ok (h.quiet hW) _ (by omega)) ?_
    rintro e w' ⟨rfl, v', h1, h2, h3⟩
    exact ⟨rfl, v', ⟨h1, h3⟩, h2⟩
  obtain ⟨h0, h1, h2, h3⟩ := h.cells
  have hlt := h.lt
  have hft := hid h.footlt
  have HA : Hid (addL size f l = if cost f ≤ size then f :: keep ((size : Int) - cost f) l else []) := rfl
  have HF := hid (addL_fits size f l)
  have HN : Hid (¬ cost f ≤ size → keep ((size : Int) - cost f) l = []) := fun hn => keep_neg l _ (by omega)
  generalize addL size f l = L at *
  clear h hf
  obtain ⟨a, b⟩ := f
  generalize cost (a, b) = c at *
  generalize keep ((size : Int) - c) l = K0 at *
  go_enter Tryd.func11, Tryd.ntmps11
  go_wp2
  go_cut [4] (fun x wx => x = .int .i64 ((size : Int) - c) ∧ Keeps nobody w wx ∧ wx.heap[w.heap.size]? = some (.cells #[.string a, .string b] 28 (0, 0)))
  case first =>
    go_region_law (go_simp; go_at_call 25; refine Calls.mono (hC.out _) ?_; rintro e w1 ⟨rfl, rfl⟩)
    all_goals
      go_wp2_with fail
      go_meet
      exact ⟨by rw [wrap_fit _ (by omega) (by omega)], (((Keeps.refl _ _).alloc _).alloc _).drew, box_at w _ _⟩
  case rest =>
    obtain ⟨rfl, hKc, hbx⟩ := hcut
    go_wp2_with fail
    refine Calls.mono (hS.out _ hKc) ?_
    rintro e w1 ⟨rfl, v1, H1, hK1⟩
    have hlc : w.heap.size < wc.heap.size := (Array.getElem?_eq_some_iff.1 hbx).1
    have hb1 : w1.heap[w.heap.size]? = some (.cells #[.string a, .string b] 28 (0, 0)) := by
      rw [hK1.block _ hlc fun hk => by have := hft.out _ hk; omega]; exact hbx
    obtain ⟨d0, d1, d2, d3⟩ := H1.out.1.cells
    have dlt := H1.out.1.lt
    have dsz : w.heap.size < w1.heap.size := Nat.lt_of_lt_of_le hlc hK1.size
    have b0 : w1.cell? ⟨w.heap.size, 0, none⟩ = some (.string a) := by simp [World.cell?, hb1]
    have b1 : w1.cell? ⟨w.heap.size, 1, none⟩ = some (.string b) := by simp [World.cell?, hb1]
    have HK : Hid (Keeps nobody w wc ∧ Keeps (tfoot g v) wc w1) := ⟨hKc, hK1⟩
    clear hbx hb1 hC hS h0 h1 h2 h3 hlc hKc hK1
    by_cases hfit : c ≤ size
    · have hL : L = (a, b) :: K0 := by rw [HA.out, if_pos hfit]
      have hI : Hid (∀ (W : World), Keeps nobody w1 W → W.heap[w1.heap.size]? = some (.cells #[.string a, .string b] 28 (0, 0)) → Calls Tryd.prog 30 #[v1, .int .i64 0, .slice (some ⟨w1.heap.size, 0, none⟩) 1 1] W fun e w' => ∃ a n c, e = .returned (.slice a n c) ∧ w'.cell? ⟨g, 2, none⟩ = some v1 ∧ (∀ o, w'.frozen? ⟨g, o, none⟩ = false) ∧ Hid (Acted g v1 size L w1 (w'.setCell ⟨g, 2, none⟩ (.slice a n c)))) := fun W hW hv => by
        rw [hL]
        exact ins_tab H1.out.1 hW (a, b) _ (Nat.le_refl _) hv (by rw [← hL]; exact Nat.le_trans HF.out hsz)
      clear HA HF HN hL
      go_wp2
      go_region_law (go_simp; go_at_call 30; refine Calls.mono (hI.out _ (by exact ((Keeps.refl _ _).alloc _).drew) (by exact heap_alloc_new w1 _)) ?_; rintro e w2 ⟨a2, n2, c2, rfl, k2', k3', H2⟩)
      all_goals
        go_wp2
        exact bodyPost_end (v := .tuple #[]) (by simp [results, Tryd.results11, go_sem]) rfl ⟨rfl, Acted.before HK.out.1 (Acted.trans H1.out.1 HK.out.2 H1.out.2 H2.out)⟩
    · have hL : L = [] := by rw [HA.out, if_neg hfit]
      have hK0 := HN.out hfit
      subst hL
      subst hK0
      clear HA HF HN
      have hneg : ¬ (0 : Int) ≤ (size : Int) - c := by omega
      go_wp2
      exact bodyPost_end (v := .tuple #[]) (by simp [results, Tryd.results11, go_sem]) rfl ⟨rfl, Acted.before HK.out.1 ⟨v1, H1.out.1, HK.out.2, H1.out.2⟩⟩
end Go.Proofs.YtlfkomdkimphnaaDoor
