/-
  The reference's At, Find.
-/
import Derived.Test.YtlfkomdkimphnaaDoorRAdd
namespace Go.Proofs.YtlfkomdkimphnaaDoor
open Go.RowKit

theorem Keeps.undrew {S : Nat → Prop} {a b : World} (h : Keeps S a.drew b) : Keeps S a b := ⟨h.os, h.tape, h.output, h.size, h.block⟩
theorem two_cells {w : World} {k : Nat} {x y : Value} (h0 : w.cell? ⟨k, 0, none⟩ = some x) (h1 : w.cell? ⟨k, 1, none⟩ = some y) (a b : Value) : ((w.setCell ⟨k, 0, none⟩ a).setCell ⟨k, 1, none⟩ b).cell? ⟨k, 0, none⟩ = some a ∧ ((w.setCell ⟨k, 0, none⟩ a).setCell ⟨k, 1, none⟩ b).cell? ⟨k, 1, none⟩ = some b := by
  have hne : (⟨k, 0, none⟩ : Addr) ≠ ⟨k, 1, none⟩ := by simp
  have e0 : (w.setCell ⟨k, 0, none⟩ a).cell? ⟨k, 0, none⟩ = some a := World.cell?_setCell_same _ _ _ h0
  have e1 : (w.setCell ⟨k, 0, none⟩ a).cell? ⟨k, 1, none⟩ = some y := by rw [World.cell?_setCell_other _ _ _ _ hne]; exact h1
  refine ⟨?_, World.cell?_setCell_same _ _ _ e1⟩
  rw [World.cell?_setCell_other _ _ _ _ hne.symm]; exact e0
/-- append(fixed(), t.L...) as a run's equation. -/
theorem rall_run {w w1 : World} {g : Nat} {v : Value} {size : Nat} {l : List Fld} (h : RTab w g v size l) (hK : Keeps nobody w w1) {vf : Value} {base : Nat} (hb : base ≤ w1.heap.size) (hf : w1.ownsRow base 28 2 vf 16 (fcells always)) (ty : TypeId) :
    ∃ v' w', (Builtin.append_ #[33, 33] ty #[vf, v]).run Tryd.prog w1 = .ok v' w' ∧ Hid (w'.ownsRow base 28 2 v' (always ++ l).length (fcells (always ++ l)) ∧ w1.grownBy w' vf.ownBlock) := by
  obtain ⟨i5, hi5, hz0, hz1, hz2⟩ := info_parts infoF
  have hlen := h.length
  obtain ⟨v', w', h1, h2, h3, _⟩ := run_append_rows (P := Tryd.prog) 33 ty 28 i5 _ 2 32 Tryd.underlying33 hi5 hz0 hz1 hz2 rfl (by decide) hf (h.quiet hK).row (fcells_one l) (by unfold maxLen; omega) (by omega) hb
  refine ⟨v', w', h1, ?_, h3⟩
  rw [List.length_append, always_length, fcells_append]
  exact h2

/-- What the first statement of At and of Find leaves. -/
def AllRow (w : World) (l : List Fld) (x : Value) (wx : World) : Prop := ∃ rb cap, x = .slice (some ⟨rb, 0, none⟩) (always ++ l).length cap ∧ w.heap.size ≤ rb ∧ rb < wx.heap.size ∧ cap ≤ maxLen ∧ (always ++ l).length ≤ cap ∧ (∀ W, Keeps nobody wx W → ∀ i f, (always ++ l)[i]? = some f → W.cell? ⟨rb, i * 2, none⟩ = some (.string f.1) ∧ W.cell? ⟨rb, i * 2 + 1, none⟩ = some (.string f.2)) ∧ Keeps nobody w wx
theorem allRow {w w1 w' : World} {l : List Fld} {vf v' : Value} (hK : Keeps nobody w w1) (hf : w1.ownsRow w.heap.size 28 2 vf 16 (fcells always)) (h : w'.ownsRow w.heap.size 28 2 v' (always ++ l).length (fcells (always ++ l)) ∧ w1.grownBy w' vf.ownBlock) : AllRow w l v' w' := by
  obtain ⟨h1, h2⟩ := h
  have hKw : Keeps nobody w w' := hK.grown h2 (fun k hk => .inr (hf.lt k hk).1)
  have hlen : (always ++ l).length = 16 + l.length := by rw [List.length_append, always_length]
  rcases h1.2 with ⟨_, hn⟩ | ⟨rb, cap, cur, rfl, hb, hg, hnc, hcm, _⟩
  · omega
  · refine ⟨rb, cap, rfl, hb, (h1.lt rb rfl).2, hcm, hnc, fun W hW i f hi => ?_, hKw⟩
    have hil := (List.getElem?_eq_some_iff.1 hi).1
    obtain ⟨c0, c1⟩ := row_cells h1 i hil
    have hfe : (always ++ l)[i] = f := (List.getElem?_eq_some_iff.1 hi).2
    rw [hfe] at c0 c1
    have hrb := (h1.lt rb rfl).2
    exact ⟨(hW.cell (p := ⟨rb, i * 2, none⟩) hrb id).trans c0, (hW.cell (p := ⟨rb, i * 2 + 1, none⟩) hrb id).trans c1⟩

set_option maxRecDepth 100000 in
set_option maxHeartbeats 2000000 in
theorem rat_ok {w : World} {g : Nat} {v : Value} {size : Nat} {l : List Fld} (h : RTab w g v size l) (i : Int) (hi0 : -9223372036854775808 ≤ i) (hi : i ≤ 9223372036854775807) : Calls Tryd.prog 19 #[.pointer (some ⟨g, 0, none⟩), .int .i64 i] w fun e w' => e = .returned (atV (atL l i)) ∧ Keeps nobody w w' := by
  have hfx : Hid (∀ W, Calls Tryd.prog 34 #[] W fun e w' => ∃ v, e = .returned v ∧ w'.ownsRow W.heap.size 28 2 v 16 (fcells always) ∧ Keeps nobody W w') := fixed_ok
  have hR : Hid (∀ w1 vf base ty, Keeps nobody w w1 → base ≤ w1.heap.size → w1.ownsRow base 28 2 vf 16 (fcells always) → ∃ v' w', (Builtin.append_ #[33, 33] ty #[vf, v]).run Tryd.prog w1 = .ok v' w' ∧ Hid (w'.ownsRow base 28 2 v' (always ++ l).length (fcells (always ++ l)) ∧ w1.grownBy w' vf.ownBlock)) := fun w1 vf base ty h1 h2 h3 => rall_run h h1 h2 h3 ty
  obtain ⟨c0, c1, c2⟩ := h.cells
  have hlt := h.lt
  have hl16 := h.length
  have HAt : Hid (∀ r, atL l i = r → (i < 1 → r = none) ∧ (1 ≤ i → r = (always ++ l)[(i - 1).toNat]?)) := fun r hr => by
    subst hr
    unfold atL
    exact ⟨fun h => by rw [if_neg (by omega)], fun h => by rw [if_pos h]⟩
  have HL : Hid ((always ++ l).length = 16 + l.length) := by show _ = _; rw [List.length_append, always_length]
  generalize hr : atL l i = r
  have HR := hid (HAt.out r hr)
  clear h HAt hr
  go_enter Tryd.func19, Tryd.ntmps19
  go_wp2
  go_cut [6] (fun x wx => AllRow (w.alloc (.cells #[.string ⟨#[]⟩, .string ⟨#[]⟩] 28)) l x wx)
  case first =>
    have KB := keeps_alloc w (.cells #[.string ⟨#[]⟩, .string ⟨#[]⟩] 28)
    clear HR HL
    go_region_law (first | (go_simp; go_at_call 34; refine Calls.mono (hfx.out _) ?_; rintro e w1 ⟨vf, rfl, f1, f2⟩; have g1 := (f2.cell (p := ⟨g, 1, none⟩) (by simp; omega) id); have hlt1 : g < w1.heap.size := Nat.lt_of_lt_of_le (by simp; omega) f2.size; obtain ⟨vx, wx, r1, r2⟩ := hR.out w1 vf _ 33 ((KB.drew).then f2) f2.size f1; have R1 := hid r1; clear r1) | (refine step_append_run rfl (.tmp 7) (.tmp 11) 33 33 rfl vf v (by simp [Act.eval]) (by simp [Act.eval]) R1.out ?_))
    all_goals
      go_wp2_with fail
      go_meet
      exact allRow f2.undrew f1 r2.out
  case rest =>
    obtain ⟨rb, cap, rfl, hrb, hrl, hcm, hnc, hcell, hKx⟩ := hcut
    obtain ⟨b0, b1, b2⟩ := boxed hKx
    have hbf : wc.frozen? ⟨w.heap.size, 0, none⟩ = false ∧ wc.frozen? ⟨w.heap.size, 1, none⟩ = false := by
      have hb : wc.heap[w.heap.size]? = some (.cells #[.string ⟨#[]⟩, .string ⟨#[]⟩] 28 (0, 0)) := by
        rw [hKx.block _ (by simp) id]; exact heap_alloc_new w _
      exact ⟨by simp [World.frozen?, hb], by simp [World.frozen?, hb]⟩
    obtain ⟨bf0, bf1⟩ := hbf
    have hll := HL.out
    have hlI : ((always ++ l).length : Int) = 16 + (l.length : Int) := by omega
    have hKe : ∀ u1 u2, Keeps nobody w ((wc.setCell ⟨w.heap.size, 0, none⟩ u1).setCell ⟨w.heap.size, 1, none⟩ u2) := fun u1 u2 =>
      (((keeps_alloc w _).then hKx).setCell (p := ⟨w.heap.size, 0, none⟩) (.inr (Nat.le_refl _)) u1).setCell (p := ⟨w.heap.size, 1, none⟩) (.inr (Nat.le_refl _)) u2
    have HC := hid hcell
    have HKE := hid hKe
    unfold maxLen at hcm
    generalize hn : (always ++ l).length = n at *
    clear hcell hKe hfx hR c0 c1 c2 HL hn
    have HT := hid (fun a b => two_cells b0 b1 a b)
    by_cases h1 : i < 1
    · obtain rfl := HR.out.1 h1
      obtain ⟨t0, t1⟩ := HT.out (.string ⟨#[]⟩) (.string ⟨#[]⟩)
      clear HR HC
      go_wp2
      exact bodyPost_ret (v := atV none) (by simp [results, Tryd.results19, go_sem, atV, t0, t1]) rfl ⟨rfl, HKE.out _ _⟩
    · by_cases h2 : (n : Int) < i
      · obtain rfl : r = none := by
          rw [HR.out.2 (by omega), List.getElem?_eq_none]
          rw [List.length_append, always_length]
          omega
        obtain ⟨t0, t1⟩ := HT.out (.string ⟨#[]⟩) (.string ⟨#[]⟩)
        clear HR HC
        go_wp2
        exact bodyPost_ret (v := atV none) (by simp [results, Tryd.results19, go_sem, atV, t0, t1]) rfl ⟨rfl, HKE.out _ _⟩
      · obtain ⟨j, rfl⟩ : ∃ j : Nat, i = (j : Int) + 1 := ⟨(i - 1).toNat, by omega⟩
        have hjl : j < (always ++ l).length := by rw [List.length_append, always_length]; omega
        obtain ⟨x, hx⟩ : ∃ x, (always ++ l)[j]? = some x := ⟨_, List.getElem?_eq_getElem hjl⟩
        obtain ⟨c0, c1⟩ := HC.out wc (Keeps.refl _ _) j _ hx
        obtain rfl : r = some x := by
          rw [HR.out.2 (by omega)]
          have e : ((j : Int) + 1 - 1).toNat = j := by omega
          rw [e]; exact hx
        obtain ⟨xa, xb⟩ := x
        simp only at c0 c1
        obtain ⟨t0, t1⟩ := HT.out (.string xa) (.string xb)
        have hjn : (j : Int) < (n : Int) := by omega
        have hjn2 : j < n := by omega
        have T0 := hid t0
        have T1 := hid t1
        clear HR HC hx hjl hll hlI t0 t1
        go_wp2
        have t0 := T0.out
        have t1 := T1.out
        exact bodyPost_ret (v := atV (some (xa, xb))) (by simp [results, Tryd.results19, go_sem, atV, t0, t1]) rfl ⟨rfl, HKE.out _ _⟩
end Go.Proofs.YtlfkomdkimphnaaDoor
