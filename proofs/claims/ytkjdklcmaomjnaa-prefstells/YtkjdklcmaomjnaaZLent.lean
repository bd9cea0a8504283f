/-
  bywashbook: SamePrefs, copyPrefs, LentPrefs, StaysPrefs over memory that lies wherever.
-/
import Derived.Test.YtkjdklcmaomjnaaZMem
namespace Go.Proofs.Ytkjdklcmaomjnaa
open Go.RowKit

set_option maxRecDepth 100000 in
set_option maxHeartbeats 2000000 in
theorem psame_lies {w : World} {a1 a2 : Option Addr} (c1 c2 : Nat) {l : List Pf} {S1 S2 : Nat → Prop} (h1 : PLies w a1 l S1) (h2 : PLies w a2 l S2) (hl : l.length ≤ 1000000) : Calls Try.prog 18 #[.slice a1 l.length c1, .slice a2 l.length c2] w fun e w' => e = .returned (.bool true) ∧ Keeps nobody w w' := by
  by_cases h0 : l.length = 0
  · obtain rfl : l = [] := List.eq_nil_of_length_eq_zero h0
    clear h1 h2
    go_enter Try.func18, Try.ntmps18
    go_wp2
    go_loopg [5] 0 (fun k i wr => i = .int .i64 0 ∧ wr = w)
    case atStart => exact ⟨rfl, rfl⟩
    case round =>
      obtain ⟨rfl, rfl⟩ := hrel
      go_wp2
      go_ret
      exact ⟨rfl, Keeps.refl _ _⟩
  · rcases h1 with rfl | ⟨r1, o1, rfl, hr1, _, hc1⟩
    · exact (h0 rfl).elim
    rcases h2 with rfl | ⟨r2, o2, rfl, hr2, _, hc2⟩
    · exact (h0 rfl).elim
    have H1 := hid hc1
    have H2 := hid hc2
    clear hc1 hc2
    go_enter Try.func18, Try.ntmps18
    go_wp2
    go_loopg [5] l.length (fun k i wr => ∃ j : Nat, i = .int .i64 j ∧ k + j = l.length ∧ Keeps nobody w wr)
    case atStart => exact ⟨0, rfl, rfl, Keeps.refl _ _⟩
    case round =>
      obtain ⟨j, rfl, hk, hK⟩ := hrel
      by_cases hj : j < l.length
      · obtain ⟨d0, d1⟩ := H1.out j _ (List.getElem?_eq_getElem hj)
        obtain ⟨e0, e1⟩ := H2.out j _ (List.getElem?_eq_getElem hj)
        rw [← hK.cell (p := ⟨r1, o1 + j * 2, none⟩) hr1 id] at d0
        rw [← hK.cell (p := ⟨r1, o1 + j * 2 + 1, none⟩) hr1 id] at d1
        rw [← hK.cell (p := ⟨r2, o2 + j * 2, none⟩) hr2 id] at e0
        rw [← hK.cell (p := ⟨r2, o2 + j * 2 + 1, none⟩) hr2 id] at e1
        generalize l[j]'hj = x at *
        obtain ⟨xa, xb⟩ := x
        simp only at d0 d1 e0 e1
        have HK := hid hk
        clear hk
        go_wp2
        go_region
        go_wp2
        have hk := HK.out
        go_roundg (gk - 1)
        case measure => omega
        case rel => exact ⟨j + 1, by simp, by omega, hK.drew⟩
      · clear H1 H2
        go_wp2
        go_ret
        exact ⟨rfl, hK⟩
set_option maxRecDepth 100000 in
theorem pcopy_lies {w : World} {a : Option Addr} (cap : Nat) {l : List Pf} {S : Nat → Prop} (h : PLies w a l S) (hl : l.length ≤ 1000) : Calls Try.prog 26 #[.slice a l.length cap] w fun e w' => ∃ v', e = .returned v' ∧ w'.ownsRow w.heap.size 48 2 v' l.length (pcells l) ∧ Keeps nobody w w' := by
  obtain ⟨i5, hi5, hz0, hz1, hz2⟩ := info_parts infoP
  obtain ⟨v', w', h1, h2, h3⟩ : ∃ v' w', (Builtin.append_ #[22, 22] 22 #[.slice none 0 0, .slice a l.length cap]).run Try.prog w = .ok v' w' ∧ w'.ownsRow w.heap.size 48 2 v' l.length (pcells l) ∧ Keeps nobody w w' := by
    rcases h with rfl | ⟨b, off, rfl, hb, _, hc⟩
    · exact ⟨_, _, run_append_zero (P := Try.prog) 22 22 48 i5 2 Try.underlying22 hi5 (World.ownsRow_nil w w.heap.size 48 2) a cap, World.ownsRow_nil _ _ _ _, Keeps.refl _ _⟩
    · obtain ⟨v', w', r1, r2, r3, _⟩ := run_append_new (P := Try.prog) 22 22 48 i5 _ 2 16 Try.underlying22 hi5 hz0 hz1 hz2 rfl (by decide) (World.ownsRow_nil w w.heap.size 48 2) ⟨b, off, none⟩ l.length cap (pcells l) (pcells_length l) (by
          intro j u hu
          have hj : j < (pcells l).length := (List.getElem?_eq_some_iff.1 hu).1
          rw [pcells_length] at hj
          have hj2 : j / 2 < l.length := by omega
          obtain ⟨e0, e1⟩ := hc (j / 2) _ (List.getElem?_eq_getElem hj2)
          rw [Addr.add_mid]
          rcases Nat.mod_two_eq_zero_or_one j with hm | hm
          · have ej : j = j / 2 * 2 := by omega
            rw [ej, pcells_at0 l (j / 2) _ (List.getElem?_eq_getElem hj2)] at hu
            rw [ej, ← hu]
            exact e0
          · have ej : j = j / 2 * 2 + 1 := by omega
            rw [ej, pcells_at1 l (j / 2) _ (List.getElem?_eq_getElem hj2)] at hu
            rw [ej, ← hu]
            exact e1) (pcells_one l) (by unfold maxLen; omega) (by omega) (Nat.le_refl _)
      exact ⟨v', w', r1, by simpa using r2, keeps_of_grown r3⟩
  have HR := hid (And.intro h2 h3)
  have H1 := hid h1
  clear h h1 h2 h3
  go_enter Try.func26, Try.ntmps26
  go_wp2_with (at_builtin; refine wpList_append_run rfl _ _ 22 22 rfl _ _ rfl rfl H1.out ?_)
  go_ret
  exact ⟨v', rfl, HR.out⟩
def pmark : Pf := ((-77), 0)
/-- A lent list: a pmark stands behind it. -/
def PLent (B : Nat) (w : World) (rb c : Nat) (l : List Pf) : Prop := w.ownsRow B 48 2 (.slice (some ⟨rb, 0, none⟩) (l.length + 1) c) (l ++ [pmark]).length (pcells (l ++ [pmark]))
theorem PLent.lies {B : Nat} {w : World} {rb c : Nat} {l : List Pf} (h : PLent B w rb c l) {S : Nat → Prop} (hS : ¬ S rb) : PLies w (some ⟨rb, 0, none⟩) l S := by
  refine PLies.prefix (m := [pmark]) (prow_lies (n := l.length + 1) (c := c) h fun k e => ?_)
  simp only [Value.ownBlock, Option.some.injEq] at e
  subst e
  exact hS
theorem PLent.keeps {B : Nat} {w w' : World} {rb c : Nat} {l : List Pf} {S : Nat → Prop} (h : PLent B w rb c l) (hk : Keeps S w w') (hS : ¬ S rb) : PLent B w' rb c l := hk.row h fun k e => by
  simp only [Value.ownBlock, Option.some.injEq] at e
  subst e
  exact hS
theorem PLent.room {B : Nat} {w : World} {rb c : Nat} {l : List Pf} (h : PLent B w rb c l) : B ≤ rb ∧ rb < w.heap.size ∧ l.length + 1 ≤ c ∧ c ≤ maxLen := by
  have h1 := h.lt rb rfl
  rcases h.2 with ⟨h2, _⟩ | ⟨rb', cap, cur, h2, _, _, hnc, hcm, _⟩
  · cases h2
  · simp only [Value.slice.injEq] at h2
    obtain ⟨_, h3, rfl⟩ := h2
    exact ⟨h1.1, h1.2, by omega, hcm⟩
set_option maxRecDepth 100000 in
set_option maxHeartbeats 1000000 in
theorem plent_ok {w : World} {a : Option Addr} (cap : Nat) {l : List Pf} {S : Nat → Prop} (h : PLies w a l S) (hl : l.length ≤ 100) : Calls Try.prog 10 #[.slice a l.length cap] w fun e w' => ∃ rb c, e = .returned (.slice (some ⟨rb, 0, none⟩) l.length c) ∧ Hid (PLent w.heap.size w' rb c l ∧ Keeps nobody w w') := by
  have HC : Hid (Calls Try.prog 26 #[.slice a l.length cap] w fun e w' => ∃ v', e = .returned v' ∧ w'.ownsRow w.heap.size 48 2 v' l.length (pcells l) ∧ Keeps nobody w w') := pcopy_lies cap h (by omega)
  clear h
  obtain ⟨i5, hi5, hz0, hz1, hz2⟩ := info_parts infoP
  go_enter Try.func10, Try.ntmps10
  go_wp2_with fail
  refine Calls.mono HC.out ?_
  rintro e w1 ⟨v1, rfl, r1, k1⟩
  have k2 := keeps_alloc w1 (.cells #[.int .i64 (-77), .int .i64 0] 48)
  have hnew := heap_alloc_new w1 (.cells #[.int .i64 (-77), .int .i64 0] 48)
  obtain ⟨n0, n1⟩ := two_new hnew
  obtain ⟨v3, w3, a1, a2, a3, _⟩ := run_append_new (P := Try.prog) (w := w1.alloc (.cells #[.int .i64 (-77), .int .i64 0] 48)) (base := w.heap.size) 22 22 48 i5 _ 2 16 Try.underlying22 hi5 hz0 hz1 hz2 rfl (by decide) (k2.row r1 fun _ _ => id) ⟨w1.heap.size, 0, none⟩ 1 1 [.int .i64 pmark.1, .int .i64 pmark.2] rfl
    (by
      intro j u hu
      match j, hu with
      | 0, hu => simp at hu; subst hu; exact n0
      | 1, hu => simp at hu; subst hu; exact n1
      | j + 2, hu => simp at hu)
    (by intro u hu; simp at hu; rcases hu with rfl | rfl <;> rfl) (by unfold maxLen; omega) (by omega) (Nat.le_trans k1.size k2.size)
  have k3 : Keeps nobody w w3 := ((k1.then k2).mono fun _ _ e => e.elim).grown a3 fun k e => .inr (r1.lt k e).1
  have R1 := hid a1
  have hrow : w3.ownsRow w.heap.size 48 2 v3 (l ++ [pmark]).length (pcells (l ++ [pmark])) := by
    rw [pcells_append, List.length_append]
    exact a2
  rcases hrow.2 with ⟨_, h2⟩ | ⟨rb, c, cur, rfl, _, _, hnc, hcm, _⟩
  · simp at h2
  · rw [List.length_append, List.length_singleton] at R1 hnc hrow
    have hrow' : PLent w.heap.size w3 rb c l := by
      unfold PLent
      rw [List.length_append, List.length_singleton]
      exact hrow
    have OO := hid (And.intro hrow' k3)
    unfold maxLen at hcm
    have z1 : (0 : Int) ≤ (l.length : Int) := by omega
    have z2 : (l.length : Int) ≤ (c : Int) := by omega
    clear a1 a2 a3 hrow hrow' r1 k1 k2 k3 hnew
    go_wp2_with (at_builtin; refine wpList_append_run rfl _ _ 22 22 rfl _ _ rfl rfl R1.out ?_)
    go_ret
    exact ⟨rb, c, by simp, OO⟩
set_option maxRecDepth 100000 in
set_option maxHeartbeats 1000000 in
theorem pstays_ok {B : Nat} {w : World} {rb c : Nat} {a : Option Addr} (cap : Nat) {l : List Pf} {S : Nat → Prop} (h : PLent B w rb c l) (hL : PLies w a l S) (hl : l.length ≤ 100) : Calls Try.prog 22 #[.slice (some ⟨rb, 0, none⟩) l.length c, .slice a l.length cap] w fun e w' => e = .returned (.bool true) ∧ Keeps nobody w w' := by
  have HS := hid (psame_lies c cap (h.lies (S := nobody) id) hL (by omega))
  obtain ⟨_, hb, hn, hm⟩ := h.room
  have hc0 := (prow_cells (n := l.length + 1) (cap := c) h l.length (by simp)).1
  simp only [List.getElem_concat_length] at hc0
  unfold maxLen at hm
  clear h hL
  go_enter Try.func22, Try.ntmps22
  go_wp2_with fail
  refine Calls.mono HS.out ?_
  rintro e w1 ⟨rfl, k1⟩
  have hc1 : w1.cell? ⟨rb, l.length * 2, none⟩ = some (.int .i64 (-77)) := (k1.cell (p := ⟨rb, l.length * 2, none⟩) hb id).trans hc0
  have hb1 := Nat.lt_of_lt_of_le hb k1.size
  have z1 : (0 : Int) ≤ (l.length : Int) + 1 := by omega
  have z2 : (l.length : Int) + 1 ≤ (c : Int) := by omega
  have z3 : (l.length : Int) < (l.length : Int) + 1 := by omega
  go_wp2
  go_ret
  exact ⟨by simp, k1⟩
end Go.Proofs.Ytkjdklcmaomjnaa
