/-
  Package split: Next.
-/
import Derived.Test.YtkogkkjdcackcaaLBox
import Derived.Test.YtkogkkjdcackcaaRGet
namespace Go.Proofs.Ytkogkkjdcackcaa
open Go.RowKit
attribute [local irreducible] numL byteAt endOf idOf nums str num3 great whole firstA

theorem next_nil (w : World) : Calls Try.prog 11 #[.pointer none] w fun e w' => e = .returned (nextV (noF, false, 8)) ∧ Keeps nobody w w' := by
  have HM : Hid (∀ W, Calls Try.prog 19 #[.pointer none] W fun e w' => e = .returned (.bool false) ∧ W = w') := made_nil
  go_enter Try.func11, Try.ntmps11
  go_wp2_with fail
  refine Calls.mono (HM.out _) ?_
  rintro e w1 ⟨rfl, rfl⟩
  go_wp2
  exact bodyPost_ret (v := nextV (noF, false, 8)) (by simp [results, Try.results11, go_sem, nextV, noF]) rfl ⟨rfl, (Keeps.refl _ _).alloc _⟩

set_option maxRecDepth 100000 in
theorem next_over {w : World} {g : Nat} {v : Value} {most : Nat} {B : ByteArray} (h : Sp w g v most true B) : Calls Try.prog 11 #[.pointer (some ⟨g, 0, none⟩)] w fun e w' => e = .returned (nextV (noF, false, 5)) ∧ Keeps nobody w w' := by
  have hk := keeps_alloc w (frobj 0 0 0 ⟨#[]⟩)
  have h1 := h.quiet hk
  have HM : Hid (Calls Try.prog 19 #[.pointer (some ⟨g, 0, none⟩)] (w.alloc (frobj 0 0 0 ⟨#[]⟩)) fun e w' => e = .returned (.bool true) ∧ w.alloc (frobj 0 0 0 ⟨#[]⟩) = w') := made_ok h1
  have HL : Hid (Calls Try.prog 20 #[.pointer (some ⟨g, 0, none⟩)] (w.alloc (frobj 0 0 0 ⟨#[]⟩)) fun e w' => e = .returned (.bool false) ∧ w'.cell? ⟨g, 1, none⟩ = some (.bool true) ∧ Keeps nobody w w' ∧ Bx w' w.heap.size noF) := by
    refine (long_few h1 (by rw [h.over rfl]; decide)).mono ?_
    rintro e w' ⟨he, kk⟩
    exact ⟨he, (h1.quiet kk).cells.2.1, hk.then kk, (bx_new w noF).keeps kk fun h => h⟩
  clear h h1 hk
  go_enter Try.func11, Try.ntmps11
  go_wp2_with fail
  refine Calls.mono HM.out ?_
  rintro e w1 ⟨rfl, rfl⟩
  go_wp2_with fail
  refine Calls.mono HL.out ?_
  rintro e w1 ⟨rfl, hc, kk, hz⟩
  obtain ⟨z0, z1, z2, z3, z4⟩ := hz
  have HK := hid kk
  clear kk HM HL
  go_wp2
  exact bodyPost_ret (v := nextV (noF, false, 5)) (by simp [results, Try.results11, go_sem, nextV, noF, *]) rfl ⟨rfl, (((HK.out.setCell (.inr (Nat.le_refl _)) _).setCell (.inr (Nat.le_refl _)) _).setCell (.inr (Nat.le_refl _)) _).setCell (.inr (Nat.le_refl _)) _⟩

set_option maxRecDepth 100000 in
theorem next_great {w : World} {g : Nat} {v : Value} {most : Nat} {B : ByteArray} (h : Sp w g v most false B) (hg : great most B) : Calls Try.prog 11 #[.pointer (some ⟨g, 0, none⟩)] w fun e w' => e = .returned (nextV (noF, false, 5)) ∧ ∃ v', Did (spT g v most false B) (spT g v' most true ⟨#[]⟩) w w' := by
  have hk := keeps_alloc w (frobj 0 0 0 ⟨#[]⟩)
  have h1 := h.quiet hk
  have hglt := h.lt
  have HM : Hid (Calls Try.prog 19 #[.pointer (some ⟨g, 0, none⟩)] (w.alloc (frobj 0 0 0 ⟨#[]⟩)) fun e w' => e = .returned (.bool true) ∧ w.alloc (frobj 0 0 0 ⟨#[]⟩) = w') := made_ok h1
  have HL : Hid (Calls Try.prog 20 #[.pointer (some ⟨g, 0, none⟩)] (w.alloc (frobj 0 0 0 ⟨#[]⟩)) fun e w' => e = .returned (.bool true) ∧ Sp w' g v most false B ∧ Keeps nobody w w' ∧ Bx w' w.heap.size noF) := by
    have := long_ok h1
    rw [decide_eq_true hg] at this
    refine this.mono ?_
    rintro e w' ⟨he, kk⟩
    exact ⟨he, h1.quiet kk, hk.then kk, (bx_new w noF).keeps kk fun h => h⟩
  have HH := hid h
  clear h h1 hk
  go_enter Try.func11, Try.ntmps11
  go_wp2_with fail
  refine Calls.mono HM.out ?_
  rintro e w1 ⟨rfl, rfl⟩
  go_wp2_with fail
  refine Calls.mono HL.out ?_
  rintro e w1 ⟨rfl, hs, kk, hz⟩
  obtain ⟨c0, c1, c2, c3⟩ := hs.cells
  obtain ⟨z0, z1, z2, z3, z4⟩ := hz
  have hne : w.heap.size ≠ g := by omega
  have hne2 : g ≠ w.heap.size := by omega
  have HK := hid kk
  have HS := hid hs.blk
  clear kk HM HL hs
  go_wp2
  refine bodyPost_ret (v := nextV (noF, false, 5)) (by simp [results, Try.results11, go_sem, nextV, noF, *]) rfl ⟨rfl, .slice none 0 0, ?_⟩
  have hb := HS.out
  refine HH.out.relay (w1 := w) (World.grownBy.refl _ _) ?_ ?_ (.inl ⟨rfl, rfl⟩) (fun k e => by cases e) (fun _ => rfl) (by decide)
  · simp [World.setCell, hb, Array.getElem?_modify, hne]
  · have k0 : Keeps (fun k => k = g) w w1 := HK.out.mono fun _ _ h => h.elim
    have k2 := (k0.setCell (p := ⟨g, 1, none⟩) (.inl rfl) (.bool true)).setCell (p := ⟨g, 2, none⟩) (.inl rfl) (.slice none 0 0)
    exact (((k2.setCell (.inr (Nat.le_refl _)) _).setCell (.inr (Nat.le_refl _)) _).setCell (.inr (Nat.le_refl _)) _).setCell (.inr (Nat.le_refl _)) _
end Go.Proofs.Ytkogkkjdcackcaa
