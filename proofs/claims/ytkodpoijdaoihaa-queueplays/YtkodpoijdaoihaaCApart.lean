/-
  bywashbook: Apart.
-/
import Derived.Test.YtkodpoijdaoihaaCGrow
namespace Go.Proofs.Ytkodpoijdaoihaa
open Go.RowKit

set_option maxRecDepth 100000 in
set_option maxHeartbeats 4000000 in
theorem apart_ok {w : World} {kb : Nat} {fv wv : Value} {fs ws : List PL} (h : Bk w kb fv wv fs ws) (hsame : fs.map Prod.snd = ws.map Prod.snd) (hn : fs.length ≤ 250) (hl : ∀ p ∈ fs, p.2.length ≤ 150)
    (hap : ∀ (i j : Nat) (p q : PL), fs[i]? = some p → fs[j]? = some q → i ≠ j → ∀ k, p.1.ownBlock = some k → q.1.ownBlock ≠ some k) {B : Nat} (hB : ∀ k, lfoot fv fs k → B ≤ k) :
    Calls Try.prog 17 #[.pointer (some ⟨kb, 0, none⟩)] w fun e w' => e = .returned (.bool true) ∧ Keeps (above B) w w' := by
  have hlt := h.lt
  obtain ⟨n0, n2, n6, n4⟩ := h.nils
  have H := hid h
  have HS := hid hsame
  have Hl := hid hl
  have HA := hid hap
  have HBB := hid hB
  clear h hsame hl hap hB
  go_enter Try.func17, Try.ntmps17
  go_wp2_with fail
  refine Calls.mono (stillInts_ok H.out HS.out hn (fun p hp => Nat.le_trans (Hl.out p hp) (by omega))) ?_
  rintro e w1 ⟨rfl, k1⟩
  have F1 : Hid (Fs w1 kb fv wv fs) := ⟨(H.out.quiet k1).blk, (H.out.quiet k1).f, HA.out⟩
  have hlt1 := F1.out.lt
  have K1 : Hid (Keeps (above B) w w1) := k1.mono fun _ _ e => e.elim
  clear H HS HA n0 n2 n4 n6 hlt k1
  obtain ⟨n8, n0, n2, n6, n4⟩ := F1.out.cells
  go_wp2_with fail
  refine Calls.mono (stillTexts_nil n2 hlt1) ?_
  rintro e _ ⟨rfl, rfl⟩
  go_wp2_with fail
  refine Calls.mono (stillFields_nil n4 hlt1) ?_
  rintro e _ ⟨rfl, rfl⟩
  go_wp2_with fail
  refine Calls.mono (stillFrames_nil n6 hlt1) ?_
  rintro e _ ⟨rfl, rfl⟩
  go_wp2_with fail
  refine Calls.mono (stillPrefs_nil n0 hlt1) ?_
  rintro e _ ⟨rfl, rfl⟩
  go_wp2_with fail
  refine Calls.mono (putInts_ok F1.out hn (fun p hp => Nat.le_trans (Hl.out p hp) (by omega)) (B := B) (fun p hp k e => HBB.out k (.inr ⟨p, hp, e⟩))) ?_
  rintro e w2 ⟨rfl, k2, ms, hP, F2⟩
  have hlt2 := F2.lt
  have hml : ms.length ≤ 250 := by rw [hP.1]; exact hn
  have HM : Hid (∀ (s : Nat) (p : PL), ms[s]? = some p → p.2.length ≤ 150 ∧ p.2 = marks s 0 p.2.length) := fun s p hs => by
    have hsl : s < ms.length := (List.getElem?_eq_some_iff.1 hs).1
    have hsf : s < fs.length := by rw [← hP.1]; exact hsl
    obtain ⟨a1, a2, a3⟩ := hP.2 s _ p (List.getElem?_eq_getElem hsf) hs
    have := Hl.out _ (List.getElem_mem hsf)
    exact ⟨by omega, by rw [a2]; exact a3 hsf⟩
  have HB2 : Hid (∀ k, lfoot fv ms k → B ≤ k) := by
    rintro k (e | ⟨p, hp, e⟩)
    · exact HBB.out k (.inl e)
    · obtain ⟨s, hs⟩ := List.mem_iff_getElem?.1 hp
      have hsl : s < ms.length := (List.getElem?_eq_some_iff.1 hs).1
      have hsf : s < fs.length := by rw [← hP.1]; exact hsl
      obtain ⟨a1, _, _⟩ := hP.2 s _ p (List.getElem?_eq_getElem hsf) hs
      exact HBB.out k (.inr ⟨_, List.getElem_mem hsf, by rw [← a1]; exact e⟩)
  have K2 := hid (K1.out.trans k2 fun _ _ e => e)
  clear F1 K1 Hl n0 n2 n4 n6 n8 hlt1 k2 hP hn
  obtain ⟨n8, n0, n2, n6, n4⟩ := F2.cells
  have F2 := hid F2
  go_wp2_with fail
  refine Calls.mono (putTexts_nil n2 hlt2) ?_
  rintro e _ ⟨rfl, rfl⟩
  go_wp2_with fail
  refine Calls.mono (putFields_nil n4 hlt2) ?_
  rintro e _ ⟨rfl, rfl⟩
  go_wp2_with fail
  refine Calls.mono (putFrames_nil n6 hlt2) ?_
  rintro e _ ⟨rfl, rfl⟩
  go_wp2_with fail
  refine Calls.mono (putPrefs_nil n0 hlt2) ?_
  rintro e _ ⟨rfl, rfl⟩
  go_wp2_with fail
  refine Calls.mono (growInts_ok F2.out hml HM.out HB2.out) ?_
  rintro e w3 ⟨gx, gn, gc, gs, rfl, hgl, G⟩
  have hlt3 := G.f.lt
  have K3 := hid (K2.out.trans G.ke fun _ _ e => e)
  have hM1 : Hid (∀ W, Keeps nobody w3 W → Calls Try.prog 39 #[.slice gx gn gc] W fun e w' => e = .returned (.bool true) ∧ Keeps nobody w3 w') := fun W hW => (markedInts_ok (G.g.keeps hW fun _ _ => id) (by omega) (fun s q hs => (G.isg s q hs).1)).mono fun _ _ ⟨he, hk⟩ => ⟨he, hW.then hk⟩
  have hM2 : Hid (∀ W, Keeps nobody w3 W → Calls Try.prog 39 #[fv] W fun e w' => e = .returned (.bool true) ∧ Keeps nobody w3 w') := fun W hW => (markedInts_ok (G.f.f.keeps hW fun _ _ => id) (by omega) (fun s q hs => ⟨Nat.le_trans (G.isf s q hs).1 (by omega), (G.isf s q hs).2⟩)).mono fun _ _ ⟨he, hk⟩ => ⟨he, hW.then hk⟩
  have HC : Hid (∀ W, Keeps nobody w3 W → W.cell? ⟨kb, 0, none⟩ = some fv ∧ W.cell? ⟨kb, 8, none⟩ = some (.slice none 0 0) ∧ W.cell? ⟨kb, 2, none⟩ = some (.slice none 0 0) ∧ W.cell? ⟨kb, 6, none⟩ = some (.slice none 0 0) ∧ W.cell? ⟨kb, 4, none⟩ = some (.slice none 0 0) ∧ kb < W.heap.size) := fun W hW => by
    obtain ⟨a1, a2, a3, a4, a5⟩ := (G.f.quiet hW).cells
    exact ⟨a1, a2, a3, a4, a5, (G.f.quiet hW).lt⟩
  clear F2 HM K2 n0 n2 n4 n6 n8 hlt2 G hgl hml
  obtain ⟨n8, n0, n2, n6, n4, _⟩ := HC.out w3 (Keeps.refl _ _)
  go_wp2_with fail
  refine Calls.mono (growTexts_nil n2 hlt3) ?_
  rintro e _ ⟨rfl, rfl⟩
  go_wp2_with fail
  refine Calls.mono (growFields_nil n4 hlt3) ?_
  rintro e _ ⟨rfl, rfl⟩
  go_wp2_with fail
  refine Calls.mono (growFrames_nil n6 hlt3) ?_
  rintro e _ ⟨rfl, rfl⟩
  go_wp2_with fail
  refine Calls.mono (growPrefs_nil n0 hlt3) ?_
  rintro e _ ⟨rfl, rfl⟩
  go_wp2_with fail
  refine Calls.mono (hM1.out _ (Keeps.refl _ _)) ?_
  rintro e w4 ⟨rfl, k4⟩
  have K4 := hid k4
  clear n0 n2 n4 n6 n8
  obtain ⟨n8, n0, n2, n6, n4, _⟩ := HC.out w4 k4
  clear k4
  go_wp2_with fail
  refine Calls.mono (hM2.out _ K4.out) ?_
  rintro e w5 ⟨rfl, k5⟩
  have K5 := hid k5
  clear n0 n2 n4 n6 n8
  obtain ⟨n8, n0, n2, n6, n4, _⟩ := HC.out w5 k5
  clear k5
  go_wp2_with fail
  refine Calls.mono (markedTexts_nil _) ?_
  rintro e _ ⟨rfl, rfl⟩
  go_wp2_with fail
  refine Calls.mono (markedTexts_nil _) ?_
  rintro e _ ⟨rfl, rfl⟩
  go_wp2_with fail
  refine Calls.mono (markedFields_nil _) ?_
  rintro e _ ⟨rfl, rfl⟩
  go_wp2_with fail
  refine Calls.mono (markedFields_nil _) ?_
  rintro e _ ⟨rfl, rfl⟩
  go_wp2_with fail
  refine Calls.mono (markedFrames_nil _) ?_
  rintro e _ ⟨rfl, rfl⟩
  go_wp2_with fail
  refine Calls.mono (markedFrames_nil _) ?_
  rintro e _ ⟨rfl, rfl⟩
  go_wp2_with fail
  refine Calls.mono (markedPrefs_nil _) ?_
  rintro e _ ⟨rfl, rfl⟩
  go_wp2_with fail
  refine Calls.mono (markedPrefs_nil _) ?_
  rintro e _ ⟨rfl, rfl⟩
  go_wp2_with fail
  go_ret
  exact ⟨rfl, K3.out.then K5.out⟩
end Go.Proofs.Ytkodpoijdaoihaa
