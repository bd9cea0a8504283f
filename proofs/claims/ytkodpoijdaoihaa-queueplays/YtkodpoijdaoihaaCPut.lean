/-
  bywashbook: putInts.
-/
import Derived.Test.YtkodpoijdaoihaaCFs
namespace Go.Proofs.Ytkodpoijdaoihaa
open Go.RowKit

/-- How far the lists are written over: ms are fs, the first j of them marked. -/
def Part (fs ms : List PL) (j : Nat) : Prop := ms.length = fs.length ∧ ∀ (t : Nat) (p q : PL), fs[t]? = some p → ms[t]? = some q → q.1 = p.1 ∧ q.2.length = p.2.length ∧ (t < j → q.2 = marks t 0 p.2.length)
theorem Part.refl (fs : List PL) : Part fs fs 0 := ⟨rfl, fun t p q h1 h2 => by rw [h1] at h2; cases h2; exact ⟨rfl, rfl, fun h => absurd h (Nat.not_lt_zero _)⟩⟩
abbrev above (B : Nat) : Nat → Prop := fun k => B ≤ k

/-- The first k of l are marks. -/
def Upto (i k : Nat) (l : List Int) : Prop := ∀ t, t < k → l[t]? = some (nameS i t)
theorem Upto.all {i : Nat} {l : List Int} (h : Upto i l.length l) : l = marks i 0 l.length := by
  apply List.ext_getElem?
  intro t
  by_cases ht : t < l.length
  · rw [h t ht, marks_at _ _ _ _ ht, Nat.zero_add]
  · rw [List.getElem?_eq_none (by omega), List.getElem?_eq_none (by rw [marks_length]; omega)]
theorem Upto.next {i k : Nat} {l : List Int} (h : Upto i k l) (hk : k < l.length) : Upto i (k + 1) (l.set k (nameS i k)) := by
  intro t ht
  rw [List.getElem?_set]
  by_cases e : k = t
  · subst e; simp [hk]
  · rw [if_neg e]; exact h t (by omega)

theorem Part.set {fs ms : List PL} {j : Nat} (h : Part fs ms j) {v : Value} {l l' : List Int} (hj : ms[j]? = some (v, l)) (hl : l'.length = l.length) : Part fs (ms.set j (v, l')) j := by
  refine ⟨by rw [List.length_set]; exact h.1, fun t p q hp hq => ?_⟩
  rw [List.getElem?_set] at hq
  by_cases e : j = t
  · subst e
    have hlt : j < ms.length := (List.getElem?_eq_some_iff.1 hj).1
    rw [if_pos rfl, if_pos hlt] at hq
    cases hq
    obtain ⟨a1, a2, _⟩ := h.2 j p _ hp hj
    exact ⟨a1, by rw [← a2]; exact hl, fun h => absurd h (Nat.lt_irrefl _)⟩
  · rw [if_neg e] at hq
    exact h.2 t p q hp hq
theorem Part.next {fs ms : List PL} {j : Nat} (h : Part fs ms j) {v : Value} {l : List Int} (hj : ms[j]? = some (v, l)) (hl : l = marks j 0 l.length) : Part fs ms (j + 1) := by
  refine ⟨h.1, fun t p q hp hq => ?_⟩
  obtain ⟨a1, a2, a3⟩ := h.2 t p q hp hq
  refine ⟨a1, a2, fun ht => ?_⟩
  by_cases e : t = j
  · subst e
    rw [hj] at hq
    cases hq
    rw [← a2]
    exact hl
  · exact a3 (by omega)

set_option maxRecDepth 100000 in
set_option maxHeartbeats 2000000 in
theorem putInts_ok {w : World} {kb : Nat} {fv wv : Value} {fs : List PL} (h : Fs w kb fv wv fs) (hn : fs.length ≤ 250) (hl : ∀ p ∈ fs, p.2.length ≤ 1000) {B : Nat} (hB : ∀ p ∈ fs, ∀ k, p.1.ownBlock = some k → B ≤ k) :
    Calls Try.prog 29 #[.pointer (some ⟨kb, 0, none⟩)] w fun e w' => e = .returned (.tuple #[]) ∧ Keeps (above B) w w' ∧ ∃ ms, Part fs ms fs.length ∧ Fs w' kb fv wv ms := by
  obtain ⟨fa, fc, rfl⟩ : ∃ a c, fv = .slice a fs.length c := by
    rcases h.f.outer.2 with ⟨rfl, hx⟩ | ⟨rb, cap, cur, rfl, _⟩
    · exact ⟨none, 0, by rw [hx]⟩
    · exact ⟨_, _, rfl⟩
  have H := hid h
  have Hl := hid hl
  have HBB := hid hB
  clear h hl hB
  go_enter Try.func29, Try.ntmps29
  go_wp2
  go_loopg [2] fs.length (fun k i wr => ∃ j : Nat, i = .int .i64 j ∧ k + j = fs.length ∧ Keeps (above B) w wr ∧ ∃ ms, Part fs ms j ∧ Fs wr kb (.slice fa fs.length fc) wv ms)
  case atStart => exact ⟨0, rfl, rfl, Keeps.refl _ _, fs, Part.refl fs, H.out⟩
  case round =>
    obtain ⟨j, rfl, hk, hK, ms, hP, hF⟩ := hrel
    have c4 := hF.cells.1
    by_cases hj : j < fs.length
    · have hjm : j < ms.length := by rw [hP.1]; exact hj
      have hft : fs[j]? = some (fs[j]'hj) := List.getElem?_eq_getElem hj
      have hmt : ms[j]? = some (ms[j]'hjm) := List.getElem?_eq_getElem hjm
      obtain ⟨p1, p2, z0⟩ := hP.2 j _ _ hft hmt
      clear z0
      have hll := Hl.out _ (List.getElem_mem hj)
      have hrow := hF.f.rows _ (List.getElem_mem hjm)
      rcases hF.f.outer.2 with ⟨_, hx⟩ | ⟨rf, cf1, curf, hfv, z1, z2, hnf, hcf, z3⟩
      · omega
      simp only [Value.slice.injEq] at hfv
      obtain ⟨rfl, z4, rfl⟩ := hfv
      rw [← z4] at hnf
      clear z1 z2 z3 z4 curf
      have q1 : wr.cell? ⟨rf, j, none⟩ = some (ms[j]'hjm).1 := list_cell hF.f j hjm
      generalize hmj : ms[j]'hjm = m at *
      obtain ⟨mv, l⟩ := m
      simp only at hrow p1 p2 q1
      obtain ⟨xa, xc, rfl⟩ : ∃ a c, mv = .slice a l.length c := by
        rcases hrow.2 with ⟨rfl, hx⟩ | ⟨rb, cap, cur, rfl, _⟩
        · exact ⟨none, 0, by rw [hx]⟩
        · exact ⟨_, _, rfl⟩
      have hlk : l.length ≤ 1000 := by omega
      have HBR : Hid (∀ rb, xa = some ⟨rb, 0, none⟩ → B ≤ rb) := fun rb e => HBB.out _ (List.getElem_mem hj) rb (by rw [← p1, e]; rfl)
      have hM : Hid (∀ W, Calls Try.prog 50 #[.int .i64 (j : Int), .int .i64 0, .int .i64 (l.length : Int)] W fun e w' => ∃ v, e = .returned v ∧ Hid (w'.ownsRow W.heap.size 3 1 v l.length (icells (marks j 0 l.length))) ∧ Keeps nobody W w') := fun W => mark_ok j 0 l.length W (by omega) (by omega) hlk
      have HX := hid (show _ ∧ _ ∧ _ ∧ _ ∧ _ ∧ _ ∧ _ from ⟨hk, hK, hP, hF, hmt, p1, p2⟩)
      have HR := hid hrow
      unfold maxLen at hcf
      clear hk hK hP hF hmt p1 p2 hrow hll hft
      go_wp2_with fail
      refine Calls.mono (hM.out _) ?_
      rintro e wq ⟨v, rfl, HV, kq⟩
      obtain ⟨va, vc, rfl⟩ : ∃ a c, v = .slice a l.length c := by
        rcases HV.out.2 with ⟨rfl, hx⟩ | ⟨rb, cap, cur, rfl, _⟩
        · exact ⟨none, 0, by rw [hx]⟩
        · exact ⟨_, _, rfl⟩
      have HY : Hid (Keeps (above B) w wq ∧ Part fs ms j ∧ Fs wq kb (.slice (some ⟨rf, 0, none⟩) fs.length fc) wv ms ∧ ms[j]? = some (.slice xa l.length xc, l) ∧ gk + j = fs.length ∧ (∀ rb, xa = some ⟨rb, 0, none⟩ → (Value.slice va l.length vc).ownBlock ≠ some rb)) := by
        obtain ⟨hk, hK, hP, hF, hmt, p1, p2⟩ := HX.out
        refine ⟨hK.then kq, hP, ?_, hmt, hk, ?_⟩
        · exact hF.quiet kq
        · intro rb hx hv
          have h1 := (HV.out.lt rb hv).1
          subst hx
          have h2 := (HR.out.lt rb rfl).2
          omega
      clear hM HX HR c4 q1 kq
      obtain ⟨gk0, rfl⟩ : ∃ g, g = gk := ⟨gk, rfl⟩
      obtain ⟨wr0, rfl⟩ : ∃ g, g = wr := ⟨wr, rfl⟩
      go_wp2
      go_loopg [4] l.length (fun k i wr => ∃ t : Nat, i = .int .i64 t ∧ k + t = l.length ∧ Hid (Keeps (above B) w wr ∧ wr.ownsRow wr0.heap.size 3 1 (.slice va l.length vc) l.length (icells (marks j 0 l.length)) ∧ ∃ ms l', Part fs ms j ∧ Fs wr kb (.slice (some ⟨rf, 0, none⟩) fs.length fc) wv ms ∧ ms[j]? = some (.slice xa l.length xc, l') ∧ l'.length = l.length ∧ Upto j t l'))
      case atStart => exact ⟨0, rfl, rfl, HY.out.1, HV.out, ms, l, HY.out.2.1, HY.out.2.2.1, HY.out.2.2.2.1, rfl, fun t ht => absurd ht (Nat.not_lt_zero _)⟩
      case round =>
        obtain ⟨t, rfl, hk, G⟩ := hrel
        by_cases ht : t < l.length
        · obtain ⟨g1, g2, ms', l', g3, g4, g5, g6, g7⟩ := G.out
          have c4 := g4.cells.1
          have hjm' : j < ms'.length := (List.getElem?_eq_some_iff.1 g5).1
          have hmj' : ms'[j]'hjm' = (.slice xa l.length xc, l') := (List.getElem?_eq_some_iff.1 g5).2
          have q1 : wr.cell? ⟨rf, j, none⟩ = some (.slice xa l.length xc) := by rw [list_cell g4.f j hjm', hmj']
          have hrow := g4.f.rows _ (List.mem_of_getElem? g5)
          simp only at hrow
          have ht' : t < l'.length := by omega
          rcases hrow.2 with ⟨_, hx⟩ | ⟨rb, cap, cur, hxa, z1, z2, hnc, hcm, z3⟩
          · omega
          simp only [Value.slice.injEq] at hxa
          obtain ⟨rfl, z4, rfl⟩ := hxa
          rw [g6] at hnc
          clear z1 z2 z3 z4 cur
          rcases g2.2 with ⟨_, hx⟩ | ⟨vb, vcap, vcur, hva, z1, z2, hvnc, hvcm, z3⟩
          · omega
          simp only [Value.slice.injEq] at hva
          obtain ⟨rfl, z4, rfl⟩ := hva
          clear z1 z2 z3 z4 vcur
          rw [← g6] at hrow
          have hma := marks_at j 0 l.length t ht
          rw [Nat.zero_add] at hma
          have e0 := g2.cells (g := vb) rfl t _ (icells_at _ t _ hma)
          rw [Addr.add_mid] at e0
          simp only [Nat.zero_add] at e0
          have d0 := irow_cell hrow t ht'
          have f0 := hrow.frozenAt t
          have hne : vb ≠ rb := fun e => HY.out.2.2.2.2.2 rb rfl (by rw [← e]; rfl)
          rw [← g6] at g5
          have hst := g4.store g5 t (nameS j t)
          have HN : Hid (Keeps (above B) w (wr.drew.setCell ⟨rb, t, none⟩ (.int .i64 (nameS j t))) ∧ (wr.drew.setCell ⟨rb, t, none⟩ (.int .i64 (nameS j t))).ownsRow wr0.heap.size 3 1 (.slice (some ⟨vb, 0, none⟩) l.length vc) l.length (icells (marks j 0 l.length)) ∧ ∃ ms l', Part fs ms j ∧ Fs (wr.drew.setCell ⟨rb, t, none⟩ (.int .i64 (nameS j t))) kb (.slice (some ⟨rf, 0, none⟩) fs.length fc) wv ms ∧ ms[j]? = some (.slice (some ⟨rb, 0, none⟩) l.length xc, l') ∧ l'.length = l.length ∧ Upto j (t + 1) l') := by
            have hst' := (g4.quiet (Keeps.refl nobody wr).drew).store g5 t (nameS j t)
            refine ⟨g1.trans ((Keeps.refl _ wr).drew.trans hst'.2 (fun _ _ h => h)) (fun k _ e => by subst e; exact HBR.out k rfl), ?_, _, _, g3.set g5 (by simp), hst'.1, ?_, by simpa using g6, g7.next ht'⟩
            · exact ((Keeps.refl _ wr).drew.trans hst'.2 (fun _ _ h => h)).row g2 fun k hk e => hne (by simp [Value.ownBlock] at hk; omega)
            · rw [List.getElem?_set, if_pos rfl, if_pos hjm', g6]
          generalize l'[t]'ht' = z1 at d0
          clear hst g1 g2 g3 g4 g5 g7 hma hrow hmj hmj' HV HY G ht' hjm' hjm
          have HG6 := hid g6
          have HKK := hid hk
          unfold maxLen at hcm hvcm
          clear g6 hk
          go_wp2
          go_region
          all_goals
            go_wp2
            have hk := HKK.out
            go_roundg (gk - 1)
            case measure => omega
            case rel => exact ⟨t + 1, by simp, by omega, HN.out⟩
        · have HN : Hid (gk0 + j = fs.length ∧ Keeps (above B) w wr ∧ ∃ ms, Part fs ms (j + 1) ∧ Fs wr kb (.slice (some ⟨rf, 0, none⟩) fs.length fc) wv ms) := by
            obtain ⟨g1, g2, ms', l', g3, g4, g5, g6, g7⟩ := G.out
            refine ⟨HY.out.2.2.2.2.1, g1, ms', g3.next g5 ?_, g4⟩
            refine Upto.all fun s hs => g7 s (by omega)
          clear G HV HY hmj hjm hk
          go_wp2
          obtain ⟨n1, n2, n3⟩ := HN.out
          go_roundg (gk0 - 1)
          case measure => omega
          case rel => exact ⟨j + 1, by simp, by omega, n2, n3⟩
    · have HN : Hid (Keeps (above B) w wr ∧ ∃ ms, Part fs ms fs.length ∧ Fs wr kb (.slice fa fs.length fc) wv ms) := by
        obtain rfl : j = fs.length := by omega
        exact ⟨hK, ms, hP, hF⟩
      clear hk hK hP hF
      go_wp2
      exact bodyPost_end (v := .tuple #[]) (by simp [results, Try.results29, go_sem]) rfl ⟨rfl, HN.out⟩
end Go.Proofs.Ytkodpoijdaoihaa
