/-
  The reference's Apply: the same settings, code and error.
-/
import Derived.Test.YtkjdklcmaomjnaaZApply
namespace Go.Proofs.Ytkjdklcmaomjnaa
open Go.RowKit

/-- Settings in force, in a box of their own. -/
def Rx (w : World) (b : Nat) (s : Ps) : Prop := w.heap[b]? = some (.cells #[.int .i64 s.table, .int .i64 s.many, .int .i64 s.window, .int .i64 s.frame, .int .i64 s.list] 42 (0, 0))
theorem Rx.lt {w : World} {b : Nat} {s : Ps} (h : Rx w b s) : b < w.heap.size := (Array.getElem?_eq_some_iff.1 h).1
theorem Rx.cells {w : World} {b : Nat} {s : Ps} (h : Rx w b s) : w.cell? ⟨b, 0, none⟩ = some (.int .i64 s.table) ∧ w.cell? ⟨b, 1, none⟩ = some (.int .i64 s.many) ∧ w.cell? ⟨b, 2, none⟩ = some (.int .i64 s.window) ∧ w.cell? ⟨b, 3, none⟩ = some (.int .i64 s.frame) ∧ w.cell? ⟨b, 4, none⟩ = some (.int .i64 s.list) ∧ ∀ o, w.frozen? ⟨b, o, none⟩ = false := by
  unfold Rx at h
  refine ⟨?_, ?_, ?_, ?_, ?_, fun o => ?_⟩ <;> simp [World.cell?, World.frozen?, h]
theorem Rx.keeps {S : Nat → Prop} {w w' : World} {b : Nat} {s : Ps} (h : Rx w b s) (hk : Keeps S w w') (hS : ¬ S b) : Rx w' b s := by
  unfold Rx
  rw [hk.block b h.lt hS]
  exact h
theorem Rx.quiet {w w' : World} {b : Nat} {s : Ps} (h : Rx w b s) (hk : Keeps nobody w w') : Rx w' b s := h.keeps hk id
theorem rx_new (w : World) (s : Ps) : Rx (w.alloc (.cells #[.int .i64 s.table, .int .i64 s.many, .int .i64 s.window, .int .i64 s.frame, .int .i64 s.list] 42)) w.heap.size s := heap_alloc_new w _
/-- Other settings are written into the box. -/
abbrev rput (w : World) (b : Nat) (s : Ps) : World := ((((w.setCell ⟨b, 0, none⟩ (.int .i64 s.table)).setCell ⟨b, 1, none⟩ (.int .i64 s.many)).setCell ⟨b, 2, none⟩ (.int .i64 s.window)).setCell ⟨b, 3, none⟩ (.int .i64 s.frame)).setCell ⟨b, 4, none⟩ (.int .i64 s.list)
theorem rput_rx {w : World} {b : Nat} {s : Ps} (h : Rx w b s) (r : Ps) : Rx (rput w b r) b r := by
  unfold Rx at h ⊢
  simp [rput, World.setCell, h, Array.getElem?_modify]
theorem rput_keeps {S : Nat → Prop} {w w' : World} {b : Nat} (hk : Keeps S w w') (hb : S b ∨ w.heap.size ≤ b) (r : Ps) : Keeps S w (rput w' b r) :=
  ((((hk.setCell (p := ⟨b, 0, none⟩) hb _).setCell (p := ⟨b, 1, none⟩) hb _).setCell (p := ⟨b, 2, none⟩) hb _).setCell (p := ⟨b, 3, none⟩) hb _).setCell (p := ⟨b, 4, none⟩) hb _
/-- The three boxes of Apply. -/
structure Ar (w wr : World) (s c : Ps) : Prop where
  now : Rx wr w.heap.size c
  out : ∃ z, Rx wr (w.heap.size + 1) z
  was : Rx wr (w.heap.size + 1 + 1) s
  keeps : Keeps nobody w wr
theorem Ar.quiet {w wr w' : World} {s c : Ps} (h : Ar w wr s c) (hk : Keeps nobody wr w') : Ar w w' s c := by
  obtain ⟨z, hz⟩ := h.out
  exact ⟨h.now.quiet hk, ⟨z, hz.quiet hk⟩, h.was.quiet hk, h.keeps.then hk⟩
theorem ronly_put (w : World) (b : Nat) (r : Ps) : Keeps (fun k => k = b) w (rput w b r) := rput_keeps (S := fun k => k = b) (Keeps.refl _ _) (.inl rfl) r
theorem Ar.set0 {w wr : World} {s c : Ps} (h : Ar w wr s c) (v : Int) : Ar w (wr.setCell ⟨w.heap.size, 0, none⟩ (.int .i64 v)) s { c with table := v } := by
  obtain ⟨z, hz⟩ := h.out
  have hk : Keeps (fun k => k = w.heap.size) wr (wr.setCell ⟨w.heap.size, 0, none⟩ (.int .i64 v)) := (Keeps.refl (fun k => k = w.heap.size) wr).setCell (p := ⟨w.heap.size, 0, none⟩) (.inl rfl) _
  refine ⟨?_, ⟨z, hz.keeps hk (fun e => absurd e (by omega))⟩, h.was.keeps hk (fun e => absurd e (by omega)), h.keeps.setCell (p := ⟨w.heap.size, 0, none⟩) (.inr (Nat.le_refl _)) _⟩
  have hb := h.now
  unfold Rx at hb ⊢
  simp [World.setCell, hb, Array.getElem?_modify]
theorem Ar.set1 {w wr : World} {s c : Ps} (h : Ar w wr s c) (v : Int) : Ar w (wr.setCell ⟨w.heap.size, 1, none⟩ (.int .i64 v)) s { c with many := v } := by
  obtain ⟨z, hz⟩ := h.out
  have hk : Keeps (fun k => k = w.heap.size) wr (wr.setCell ⟨w.heap.size, 1, none⟩ (.int .i64 v)) := (Keeps.refl (fun k => k = w.heap.size) wr).setCell (p := ⟨w.heap.size, 1, none⟩) (.inl rfl) _
  refine ⟨?_, ⟨z, hz.keeps hk (fun e => absurd e (by omega))⟩, h.was.keeps hk (fun e => absurd e (by omega)), h.keeps.setCell (p := ⟨w.heap.size, 1, none⟩) (.inr (Nat.le_refl _)) _⟩
  have hb := h.now
  unfold Rx at hb ⊢
  simp [World.setCell, hb, Array.getElem?_modify]
theorem Ar.set2 {w wr : World} {s c : Ps} (h : Ar w wr s c) (v : Int) : Ar w (wr.setCell ⟨w.heap.size, 2, none⟩ (.int .i64 v)) s { c with window := v } := by
  obtain ⟨z, hz⟩ := h.out
  have hk : Keeps (fun k => k = w.heap.size) wr (wr.setCell ⟨w.heap.size, 2, none⟩ (.int .i64 v)) := (Keeps.refl (fun k => k = w.heap.size) wr).setCell (p := ⟨w.heap.size, 2, none⟩) (.inl rfl) _
  refine ⟨?_, ⟨z, hz.keeps hk (fun e => absurd e (by omega))⟩, h.was.keeps hk (fun e => absurd e (by omega)), h.keeps.setCell (p := ⟨w.heap.size, 2, none⟩) (.inr (Nat.le_refl _)) _⟩
  have hb := h.now
  unfold Rx at hb ⊢
  simp [World.setCell, hb, Array.getElem?_modify]
theorem Ar.set3 {w wr : World} {s c : Ps} (h : Ar w wr s c) (v : Int) : Ar w (wr.setCell ⟨w.heap.size, 3, none⟩ (.int .i64 v)) s { c with frame := v } := by
  obtain ⟨z, hz⟩ := h.out
  have hk : Keeps (fun k => k = w.heap.size) wr (wr.setCell ⟨w.heap.size, 3, none⟩ (.int .i64 v)) := (Keeps.refl (fun k => k = w.heap.size) wr).setCell (p := ⟨w.heap.size, 3, none⟩) (.inl rfl) _
  refine ⟨?_, ⟨z, hz.keeps hk (fun e => absurd e (by omega))⟩, h.was.keeps hk (fun e => absurd e (by omega)), h.keeps.setCell (p := ⟨w.heap.size, 3, none⟩) (.inr (Nat.le_refl _)) _⟩
  have hb := h.now
  unfold Rx at hb ⊢
  simp [World.setCell, hb, Array.getElem?_modify]
theorem Ar.set4 {w wr : World} {s c : Ps} (h : Ar w wr s c) (v : Int) : Ar w (wr.setCell ⟨w.heap.size, 4, none⟩ (.int .i64 v)) s { c with list := v } := by
  obtain ⟨z, hz⟩ := h.out
  have hk : Keeps (fun k => k = w.heap.size) wr (wr.setCell ⟨w.heap.size, 4, none⟩ (.int .i64 v)) := (Keeps.refl (fun k => k = w.heap.size) wr).setCell (p := ⟨w.heap.size, 4, none⟩) (.inl rfl) _
  refine ⟨?_, ⟨z, hz.keeps hk (fun e => absurd e (by omega))⟩, h.was.keeps hk (fun e => absurd e (by omega)), h.keeps.setCell (p := ⟨w.heap.size, 4, none⟩) (.inr (Nat.le_refl _)) _⟩
  have hb := h.now
  unfold Rx at hb ⊢
  simp [World.setCell, hb, Array.getElem?_modify]
theorem Ar.fill {w wr : World} {s c : Ps} (h : Ar w wr s c) (r : Ps) : Rx (rput wr (w.heap.size + 1) r) (w.heap.size + 1) r ∧ Keeps nobody w (rput wr (w.heap.size + 1) r) := by
  obtain ⟨z, hz⟩ := h.out
  exact ⟨rput_rx hz r, rput_keeps h.keeps (.inr (by omega)) r⟩
theorem ar_new (w : World) (s : Ps) : Ar w (((w.alloc (.cells #[.int .i64 s.table, .int .i64 s.many, .int .i64 s.window, .int .i64 s.frame, .int .i64 s.list] 42)).alloc (.cells #[.int .i64 0, .int .i64 0, .int .i64 0, .int .i64 0, .int .i64 0] 42)).alloc (.cells #[.int .i64 s.table, .int .i64 s.many, .int .i64 s.window, .int .i64 s.frame, .int .i64 s.list] 42)) s s := by
  have h1 := rx_new w s
  generalize hw1 : w.alloc _ = w1 at *
  have hs1 : w1.heap.size = w.heap.size + 1 := by rw [← hw1]; simp
  have h2 := rx_new w1 ⟨0, 0, 0, 0, 0⟩
  have k2 := keeps_alloc w1 (.cells #[.int .i64 0, .int .i64 0, .int .i64 0, .int .i64 0, .int .i64 0] 42)
  simp only at h2
  generalize hw2 : w1.alloc _ = w2 at *
  have hs2 : w2.heap.size = w.heap.size + 1 + 1 := by rw [← hw2, ← hs1]; simp
  have h3 := rx_new w2 s
  have k3 := keeps_alloc w2 (.cells #[.int .i64 s.table, .int .i64 s.many, .int .i64 s.window, .int .i64 s.frame, .int .i64 s.list] 42)
  rw [hs2] at h3
  rw [hs1] at h2
  exact ⟨(h1.quiet k2).quiet k3, ⟨⟨0, 0, 0, 0, 0⟩, h2.quiet k3⟩, h3, by rw [← hw2, ← hw1]; exact ((keeps_alloc _ _).alloc _).alloc _⟩

attribute [local irreducible] applyG
set_option maxRecDepth 100000 in
set_option maxHeartbeats 8000000 in
theorem rapply_ok {w : World} {a : Option Addr} (cap : Nat) {l : List Pf} {S : Nat → Prop} (s : Ps) (h : PLies w a l S) (hl : l.length ≤ 1000000) : Calls Try.prog 25 #[psval s, .slice a l.length cap] w fun e w' => e = .returned (applyV (applyG s s l)) ∧ Keeps nobody w w' := by
  have HL := hid h
  clear h
  generalize hG : applyG s s l = G at *
  have HG := hid hG
  clear hG
  have hA := hid (ar_new w s)
  go_enter Try.func25, Try.ntmps25
  go_wp2
  go_loopg [8] l.length (fun k i wr => ∃ (j : Nat) (c : Ps), i = .int .i64 (j : Int) ∧ k + j = l.length ∧ Hid (Ar w wr s c ∧ applyG s c (l.drop j) = G))
  case atStart => exact ⟨0, s, rfl, rfl, hid ⟨hA.out, by simpa using HG.out⟩⟩
  case round =>
    clear hA
    obtain ⟨j, c, rfl, hk, HI⟩ := hrel
    obtain ⟨ap, hg⟩ := HI.out
    clear HI
    obtain ⟨q0, q1, q2, q3, q4, qf⟩ := ap.now.cells
    obtain ⟨z, hz⟩ := ap.out
    obtain ⟨o0, o1, o2, o3, o4, of⟩ := hz.cells
    obtain ⟨n0, n1, n2, n3, n4, nf⟩ := ap.was.cells
    have hq := ap.now.lt
    have ho := hz.lt
    have hn := ap.was.lt
    by_cases hj : j < l.length
    · obtain ⟨r1, f1, rfl, hr1, _, d0, d1⟩ := (HL.out.quiet ap.keeps).at j hj
      have HD : Hid (l.drop j = l[j]'hj :: l.drop (j + 1)) := List.drop_eq_getElem_cons hj
      generalize l[j]'hj = x at *
      obtain ⟨xi, xv⟩ := x
      simp only at d0 d1
      have HK := hid hk
      have HA := hid ap
      rw [HD.out, applyG_cons] at hg
      clear hk ap HD hz
      by_cases g1 : xi = 1
      · subst g1
        have hE : refE (1, xv) = (0, 0) := by simp [refE]
        have hW : withP c (1, xv) = { c with table := xv } := by simp [withP]
        rw [hE, hW, if_pos rfl] at hg
        have HB1 := hid hg
        have HA1 := hid (HA.out.set0 xv)
        clear hg hE hW
        go_wp2
        have hk := HK.out
        go_roundg (gk - 1)
        case measure => omega
        case rel => exact ⟨j + 1, { c with table := xv }, by simp, by omega, hid ⟨HA1.out, HB1.out⟩⟩
      by_cases g3 : xi = 3
      · subst g3
        by_cases hm : xv ≤ 6
        · have hE : refE (3, xv) = (0, 0) := by simp [refE]
          have hW : withP c (3, xv) = { c with many := xv } := by simp [withP]; omega
          rw [hE, hW, if_pos rfl] at hg
          have HB1 := hid hg
          have HA1 := hid (HA.out.set1 xv)
          clear hg hE hW
          go_wp2
          have hk := HK.out
          go_roundg (gk - 1)
          case measure => omega
          case rel => exact ⟨j + 1, { c with many := xv }, by simp, by omega, hid ⟨HA1.out, HB1.out⟩⟩
        · have hE : refE (3, xv) = (0, 0) := by simp [refE]
          have hW : withP c (3, xv) = { c with many := 6 } := by simp [withP]; omega
          rw [hE, hW, if_pos rfl] at hg
          have HB1 := hid hg
          have HA1 := hid (HA.out.set1 6)
          clear hg hE hW
          go_wp2
          have hk := HK.out
          go_roundg (gk - 1)
          case measure => omega
          case rel => exact ⟨j + 1, { c with many := 6 }, by simp, by omega, hid ⟨HA1.out, HB1.out⟩⟩
      by_cases g4 : xi = 4
      · subst g4
        by_cases hm : xv ≤ 2147483647
        · have hE : refE (4, xv) = (0, 0) := by simp [refE, hm]
          have hW : withP c (4, xv) = { c with window := xv } := by simp [withP]
          rw [hE, hW, if_pos rfl] at hg
          have HB1 := hid hg
          have HA1 := hid (HA.out.set2 xv)
          clear hg hE hW
          go_wp2
          have hk := HK.out
          go_roundg (gk - 1)
          case measure => omega
          case rel => exact ⟨j + 1, { c with window := xv }, by simp, by omega, hid ⟨HA1.out, HB1.out⟩⟩
        · have hE : refE (4, xv) = (3, 9) := by simp [refE, hm]
          rw [hE, if_neg (by decide)] at hg
          have HG1 := hid hg
          have HF := hid (HA.out.fill s)
          clear hg hE HA HG
          go_wp2
          refine bodyPost_ret (v := applyV (s, 3, 9)) ?_ rfl ⟨by rw [HG1.out], HF.out.2⟩
          obtain ⟨y0, y1, y2, y3, y4, _⟩ := HF.out.1.cells
          simp [results, Try.results25, go_sem, y0, y1, y2, y3, y4]
      by_cases g5 : xi = 5
      · subst g5
        by_cases hm : xv < 64
        · have hE : refE (5, xv) = (1, 11) := by simp [refE]; omega
          rw [hE, if_neg (by decide)] at hg
          have HG1 := hid hg
          have HF := hid (HA.out.fill s)
          clear hg hE HA HG
          go_wp2
          refine bodyPost_ret (v := applyV (s, 1, 11)) ?_ rfl ⟨by rw [HG1.out], HF.out.2⟩
          obtain ⟨y0, y1, y2, y3, y4, _⟩ := HF.out.1.cells
          simp [results, Try.results25, go_sem, y0, y1, y2, y3, y4]
        by_cases hn : 16777215 < xv
        · have hE : refE (5, xv) = (1, 11) := by simp [refE]; omega
          rw [hE, if_neg (by decide)] at hg
          have HG1 := hid hg
          have HF := hid (HA.out.fill s)
          clear hg hE HA HG
          go_wp2
          refine bodyPost_ret (v := applyV (s, 1, 11)) ?_ rfl ⟨by rw [HG1.out], HF.out.2⟩
          obtain ⟨y0, y1, y2, y3, y4, _⟩ := HF.out.1.cells
          simp [results, Try.results25, go_sem, y0, y1, y2, y3, y4]
        by_cases ho : xv ≤ 512
        · have hE : refE (5, xv) = (0, 0) := by simp [refE]; omega
          have hW : withP c (5, xv) = { c with frame := xv } := by simp [withP]; omega
          rw [hE, hW, if_pos rfl] at hg
          have HB1 := hid hg
          have HA1 := hid (HA.out.set3 xv)
          clear hg hE hW
          go_wp2
          have hk := HK.out
          go_roundg (gk - 1)
          case measure => omega
          case rel => exact ⟨j + 1, { c with frame := xv }, by simp, by omega, hid ⟨HA1.out, HB1.out⟩⟩
        · have hE : refE (5, xv) = (0, 0) := by simp [refE]; omega
          have hW : withP c (5, xv) = { c with frame := 512 } := by simp [withP]; omega
          rw [hE, hW, if_pos rfl] at hg
          have HB1 := hid hg
          have HA1 := hid (HA.out.set3 512)
          clear hg hE hW
          go_wp2
          have hk := HK.out
          go_roundg (gk - 1)
          case measure => omega
          case rel => exact ⟨j + 1, { c with frame := 512 }, by simp, by omega, hid ⟨HA1.out, HB1.out⟩⟩
      by_cases g6 : xi = 6
      · subst g6
        have hE : refE (6, xv) = (0, 0) := by simp [refE]
        have hW : withP c (6, xv) = { c with list := xv } := by simp [withP]
        rw [hE, hW, if_pos rfl] at hg
        have HB1 := hid hg
        have HA1 := hid (HA.out.set4 xv)
        clear hg hE hW
        go_wp2
        have hk := HK.out
        go_roundg (gk - 1)
        case measure => omega
        case rel => exact ⟨j + 1, { c with list := xv }, by simp, by omega, hid ⟨HA1.out, HB1.out⟩⟩
      by_cases g2 : xi = 2
      · subst g2
        by_cases hm : xv = 0
        · subst hm
          have hE : refE (2, 0) = (0, 0) := by simp [refE]
          have hW : withP c (2, 0) = c := by simp [withP]
          rw [hE, hW, if_pos rfl] at hg
          have HB1 := hid hg
          have HA1 := hid HA.out
          clear hg hE hW
          go_wp2
          have hk := HK.out
          go_roundg (gk - 1)
          case measure => omega
          case rel => exact ⟨j + 1, c, by simp, by omega, hid ⟨HA1.out, HB1.out⟩⟩
        · have hE : refE (2, xv) = (1, 11) := by simp [refE, hm]
          rw [hE, if_neg (by decide)] at hg
          have HG1 := hid hg
          have HF := hid (HA.out.fill s)
          clear hg hE HA HG
          go_wp2
          refine bodyPost_ret (v := applyV (s, 1, 11)) ?_ rfl ⟨by rw [HG1.out], HF.out.2⟩
          obtain ⟨y0, y1, y2, y3, y4, _⟩ := HF.out.1.cells
          simp [results, Try.results25, go_sem, y0, y1, y2, y3, y4]
      have hE : refE (xi, xv) = (0, 0) := by simp [refE, g4, g5, g2]
      have hW : withP c (xi, xv) = c := by simp [withP, g1, g3, g4, g5, g6]
      rw [hE, hW, if_pos rfl] at hg
      have HB1 := hid hg
      have HA1 := hid HA.out
      clear hg hE hW
      go_wp2
      have hk := HK.out
      go_roundg (gk - 1)
      case measure => omega
      case rel => exact ⟨j + 1, c, by simp, by omega, hid ⟨HA1.out, HB1.out⟩⟩
    · rw [List.drop_eq_nil_of_le (by omega), applyG_nil] at hg
      subst hg
      have HF := hid (ap.fill c)
      clear ap hz HG
      go_wp2
      refine bodyPost_ret (v := applyV (c, 0, 0)) ?_ rfl ⟨rfl, HF.out.2⟩
      obtain ⟨c0, c1, c2, c3, c4, _⟩ := HF.out.1.cells
      simp [results, Try.results25, go_sem, c0, c1, c2, c3, c4]
end Go.Proofs.Ytkjdklcmaomjnaa
