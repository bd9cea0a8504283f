/-
  Package prefs: Apply.
-/
import Derived.Test.YtkjdklcmaomjnaaZWith
namespace Go.Proofs.Ytkjdklcmaomjnaa
open Go.RowKit
attribute [local irreducible] refE withP applyG

/-- Settings in force, in a box of their own. -/
def Sx (w : World) (b : Nat) (s : Ps) : Prop := w.heap[b]? = some (.cells #[.int .i64 s.table, .int .i64 s.many, .int .i64 s.window, .int .i64 s.frame, .int .i64 s.list] 44 (0, 0))
theorem Sx.lt {w : World} {b : Nat} {s : Ps} (h : Sx w b s) : b < w.heap.size := (Array.getElem?_eq_some_iff.1 h).1
theorem Sx.cells {w : World} {b : Nat} {s : Ps} (h : Sx w b s) : w.cell? ⟨b, 0, none⟩ = some (.int .i64 s.table) ∧ w.cell? ⟨b, 1, none⟩ = some (.int .i64 s.many) ∧ w.cell? ⟨b, 2, none⟩ = some (.int .i64 s.window) ∧ w.cell? ⟨b, 3, none⟩ = some (.int .i64 s.frame) ∧ w.cell? ⟨b, 4, none⟩ = some (.int .i64 s.list) ∧ ∀ o, w.frozen? ⟨b, o, none⟩ = false := by
  unfold Sx at h
  refine ⟨?_, ?_, ?_, ?_, ?_, fun o => ?_⟩ <;> simp [World.cell?, World.frozen?, h]
theorem Sx.keeps {S : Nat → Prop} {w w' : World} {b : Nat} {s : Ps} (h : Sx w b s) (hk : Keeps S w w') (hS : ¬ S b) : Sx w' b s := by
  unfold Sx
  rw [hk.block b h.lt hS]
  exact h
theorem Sx.quiet {w w' : World} {b : Nat} {s : Ps} (h : Sx w b s) (hk : Keeps nobody w w') : Sx w' b s := h.keeps hk id
theorem sx_new (w : World) (s : Ps) : Sx (w.alloc (.cells #[.int .i64 s.table, .int .i64 s.many, .int .i64 s.window, .int .i64 s.frame, .int .i64 s.list] 44)) w.heap.size s := heap_alloc_new w _
/-- Other settings are written into the box. -/
abbrev sput (w : World) (b : Nat) (s : Ps) : World := ((((w.setCell ⟨b, 0, none⟩ (.int .i64 s.table)).setCell ⟨b, 1, none⟩ (.int .i64 s.many)).setCell ⟨b, 2, none⟩ (.int .i64 s.window)).setCell ⟨b, 3, none⟩ (.int .i64 s.frame)).setCell ⟨b, 4, none⟩ (.int .i64 s.list)
theorem sput_sx {w : World} {b : Nat} {s : Ps} (h : Sx w b s) (r : Ps) : Sx (sput w b r) b r := by
  unfold Sx at h ⊢
  simp [sput, World.setCell, h, Array.getElem?_modify]
theorem sput_keeps {S : Nat → Prop} {w w' : World} {b : Nat} (hk : Keeps S w w') (hb : S b ∨ w.heap.size ≤ b) (r : Ps) : Keeps S w (sput w' b r) :=
  ((((hk.setCell (p := ⟨b, 0, none⟩) hb _).setCell (p := ⟨b, 1, none⟩) hb _).setCell (p := ⟨b, 2, none⟩) hb _).setCell (p := ⟨b, 3, none⟩) hb _).setCell (p := ⟨b, 4, none⟩) hb _
/-- The three boxes of Apply. -/
structure Ap (w wr : World) (s c : Ps) : Prop where
  was : Sx wr w.heap.size s
  out : ∃ z, Sx wr (w.heap.size + 1) z
  now : Sx wr (w.heap.size + 1 + 1) c
  keeps : Keeps nobody w wr
theorem Ap.quiet {w wr w' : World} {s c : Ps} (h : Ap w wr s c) (hk : Keeps nobody wr w') : Ap w w' s c := by
  obtain ⟨z, hz⟩ := h.out
  exact ⟨h.was.quiet hk, ⟨z, hz.quiet hk⟩, h.now.quiet hk, h.keeps.then hk⟩
theorem only_put (w : World) (b : Nat) (r : Ps) : Keeps (fun k => k = b) w (sput w b r) := sput_keeps (S := fun k => k = b) (Keeps.refl _ _) (.inl rfl) r
theorem Ap.put {w wr : World} {s c : Ps} (h : Ap w wr s c) (r : Ps) : Ap w (sput wr (w.heap.size + 1 + 1) r) s r := by
  obtain ⟨z, hz⟩ := h.out
  have hk := only_put wr (w.heap.size + 1 + 1) r
  exact ⟨h.was.keeps hk (fun e => absurd e (by omega)), ⟨z, hz.keeps hk (fun e => absurd e (by omega))⟩, sput_sx h.now r, sput_keeps h.keeps (.inr (by omega)) r⟩
theorem Ap.fill {w wr : World} {s c : Ps} (h : Ap w wr s c) (r : Ps) : Sx (sput wr (w.heap.size + 1) r) (w.heap.size + 1) r ∧ Keeps nobody w (sput wr (w.heap.size + 1) r) := by
  obtain ⟨z, hz⟩ := h.out
  exact ⟨sput_sx hz r, sput_keeps h.keeps (.inr (by omega)) r⟩
theorem ap_new (w : World) (s z : Ps) : Ap w (((w.alloc (.cells #[.int .i64 s.table, .int .i64 s.many, .int .i64 s.window, .int .i64 s.frame, .int .i64 s.list] 44)).alloc (.cells #[.int .i64 z.table, .int .i64 z.many, .int .i64 z.window, .int .i64 z.frame, .int .i64 z.list] 44)).alloc (.cells #[.int .i64 s.table, .int .i64 s.many, .int .i64 s.window, .int .i64 s.frame, .int .i64 s.list] 44)) s s := by
  have h1 := sx_new w s
  generalize hw1 : w.alloc _ = w1 at *
  have hs1 : w1.heap.size = w.heap.size + 1 := by rw [← hw1]; simp
  have h2 := sx_new w1 z
  have k2 := keeps_alloc w1 (.cells #[.int .i64 z.table, .int .i64 z.many, .int .i64 z.window, .int .i64 z.frame, .int .i64 z.list] 44)
  generalize hw2 : w1.alloc _ = w2 at *
  have hs2 : w2.heap.size = w.heap.size + 1 + 1 := by rw [← hw2, ← hs1]; simp
  have h3 := sx_new w2 s
  have k3 := keeps_alloc w2 (.cells #[.int .i64 s.table, .int .i64 s.many, .int .i64 s.window, .int .i64 s.frame, .int .i64 s.list] 44)
  rw [hs2] at h3
  rw [hs1] at h2
  exact ⟨(h1.quiet k2).quiet k3, ⟨z, h2.quiet k3⟩, h3, by rw [← hw2, ← hw1]; exact ((keeps_alloc _ _).alloc _).alloc _⟩
set_option maxRecDepth 100000 in
set_option maxHeartbeats 2000000 in
theorem apply_ok {w : World} {a : Option Addr} (cap : Nat) {l : List Pf} {S : Nat → Prop} (s : Ps) (h : PLies w a l S) (hl : l.length ≤ 1000000) : Calls Try.prog 24 #[psval s, .slice a l.length cap] w fun e w' => e = .returned (applyV (applyG s s l)) ∧ Keeps nobody w w' := by
  have HR : Hid (∀ i v w, Calls Try.prog 51 #[pval (i, v)] w fun e w' => e = .returned (.tuple #[.int .i64 (refE (i, v)).1, .int .i64 (refE (i, v)).2]) ∧ Keeps nobody w w') := refused_ok
  have HW : Hid (∀ s i v w, Calls Try.prog 52 #[psval s, pval (i, v)] w fun e w' => e = .returned (psval (withP s (i, v))) ∧ Keeps nobody w w') := with_ok
  have HL := hid h
  clear h
  generalize hG : applyG s s l = G at *
  have HG := hid hG
  clear hG
  have hA := hid (ap_new w s ⟨0, 0, 0, 0, 0⟩)
  go_enter Try.func24, Try.ntmps24
  go_wp2
  go_loopg [15] l.length (fun k i wr => ∃ (j : Nat) (c : Ps), i = .int .i64 (j : Int) ∧ k + j = l.length ∧ Hid (Ap w wr s c ∧ applyG s c (l.drop j) = G))
  case atStart => exact ⟨0, s, rfl, rfl, hid ⟨hA.out, by simpa using HG.out⟩⟩
  case round =>
    obtain ⟨j, c, rfl, hk, HI⟩ := hrel
    obtain ⟨ap, hg⟩ := HI.out
    clear HI
    by_cases hj : j < l.length
    · obtain ⟨r1, f1, rfl, hr1, _, d0, d1⟩ := (HL.out.quiet ap.keeps).at j hj
      have HD : Hid (l.drop j = l[j]'hj :: l.drop (j + 1)) := List.drop_eq_getElem_cons hj
      generalize l[j]'hj = x at *
      obtain ⟨xi, xv⟩ := x
      simp only at d0 d1
      have HK := hid hk
      have HA := hid ap
      have HB := hid hg
      clear hk ap hg
      go_wp2_with fail
      refine Calls.mono (HR.out _ _ _) ?_
      rintro e w1 ⟨rfl, k1⟩
      have ap1 := HA.out.quiet ((keeps_alloc _ _).then k1)
      obtain ⟨p0, p1, _⟩ := ((px_new wr xi xv).quiet k1).cells
      have hlt : wr.heap.size < w1.heap.size := by have := k1.size; simp at this; omega
      have hg := HB.out
      rw [HD.out, applyG_cons] at hg
      have HA1 := hid ap1
      by_cases hE : (refE (xi, xv)).2 = 0
      · rw [if_pos hE] at hg
        rw [hE]
        obtain ⟨n0, n1, n2, n3, n4, nf⟩ := ap1.now.cells
        have HB1 := hid hg
        clear hg HB HD hE ap1 k1 HA d0 d1
        generalize (refE (xi, xv)).1 = C1 at *
        go_wp2_with fail
        refine Calls.mono (HW.out _ _ _ _) ?_
        rintro e w2 ⟨rfl, k2⟩
        have ap2 := HA1.out.quiet k2
        obtain ⟨m0, m1, m2, m3, m4, mf⟩ := ap2.now.cells
        have hm := ap2.now.lt
        have HA2 := hid (ap2.put (withP c (xi, xv)))
        clear ap2 n0 n1 n2 n3 n4 nf k2 HA1 p0 p1 hlt
        generalize withP c (xi, xv) = c2 at *
        go_wp2
        have hk := HK.out
        go_roundg (gk - 1)
        case measure => omega
        case rel => exact ⟨j + 1, c2, by simp, by omega, hid ⟨HA2.out, HB1.out⟩⟩
      · rw [if_neg hE] at hg
        obtain ⟨q0, q1, q2, q3, q4, qf⟩ := ap1.was.cells
        obtain ⟨z, hz⟩ := ap1.out
        obtain ⟨o0, o1, o2, o3, o4, of⟩ := hz.cells
        have hq := ap1.was.lt
        have ho := hz.lt
        have HG1 := hid hg
        have HF := hid (ap1.fill s)
        clear HB HD ap1 k1 HA HA1 hz d0 d1 p0 p1 hlt HG hg
        generalize (refE (xi, xv)).1 = C1 at *
        generalize (refE (xi, xv)).2 = E1 at *
        go_wp2
        refine bodyPost_ret (v := applyV (s, C1, E1)) ?_ rfl ⟨by rw [HG1.out], HF.out.2⟩
        obtain ⟨c0, c1, c2, c3, c4, _⟩ := HF.out.1.cells
        simp [results, Try.results24, go_sem, c0, c1, c2, c3, c4]
    · obtain ⟨z, hz⟩ := ap.out
      obtain ⟨o0, o1, o2, o3, o4, of⟩ := hz.cells
      obtain ⟨n0, n1, n2, n3, n4, nf⟩ := ap.now.cells
      have ho := hz.lt
      have hn := ap.now.lt
      rw [List.drop_eq_nil_of_le (by omega), applyG_nil] at hg
      subst hg
      have HF := hid (ap.fill c)
      clear ap hz HG
      go_wp2
      refine bodyPost_ret (v := applyV (c, 0, 0)) ?_ rfl ⟨rfl, HF.out.2⟩
      obtain ⟨c0, c1, c2, c3, c4, _⟩ := HF.out.1.cells
      simp [results, Try.results24, go_sem, c0, c1, c2, c3, c4]
end Go.Proofs.Ytkjdklcmaomjnaa
