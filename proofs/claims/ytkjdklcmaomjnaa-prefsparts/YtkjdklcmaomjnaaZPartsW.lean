/-
  The law PrefsParts, walked.
-/
import Derived.Test.YtkjdklcmaomjnaaZPushW
import Derived.Test.YtkjdklcmaomjnaaZOpen
namespace Go.Proofs.Ytkjdklcmaomjnaa
open Go.RowKit
attribute [local irreducible] numL nums str sixes putP getP applyG refE withP

/-- One setting by itself. -/
theorem applyG_one (c : Ps) (p : Pf) : applyG c c [p] = if (refE p).2 = 0 then (withP c p, 0, 0) else (c, (refE p).1, (refE p).2) := by
  rw [applyG_cons]
  split
  · rw [applyG_nil]
  · rfl
/-- p as it is now, in its box. -/
structure Pp (w wr : World) (b : Nat) (c : Ps) : Prop where
  now : Sx wr b c
  new : w.heap.size ≤ b
  keeps : Keeps nobody w wr
theorem Pp.quiet {w wr w' : World} {b : Nat} {c : Ps} (h : Pp w wr b c) (hk : Keeps nobody wr w') : Pp w w' b c := ⟨h.now.quiet hk, h.new, h.keeps.then hk⟩
theorem Pp.put {w wr : World} {b : Nat} {c : Ps} (h : Pp w wr b c) (r : Ps) : Pp w (sput wr b r) b r := ⟨sput_sx h.now r, h.new, sput_keeps h.keeps (.inr h.new) r⟩
set_option maxRecDepth 100000 in
set_option maxHeartbeats 4000000 in
theorem parts_walk (a : Option Addr) (cap : Nat) (l : List Pf) (w : World) (h : Prs w a cap l) : Calls Try.prog 4 #[.slice a l.length cap] w (Fine w) := by
  have HL := hid alive_ok
  have HF := hid first_lit
  obtain ⟨hp, hc1, hc2⟩ := h
  unfold maxLen at hc2
  by_cases hl : l.length > 30
  · clear hp
    go_enter Try.func4, Try.ntmps4
    go_wp2_with fail
    refine Calls.mono (HL.out _) ?_
    rintro e w1 ⟨rfl, k1⟩
    go_wp2
    go_ret
    exact ⟨rfl, below_of_keeps k1⟩
  have HQ := hid hp
  have HA : Hid (∀ W, Keeps nobody w W → Calls Try.prog 24 #[.agg #[.int .i64 128, .int .i64 6, .int .i64 100, .int .i64 64, .int .i64 600], .slice a l.length cap] W fun e w' => e = .returned (applyV (applyG firstP firstP l)) ∧ Keeps nobody W w') := fun W hW => apply_ok cap firstP (hp.quiet hW) (by omega)
  have H1 : Hid (∀ (W : World) (g : Nat) (s : Ps) (i v : Int), W.heap.size = g → Calls Try.prog 24 #[psval s, .slice (some ⟨g, 0, none⟩) 1 1] (W.alloc (.cells #[.int .i64 i, .int .i64 v] 48)) fun e w' => e = .returned (applyV (applyG s s [(i, v)])) ∧ Keeps nobody W w') := fun W g s i v hg => by
    subst hg
    exact apply_new s [(i, v)] #[.int .i64 i, .int .i64 v] rfl 1 rfl (by decide) W
  clear hp
  generalize hG : applyG firstP firstP l = G at *
  have HG := hid hG
  clear hG
  go_enter Try.func4, Try.ntmps4
  go_wp2_with fail
  refine Calls.mono (HL.out _) ?_
  rintro e w1 ⟨rfl, k1⟩
  go_wp2_with fail
  refine Calls.mono (HF.out _) ?_
  rintro e w2 ⟨rfl, k2⟩
  have HP : Hid (Pp w (w2.alloc (.cells #[.int .i64 128, .int .i64 6, .int .i64 100, .int .i64 64, .int .i64 600] 44)) w2.heap.size firstP) := ⟨sx_new w2 firstP, (k1.then k2).size, (k1.then k2).alloc _⟩
  clear k1 k2
  go_wp2
  go_loopg [28] l.length (fun k i wr => ∃ (j : Nat), i = .int .i64 (j : Int) ∧ k + j = l.length ∧ Hid (Pp w wr w2.heap.size firstP))
  case atStart => exact ⟨0, rfl, rfl, HP⟩
  case round =>
    obtain ⟨j, rfl, hk, HI⟩ := hrel
    by_cases hj : j < l.length
    · obtain ⟨r1, f1, rfl, hr1, _, d0, d1⟩ := (HQ.out.quiet HI.out.keeps).at j hj
      generalize l[j]'hj = x at *
      obtain ⟨xi, xv⟩ := x
      simp only at d0 d1
      have HK := hid hk
      clear hk
      by_cases hx : xv < 0
      · go_wp2
        go_ret
        exact ⟨rfl, below_of_keeps (HI.out.keeps.alloc _)⟩
      · go_wp2
        have hk := HK.out
        go_roundg (gk - 1)
        case measure => omega
        case rel => exact ⟨j + 1, by simp, by omega, hid (HI.out.quiet (keeps_alloc _ _))⟩
    · clear HP hk
      have hj2 : ¬ (j : Int) < (l.length : Int) := by omega
      clear hj
      obtain ⟨b0, hb0⟩ : ∃ b0, b0 = w2.heap.size := ⟨_, rfl⟩
      have HI0 : Hid (Pp w wr b0 firstP) := by rw [hb0]; exact HI
      clear HI
      rw [← hb0]
      clear hb0
      obtain ⟨wo, hwo⟩ : ∃ wo : World, wo = wr := ⟨_, rfl⟩
      subst hwo
      obtain ⟨go, hgo⟩ : ∃ go : Nat, go = gk := ⟨_, rfl⟩
      subst hgo
      go_wp2
      go_loopg [38] l.length (fun k i wr => ∃ (j : Nat) (c : Ps), i = .int .i64 (j : Int) ∧ k + j = l.length ∧ Hid (Pp w wr b0 c ∧ applyG firstP c (l.drop j) = G))
      case atStart => exact ⟨0, firstP, rfl, rfl, hid ⟨HI0.out, by simpa using HG.out⟩⟩
      case round =>
        clear hj2 HI0
        obtain ⟨j, c, rfl, hk, HI⟩ := hrel
        obtain ⟨hpp, hg⟩ := HI.out
        clear HI
        by_cases hj : j < l.length
        · obtain ⟨r1, f1, rfl, hr1, _, d0, d1⟩ := (HQ.out.quiet hpp.keeps).at j hj
          have HD : Hid (l.drop j = l[j]'hj :: l.drop (j + 1)) := List.drop_eq_getElem_cons hj
          generalize l[j]'hj = x at *
          obtain ⟨xi, xv⟩ := x
          simp only at d0 d1
          have HK := hid hk
          have HB := hid hg
          have HI := hid hpp
          obtain ⟨q0, q1, q2, q3, q4, qf⟩ := hpp.now.cells
          have hb := hpp.now.lt
          clear hk hg hpp
          go_wp2_with fail
          refine Calls.mono (H1.out (wr.alloc (.cells #[.int .i64 xi, .int .i64 xv] 48)) (wr.heap.size + 1) c xi xv (by simp)) ?_
          rintro e w3 ⟨rfl, k3⟩
          rw [applyG_one]
          have hg := HB.out
          rw [HD.out, applyG_cons] at hg
          have hI3 := HI.out.quiet ((keeps_alloc _ _).then k3)
          by_cases hE : (refE (xi, xv)).2 = 0
          · rw [if_pos hE] at hg ⊢
            have HB3 := hid hg
            have HI3 := hid hI3
            have x8 := alloc_ps w3 (withP c (xi, xv)) _ (Keeps.refl _ _)
            have hI4 := hI3.quiet (keeps_alloc w3 (.cells #[.int .i64 (withP c (xi, xv)).table, .int .i64 (withP c (xi, xv)).many, .int .i64 (withP c (xi, xv)).window, .int .i64 (withP c (xi, xv)).frame, .int .i64 (withP c (xi, xv)).list] 44))
            have HI5 := hid (hI4.put (withP c (xi, xv)))
            obtain ⟨m0, m1, m2, m3, m4, mf⟩ := hI4.now.cells
            have hm := hI4.now.lt
            clear hg hI3 hI4 hE k3 q0 q1 q2 q3 q4 qf d0 d1 HD HB HI HI3
            generalize withP c (xi, xv) = c2 at *
            go_wp2
            have hk := HK.out
            go_roundg (gk - 1)
            case measure => omega
            case rel => exact ⟨j + 1, c2, by simp, by omega, hid ⟨HI5.out, HB3.out⟩⟩
          · rw [if_neg hE] at hg ⊢
            generalize (refE (xi, xv)).1 = C1 at *
            generalize (refE (xi, xv)).2 = E1 at *
            obtain ⟨c0, c1, c2, c3, c4⟩ := c
            subst hg
            have HA2 : Hid (∀ W, Keeps nobody w W → Calls Try.prog 24 #[.agg #[.int .i64 128, .int .i64 6, .int .i64 100, .int .i64 64, .int .i64 600], .slice (some ⟨r1, f1, none⟩) l.length cap] W fun e w' => e = .returned (.tuple #[.agg #[.int .i64 128, .int .i64 6, .int .i64 100, .int .i64 64, .int .i64 600], .int .i64 C1, .int .i64 E1]) ∧ Keeps nobody W w') := HA.out
            have HI3 := hid hI3
            clear hI3 k3 q0 q1 q2 q3 q4 qf d0 d1 HD HB HI HG HA H1
            go_wp2_with fail
            refine Calls.mono (HF.out _) ?_
            rintro e w4 ⟨rfl, k4⟩
            have hw4 := (HI3.out.keeps.alloc (.cells #[.int .i64 c0, .int .i64 c1, .int .i64 c2, .int .i64 c3, .int .i64 c4] 44)).then k4
            go_wp2_with fail
            refine Calls.mono (HA2.out _ hw4) ?_
            rintro e w5 ⟨rfl, k5⟩
            have x1 := alloc_ps w3 ⟨c0, c1, c2, c3, c4⟩
            have x2 := alloc_ps w5 firstP
            have y2 := keeps_alloc w5 (.cells #[.int .i64 128, .int .i64 6, .int .i64 100, .int .i64 64, .int .i64 600] 44)
            have i5 := HI3.out.quiet (((keeps_alloc w3 (.cells #[.int .i64 c0, .int .i64 c1, .int .i64 c2, .int .i64 c3, .int .i64 c4] 44)).then k4).then (k5.then y2))
            have HD : Hid (∀ W, Keeps nobody (w5.alloc (.cells #[.int .i64 128, .int .i64 6, .int .i64 100, .int .i64 64, .int .i64 600] 44)) W → W.cell? ⟨w3.heap.size, 0, none⟩ = some (.int .i64 c0) ∧ W.cell? ⟨w3.heap.size, 1, none⟩ = some (.int .i64 c1) ∧ W.cell? ⟨w3.heap.size, 2, none⟩ = some (.int .i64 c2) ∧ W.cell? ⟨w3.heap.size, 3, none⟩ = some (.int .i64 c3) ∧ W.cell? ⟨w3.heap.size, 4, none⟩ = some (.int .i64 c4) ∧ W.cell? ⟨b0, 0, none⟩ = some (.int .i64 c0) ∧ W.cell? ⟨b0, 1, none⟩ = some (.int .i64 c1) ∧ W.cell? ⟨b0, 2, none⟩ = some (.int .i64 c2) ∧ W.cell? ⟨b0, 3, none⟩ = some (.int .i64 c3) ∧ W.cell? ⟨b0, 4, none⟩ = some (.int .i64 c4) ∧ W.cell? ⟨w5.heap.size, 0, none⟩ = some (.int .i64 128) ∧ W.cell? ⟨w5.heap.size, 1, none⟩ = some (.int .i64 6) ∧ W.cell? ⟨w5.heap.size, 2, none⟩ = some (.int .i64 100) ∧ W.cell? ⟨w5.heap.size, 3, none⟩ = some (.int .i64 64) ∧ W.cell? ⟨w5.heap.size, 4, none⟩ = some (.int .i64 600)) := fun W hW => by
              obtain ⟨p0, p1, p2, p3, p4⟩ := x1 W ((k4.then k5).then (y2.then hW))
              obtain ⟨q0, q1, q2, q3, q4, _⟩ := (i5.now.quiet hW).cells
              obtain ⟨r0, r1, r2, r3, r4⟩ := x2 W hW
              exact ⟨p0, p1, p2, p3, p4, q0, q1, q2, q3, q4, r0, r1, r2, r3, r4⟩
            have HF2 : Hid (∀ W, Keeps nobody (w5.alloc (.cells #[.int .i64 128, .int .i64 6, .int .i64 100, .int .i64 64, .int .i64 600] 44)) W → Calls Try.prog 20 #[] W fun e w' => e = .returned (.agg #[.int .i64 128, .int .i64 6, .int .i64 100, .int .i64 64, .int .i64 600]) ∧ Keeps nobody (w5.alloc (.cells #[.int .i64 128, .int .i64 6, .int .i64 100, .int .i64 64, .int .i64 600] 44)) w') := fun W hW => (HF.out W).mono fun e w' h => ⟨h.1, hW.then h.2⟩
            have HK5 := hid i5.keeps
            clear x1 x2 y2 i5 k4 k5 hw4 HI3 HA2
            go_wp2_with fail
            obtain ⟨p0, p1, p2, p3, p4, q0, q1, q2, q3, q4, s0, s1, s2, s3, s4⟩ := HD.out _ (Keeps.refl _ _)
            go_region_held3 (fun w' => w'.cell? ⟨w3.heap.size, 0, none⟩ = some (.int .i64 c0) ∧ w'.cell? ⟨w3.heap.size, 1, none⟩ = some (.int .i64 c1) ∧ w'.cell? ⟨w3.heap.size, 2, none⟩ = some (.int .i64 c2) ∧ w'.cell? ⟨w3.heap.size, 3, none⟩ = some (.int .i64 c3) ∧ w'.cell? ⟨w3.heap.size, 4, none⟩ = some (.int .i64 c4) ∧ w'.cell? ⟨b0, 0, none⟩ = some (.int .i64 c0) ∧ w'.cell? ⟨b0, 1, none⟩ = some (.int .i64 c1) ∧ w'.cell? ⟨b0, 2, none⟩ = some (.int .i64 c2) ∧ w'.cell? ⟨b0, 3, none⟩ = some (.int .i64 c3) ∧ w'.cell? ⟨b0, 4, none⟩ = some (.int .i64 c4) ∧ w'.cell? ⟨w5.heap.size, 0, none⟩ = some (.int .i64 128) ∧ w'.cell? ⟨w5.heap.size, 1, none⟩ = some (.int .i64 6) ∧ w'.cell? ⟨w5.heap.size, 2, none⟩ = some (.int .i64 100) ∧ w'.cell? ⟨w5.heap.size, 3, none⟩ = some (.int .i64 64) ∧ w'.cell? ⟨w5.heap.size, 4, none⟩ = some (.int .i64 600)) (first | go_keep | exact HD.out _ (by assumption) | exact HD.out _ (Keeps.refl _ _).drew) ((go_at_call 20; refine Calls.mono (HF2.out _ (by first | assumption | exact (Keeps.refl _ _).drew)) ?_; rintro e wq ⟨rfl, kq⟩))
            all_goals
              go_wp2
              go_ret
              exact ⟨rfl, below_of_keeps (HK5.out.then kq)⟩
        · have hj3 : ¬ (j : Int) < (l.length : Int) := by omega
          rw [List.drop_eq_nil_of_le (by omega), applyG_nil] at hg
          obtain ⟨c0, c1, c2, c3, c4⟩ := c
          subst hg
          have HA2 : Hid (∀ W, Keeps nobody w W → Calls Try.prog 24 #[.agg #[.int .i64 128, .int .i64 6, .int .i64 100, .int .i64 64, .int .i64 600], .slice a l.length cap] W fun e w' => e = .returned (.tuple #[.agg #[.int .i64 c0, .int .i64 c1, .int .i64 c2, .int .i64 c3, .int .i64 c4], .int .i64 0, .int .i64 0]) ∧ Keeps nobody W w') := HA.out
          have HI3 := hid hpp
          clear hpp HG HA H1 hj hk
          go_wp2_with fail
          refine Calls.mono (HF.out _) ?_
          rintro e w4 ⟨rfl, k4⟩
          go_wp2_with fail
          refine Calls.mono (HA2.out _ (HI3.out.keeps.then k4)) ?_
          rintro e w5 ⟨rfl, k5⟩
          have i5 := HI3.out.quiet (k4.then k5)
          obtain ⟨q0, q1, q2, q3, q4, _⟩ := (i5.now.quiet (keeps_alloc w5 (.cells #[.int .i64 c0, .int .i64 c1, .int .i64 c2, .int .i64 c3, .int .i64 c4] 44))).cells
          obtain ⟨s0, s1, s2, s3, s4⟩ := alloc_ps w5 ⟨c0, c1, c2, c3, c4⟩ _ (Keeps.refl _ _)
          have hlt := (i5.now.quiet (keeps_alloc w5 (.cells #[.int .i64 c0, .int .i64 c1, .int .i64 c2, .int .i64 c3, .int .i64 c4] 44))).lt
          have HK5 := hid (i5.keeps.alloc (.cells #[.int .i64 c0, .int .i64 c1, .int .i64 c2, .int .i64 c3, .int .i64 c4] 44))
          simp only at q0 q1 q2 q3 q4 s0 s1 s2 s3 s4
          clear i5 k4 k5 HI3 HA2
          go_wp2
          go_ret
          exact ⟨rfl, below_of_keeps HK5.out⟩
end Go.Proofs.Ytkjdklcmaomjnaa
