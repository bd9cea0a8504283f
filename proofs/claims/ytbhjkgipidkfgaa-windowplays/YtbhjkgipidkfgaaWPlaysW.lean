/-
  The law WindowPlays, walked.
-/
import Derived.Test.YtbhjkgipidkfgaaWPlayS
namespace Go.Proofs.Ytbhjkgipidkfgaa
open Go.RowKit
attribute [local irreducible] newW takeW growW shiftW creditW

set_option maxRecDepth 100000 in
set_option maxHeartbeats 4000000 in
theorem plays_walk (size : Int) (a : Option Addr) (cap : Nat) (l : List (Int × Int)) (w : World) (hO : Ops w a cap l) : Calls Try.prog 3 #[.int .i64 size, .slice a l.length cap] w (Fine w) := by
  have HL := hid alive_ok
  obtain ⟨hp, hc1, hc2⟩ := hO
  unfold maxLen at hc2
  by_cases hl : l.length > 100
  · clear hp
    go_enter Try.func3, Try.ntmps3
    go_wp2_with fail
    refine Calls.mono (HL.out _) ?_
    rintro e w1 ⟨rfl, k1⟩
    go_wp2
    go_ret
    exact ⟨rfl, below_of_keeps k1⟩
  by_cases h : 0 ≤ size ∧ size ≤ 2147483647
  · have HN : Hid (∀ w, Calls Try.prog 10 #[.int .i64 size] w fun e w' => e = .returned (.tuple #[.agg #[.int .i64 size, .int .i64 size, .int .i64 0], .bool true]) ∧ Keeps nobody w w') := new_as size (newW_yes h)
    have HR : Hid (∀ x c d w, Calls Try.prog 11 #[.agg #[.int .i64 x, .int .i64 c, .int .i64 d]] w fun e w' => e = .returned (.agg #[.int .i64 x, .int .i64 c, .int .i64 d]) ∧ Keeps nobody w w') := fun x c d w => ref_ok ⟨x, c, d⟩ w
    have HQ := hid hp
    clear hp
    obtain ⟨h0, h1⟩ := h
    go_enter Try.func3, Try.ntmps3
    go_wp2_with fail
    refine Calls.mono (HL.out _) ?_
    rintro e w1 ⟨rfl, k1⟩
    have K1 := hid k1
    clear k1
    go_wp2_with fail
    refine Calls.mono (HN.out _) ?_
    rintro e w2 ⟨rfl, k2⟩
    have HZ := hid (wb_new 25 w w2 (K1.out.then k2) ⟨size, size, 0⟩)
    clear k2 K1
    have hz7 := wb_new 28 w (w2.alloc (.cells #[.int .i64 size, .int .i64 size, .int .i64 0] 25)) HZ.out.keeps ⟨size, size, 0⟩
    have hz5 := HZ.out.quiet (keeps_alloc (w2.alloc (.cells #[.int .i64 size, .int .i64 size, .int .i64 0] 25)) (.cells #[.int .i64 size, .int .i64 size, .int .i64 0] 28))
    simp only [show (w2.alloc (.cells #[.int .i64 size, .int .i64 size, .int .i64 0] 25)).heap.size = w2.heap.size + 1 by simp] at hz7
    have HZ2 := hid (And.intro hz5 hz7)
    clear hz5 hz7 HZ
    have HD : Hid (∀ W, Keeps nobody ((w2.alloc (.cells #[.int .i64 size, .int .i64 size, .int .i64 0] 25)).alloc (.cells #[.int .i64 size, .int .i64 size, .int .i64 0] 28)) W → (W.cell? ⟨w2.heap.size, 0, none⟩ = some (.int .i64 size) ∧ W.cell? ⟨w2.heap.size, 1, none⟩ = some (.int .i64 size) ∧ W.cell? ⟨w2.heap.size, 2, none⟩ = some (.int .i64 0)) ∧ (W.cell? ⟨w2.heap.size + 1, 0, none⟩ = some (.int .i64 size) ∧ W.cell? ⟨w2.heap.size + 1, 1, none⟩ = some (.int .i64 size) ∧ W.cell? ⟨w2.heap.size + 1, 2, none⟩ = some (.int .i64 0))) := fun W hW => by
      have a5 := (HZ2.out.1.quiet hW).cells
      have a7 := (HZ2.out.2.quiet hW).cells
      exact ⟨⟨a5.1, a5.2.1, a5.2.2.1⟩, ⟨a7.1, a7.2.1, a7.2.2.1⟩⟩
    have HR1 : Hid (∀ W, Keeps nobody ((w2.alloc (.cells #[.int .i64 size, .int .i64 size, .int .i64 0] 25)).alloc (.cells #[.int .i64 size, .int .i64 size, .int .i64 0] 28)) W → Calls Try.prog 11 #[.agg #[.int .i64 size, .int .i64 size, .int .i64 0]] W fun e w' => e = .returned (.agg #[.int .i64 size, .int .i64 size, .int .i64 0]) ∧ Keeps nobody ((w2.alloc (.cells #[.int .i64 size, .int .i64 size, .int .i64 0] 25)).alloc (.cells #[.int .i64 size, .int .i64 size, .int .i64 0] 28)) w') := fun W hW => (HR.out _ _ _ W).mono fun e w' hh => ⟨hh.1, hW.then hh.2⟩
    go_wp2_with fail
    obtain ⟨⟨p0, p1, p2⟩, ⟨q0, q1, q2⟩⟩ := HD.out _ (Keeps.refl _ _)
    go_region_held3 (fun w' => (w'.cell? ⟨w2.heap.size, 0, none⟩ = some (.int .i64 size) ∧ w'.cell? ⟨w2.heap.size, 1, none⟩ = some (.int .i64 size) ∧ w'.cell? ⟨w2.heap.size, 2, none⟩ = some (.int .i64 0)) ∧ (w'.cell? ⟨w2.heap.size + 1, 0, none⟩ = some (.int .i64 size) ∧ w'.cell? ⟨w2.heap.size + 1, 1, none⟩ = some (.int .i64 size) ∧ w'.cell? ⟨w2.heap.size + 1, 2, none⟩ = some (.int .i64 0))) (first | go_keep | exact HD.out _ (by assumption) | exact HD.out _ (Keeps.refl _ _).drew) ((go_at_call 11; refine Calls.mono (HR1.out _ (by first | assumption | exact (Keeps.refl _ _).drew)) ?_; rintro e wq ⟨rfl, kq⟩))
    have HZ3 := hid (And.intro (HZ2.out.1.quiet kq) (HZ2.out.2.quiet kq))
    clear p0 p1 p2 q0 q1 q2 kq HD HR1 HZ2
    obtain ⟨g5, hg5⟩ : ∃ g5, g5 = w2.heap.size := ⟨_, rfl⟩
    rw [← hg5] at HZ3
    rw [← hg5]
    clear hg5
    go_wp2
    go_loopg [51] l.length (fun k i wr => ∃ (j : Nat) (s : Wd), i = .int .i64 (j : Int) ∧ k + j = l.length ∧ Hid (FitsW j s) ∧ Hid (Wb 25 w wr g5 s ∧ Wb 28 w wr (g5 + 1) s))
    case atStart => exact ⟨0, ⟨size, size, 0⟩, rfl, rfl, hid ⟨by simp only; omega, by simp only; omega, h0, h1, by simp, by simp⟩, HZ3⟩
    case round =>
      clear HZ3
      obtain ⟨j, s, rfl, hk, HF, HB⟩ := hrel
      by_cases hj : j < l.length
      · obtain ⟨r1, f1, rfl, hr1, _, d0, d1⟩ := (HQ.out.quiet HB.out.1.keeps).at j hj
        generalize l[j]'hj = y at *
        obtain ⟨kd, n⟩ := y
        simp only at d0 d1
        have HK : Hid (gk + j = l.length) := hk
        have hj101 : j ≤ 100 := by omega
        have hj100 := hid hj101
        clear hj101
        clear hk
        by_cases hn1 : n ≤ 1099511627776
        · by_cases hn0 : -1099511627776 ≤ n
          · have HS := hid (HF.out.small hj100.out)
            obtain ⟨s0, s1, s2⟩ := s
            have HN : Hid (-(1099511627776 : Int) ≤ n ∧ n ≤ 1099511627776) := ⟨hn0, hn1⟩
            obtain ⟨b0, b1, b2, bf, hlt⟩ := HB.out.1.cells
            obtain ⟨c0, c1, c2, cf, hlc⟩ := HB.out.2.cells
            simp only at b0 b1 b2 c0 c1 c2
            by_cases k1 : kd = 1
            · subst k1
              have HA : Hid (∀ w, Calls Try.prog 12 #[.agg #[.int .i64 s0, .int .i64 s1, .int .i64 s2], .int .i64 n] w fun e w' => e = .returned (pairW (takeW ⟨s0, s1, s2⟩ n)) ∧ Keeps nobody w w') := fun w => wtake_ok ⟨s0, s1, s2⟩ n w (by have := HS.out.l1; omega)
              have HC : Hid (∀ w, Calls Try.prog 13 #[.agg #[.int .i64 s0, .int .i64 s1, .int .i64 s2], .int .i64 n] w fun e w' => e = .returned (pairW (takeW ⟨s0, s1, s2⟩ n)) ∧ Keeps nobody w w') := fun w => rtake_ok ⟨s0, s1, s2⟩ n w (by have := HS.out.l1; omega)
              have HX := hid (take_fits HF.out HN.out)
              generalize takeW ⟨s0, s1, s2⟩ n = x at *
              obtain ⟨⟨x0, x1, x2⟩, xb⟩ := x
              have HRD := hid (rd_new HB.out.1 HB.out.2 (by omega) 1 n)
              clear HB HF HN HS b0 b1 b2 bf hlt c0 c1 c2 cf hlc
              obtain ⟨⟨b0, b1, b2⟩, ⟨c0, c1, c2⟩, ⟨e0, e1⟩, ⟨m0, m1, m2⟩, ⟨q0, q1, q2⟩⟩ := HRD.out.cells
              have n5 := HRD.out.n5
              have n7 := HRD.out.n7
              simp only at b0 b1 b2 c0 c1 c2 m0 m1 m2 q0 q1 q2
              go_wp2_with fail
              refine Calls.mono (HA.out _) ?_
              rintro e w4 ⟨rfl, k4⟩
              clear b0 b1 b2 c0 c1 c2 d0 d1 e0 e1 m0 m1 m2 q0 q1 q2
              have h4 := HRD.out.quiet k4
              obtain ⟨⟨b0, b1, b2⟩, ⟨c0, c1, c2⟩, ⟨d0, d1⟩, ⟨m0, m1, m2⟩, ⟨q0, q1, q2⟩⟩ := h4.cells
              obtain ⟨f5, f7, fx, fy, l5, l7, lx, ly⟩ := h4.frozen
              simp only at b0 b1 b2 c0 c1 c2 m0 m1 m2 q0 q1 q2
              have H4 := hid h4
              clear h4 k4 HRD
              go_wp2_with fail
              refine Calls.mono (HC.out _) ?_
              rintro e w5 ⟨rfl, k5⟩
              clear b0 b1 b2 c0 c1 c2 d0 d1 m0 m1 m2 q0 q1 q2 f5 f7 fx fy l5 l7 lx ly
              have h5 := (H4.out.putx ⟨x0, x1, x2⟩).quiet k5
              obtain ⟨⟨b0, b1, b2⟩, ⟨c0, c1, c2⟩, ⟨d0, d1⟩, ⟨m0, m1, m2⟩, ⟨q0, q1, q2⟩⟩ := h5.cells
              obtain ⟨f5, f7, fx, fy, l5, l7, lx, ly⟩ := h5.frozen
              simp only at b0 b1 b2 c0 c1 c2 m0 m1 m2 q0 q1 q2
              have H5 := hid h5
              clear h5 k5 H4
              go_wp2_with fail
              have h6 := H5.out.puty ⟨x0, x1, x2⟩
              simp only [bput] at h6
              clear b0 b1 b2 c0 c1 c2 d0 d1 m0 m1 m2 q0 q1 q2 f5 f7 fx fy l5 l7 lx ly H5
              generalize ((w5.setCell ⟨wr.heap.size + 1 + 1, 0, none⟩ (.int .i64 x0)).setCell ⟨wr.heap.size + 1 + 1, 1, none⟩ (.int .i64 x1)).setCell ⟨wr.heap.size + 1 + 1, 2, none⟩ (.int .i64 x2) = W6 at *
              have H6 := hid h6
              clear h6
              have HD : Hid (∀ W, Keeps nobody W6 W → (W.cell? ⟨wr.heap.size + 1, 0, none⟩ = some (.int .i64 x0) ∧ W.cell? ⟨wr.heap.size + 1, 1, none⟩ = some (.int .i64 x1) ∧ W.cell? ⟨wr.heap.size + 1, 2, none⟩ = some (.int .i64 x2)) ∧ (W.cell? ⟨wr.heap.size + 1 + 1, 0, none⟩ = some (.int .i64 x0) ∧ W.cell? ⟨wr.heap.size + 1 + 1, 1, none⟩ = some (.int .i64 x1) ∧ W.cell? ⟨wr.heap.size + 1 + 1, 2, none⟩ = some (.int .i64 x2))) := fun W hW => (H6.out.quiet hW).cells.2.2.2
              have HR1 : Hid (∀ W, Keeps nobody W6 W → Calls Try.prog 11 #[.agg #[.int .i64 x0, .int .i64 x1, .int .i64 x2]] W fun e w' => e = .returned (.agg #[.int .i64 x0, .int .i64 x1, .int .i64 x2]) ∧ Keeps nobody W6 w') := fun W hW => (HR.out _ _ _ W).mono fun e w' hh => ⟨hh.1, hW.then hh.2⟩
              obtain ⟨⟨p0, p1, p2⟩, ⟨q0, q1, q2⟩⟩ := HD.out _ (Keeps.refl _ _)
              go_region_held3 (fun w' => (w'.cell? ⟨wr.heap.size + 1, 0, none⟩ = some (.int .i64 x0) ∧ w'.cell? ⟨wr.heap.size + 1, 1, none⟩ = some (.int .i64 x1) ∧ w'.cell? ⟨wr.heap.size + 1, 2, none⟩ = some (.int .i64 x2)) ∧ (w'.cell? ⟨wr.heap.size + 1 + 1, 0, none⟩ = some (.int .i64 x0) ∧ w'.cell? ⟨wr.heap.size + 1 + 1, 1, none⟩ = some (.int .i64 x1) ∧ w'.cell? ⟨wr.heap.size + 1 + 1, 2, none⟩ = some (.int .i64 x2))) (first | go_keep | exact HD.out _ (by assumption) | exact HD.out _ (Keeps.refl _ _).drew) ((go_at_call 11; refine Calls.mono (HR1.out _ (by first | assumption | exact (Keeps.refl _ _).drew)) ?_; rintro e wq ⟨rfl, kq⟩))
              have h7 := H6.out.quiet kq
              clear p0 p1 p2 q0 q1 q2 kq HD HR1
              obtain ⟨⟨b0, b1, b2⟩, ⟨c0, c1, c2⟩, ⟨d0, d1⟩, ⟨m0, m1, m2⟩, ⟨q0, q1, q2⟩⟩ := h7.cells
              obtain ⟨f5, f7, fx, fy, l5, l7, lx, ly⟩ := h7.frozen
              simp only at b0 b1 b2 c0 c1 c2 m0 m1 m2 q0 q1 q2
              have H7 := hid h7
              clear h7 H6
              go_wp2_with fail
              go_region
              go_wp2
              have hk := HK.out
              go_roundg (gk - 1)
              case measure => omega
              case rel => exact ⟨j + 1, ⟨x0, x1, x2⟩, by simp, by omega, HX, hid ⟨(H7.out.both ⟨x0, x1, x2⟩ ⟨x0, x1, x2⟩).1.1.quiet (Keeps.refl _ _).drew, (H7.out.both ⟨x0, x1, x2⟩ ⟨x0, x1, x2⟩).1.2.quiet (Keeps.refl _ _).drew⟩⟩
            by_cases k2 : kd = 2
            · subst k2
              have HA : Hid (∀ w, Calls Try.prog 14 #[.agg #[.int .i64 s0, .int .i64 s1, .int .i64 s2], .int .i64 n] w fun e w' => e = .returned (pairW (growW ⟨s0, s1, s2⟩ n)) ∧ Keeps nobody w w') := fun w => wgrow_ok ⟨s0, s1, s2⟩ n w (by have := HS.out.l0; omega)
              have HC : Hid (∀ w, Calls Try.prog 15 #[.agg #[.int .i64 s0, .int .i64 s1, .int .i64 s2], .int .i64 n] w fun e w' => e = .returned (pairW (growW ⟨s0, s1, s2⟩ n)) ∧ Keeps nobody w w') := fun w => rgrow_ok ⟨s0, s1, s2⟩ n w (by have := HS.out.l0; omega)
              have HX := hid (grow_fits HF.out HN.out)
              generalize growW ⟨s0, s1, s2⟩ n = x at *
              obtain ⟨⟨x0, x1, x2⟩, xb⟩ := x
              have HRD := hid (rd_new HB.out.1 HB.out.2 (by omega) 2 n)
              clear HB HF HN HS b0 b1 b2 bf hlt c0 c1 c2 cf hlc
              obtain ⟨⟨b0, b1, b2⟩, ⟨c0, c1, c2⟩, ⟨e0, e1⟩, ⟨m0, m1, m2⟩, ⟨q0, q1, q2⟩⟩ := HRD.out.cells
              have n5 := HRD.out.n5
              have n7 := HRD.out.n7
              simp only at b0 b1 b2 c0 c1 c2 m0 m1 m2 q0 q1 q2
              go_wp2_with fail
              refine Calls.mono (HA.out _) ?_
              rintro e w4 ⟨rfl, k4⟩
              clear b0 b1 b2 c0 c1 c2 d0 d1 e0 e1 m0 m1 m2 q0 q1 q2
              have h4 := HRD.out.quiet k4
              obtain ⟨⟨b0, b1, b2⟩, ⟨c0, c1, c2⟩, ⟨d0, d1⟩, ⟨m0, m1, m2⟩, ⟨q0, q1, q2⟩⟩ := h4.cells
              obtain ⟨f5, f7, fx, fy, l5, l7, lx, ly⟩ := h4.frozen
              simp only at b0 b1 b2 c0 c1 c2 m0 m1 m2 q0 q1 q2
              have H4 := hid h4
              clear h4 k4 HRD
              go_wp2_with fail
              refine Calls.mono (HC.out _) ?_
              rintro e w5 ⟨rfl, k5⟩
              clear b0 b1 b2 c0 c1 c2 d0 d1 m0 m1 m2 q0 q1 q2 f5 f7 fx fy l5 l7 lx ly
              have h5 := (H4.out.putx ⟨x0, x1, x2⟩).quiet k5
              obtain ⟨⟨b0, b1, b2⟩, ⟨c0, c1, c2⟩, ⟨d0, d1⟩, ⟨m0, m1, m2⟩, ⟨q0, q1, q2⟩⟩ := h5.cells
              obtain ⟨f5, f7, fx, fy, l5, l7, lx, ly⟩ := h5.frozen
              simp only at b0 b1 b2 c0 c1 c2 m0 m1 m2 q0 q1 q2
              have H5 := hid h5
              clear h5 k5 H4
              go_wp2_with fail
              have h6 := H5.out.puty ⟨x0, x1, x2⟩
              simp only [bput] at h6
              clear b0 b1 b2 c0 c1 c2 d0 d1 m0 m1 m2 q0 q1 q2 f5 f7 fx fy l5 l7 lx ly H5
              generalize ((w5.setCell ⟨wr.heap.size + 1 + 1, 0, none⟩ (.int .i64 x0)).setCell ⟨wr.heap.size + 1 + 1, 1, none⟩ (.int .i64 x1)).setCell ⟨wr.heap.size + 1 + 1, 2, none⟩ (.int .i64 x2) = W6 at *
              have H6 := hid h6
              clear h6
              have HD : Hid (∀ W, Keeps nobody W6 W → (W.cell? ⟨wr.heap.size + 1, 0, none⟩ = some (.int .i64 x0) ∧ W.cell? ⟨wr.heap.size + 1, 1, none⟩ = some (.int .i64 x1) ∧ W.cell? ⟨wr.heap.size + 1, 2, none⟩ = some (.int .i64 x2)) ∧ (W.cell? ⟨wr.heap.size + 1 + 1, 0, none⟩ = some (.int .i64 x0) ∧ W.cell? ⟨wr.heap.size + 1 + 1, 1, none⟩ = some (.int .i64 x1) ∧ W.cell? ⟨wr.heap.size + 1 + 1, 2, none⟩ = some (.int .i64 x2))) := fun W hW => (H6.out.quiet hW).cells.2.2.2
              have HR1 : Hid (∀ W, Keeps nobody W6 W → Calls Try.prog 11 #[.agg #[.int .i64 x0, .int .i64 x1, .int .i64 x2]] W fun e w' => e = .returned (.agg #[.int .i64 x0, .int .i64 x1, .int .i64 x2]) ∧ Keeps nobody W6 w') := fun W hW => (HR.out _ _ _ W).mono fun e w' hh => ⟨hh.1, hW.then hh.2⟩
              obtain ⟨⟨p0, p1, p2⟩, ⟨q0, q1, q2⟩⟩ := HD.out _ (Keeps.refl _ _)
              go_region_held3 (fun w' => (w'.cell? ⟨wr.heap.size + 1, 0, none⟩ = some (.int .i64 x0) ∧ w'.cell? ⟨wr.heap.size + 1, 1, none⟩ = some (.int .i64 x1) ∧ w'.cell? ⟨wr.heap.size + 1, 2, none⟩ = some (.int .i64 x2)) ∧ (w'.cell? ⟨wr.heap.size + 1 + 1, 0, none⟩ = some (.int .i64 x0) ∧ w'.cell? ⟨wr.heap.size + 1 + 1, 1, none⟩ = some (.int .i64 x1) ∧ w'.cell? ⟨wr.heap.size + 1 + 1, 2, none⟩ = some (.int .i64 x2))) (first | go_keep | exact HD.out _ (by assumption) | exact HD.out _ (Keeps.refl _ _).drew) ((go_at_call 11; refine Calls.mono (HR1.out _ (by first | assumption | exact (Keeps.refl _ _).drew)) ?_; rintro e wq ⟨rfl, kq⟩))
              have h7 := H6.out.quiet kq
              clear p0 p1 p2 q0 q1 q2 kq HD HR1
              obtain ⟨⟨b0, b1, b2⟩, ⟨c0, c1, c2⟩, ⟨d0, d1⟩, ⟨m0, m1, m2⟩, ⟨q0, q1, q2⟩⟩ := h7.cells
              obtain ⟨f5, f7, fx, fy, l5, l7, lx, ly⟩ := h7.frozen
              simp only at b0 b1 b2 c0 c1 c2 m0 m1 m2 q0 q1 q2
              have H7 := hid h7
              clear h7 H6
              go_wp2_with fail
              go_region
              go_wp2
              have hk := HK.out
              go_roundg (gk - 1)
              case measure => omega
              case rel => exact ⟨j + 1, ⟨x0, x1, x2⟩, by simp, by omega, HX, hid ⟨(H7.out.both ⟨x0, x1, x2⟩ ⟨x0, x1, x2⟩).1.1.quiet (Keeps.refl _ _).drew, (H7.out.both ⟨x0, x1, x2⟩ ⟨x0, x1, x2⟩).1.2.quiet (Keeps.refl _ _).drew⟩⟩
            by_cases k3 : kd = 3
            · subst k3
              have HA : Hid (∀ w, Calls Try.prog 16 #[.agg #[.int .i64 s0, .int .i64 s1, .int .i64 s2], .int .i64 n] w fun e w' => e = .returned (pairW (shiftW ⟨s0, s1, s2⟩ n)) ∧ Keeps nobody w w') := fun w => wshift_ok ⟨s0, s1, s2⟩ n w HS.out ⟨by have := HN.out.1; omega, by have := HN.out.2; omega⟩
              have HC : Hid (∀ w, Calls Try.prog 17 #[.agg #[.int .i64 s0, .int .i64 s1, .int .i64 s2], .int .i64 n] w fun e w' => e = .returned (pairW (shiftW ⟨s0, s1, s2⟩ n)) ∧ Keeps nobody w w') := fun w => rshift_ok ⟨s0, s1, s2⟩ n w HS.out ⟨by have := HN.out.1; omega, by have := HN.out.2; omega⟩
              have HX := hid (shift_fits HF.out HN.out)
              generalize shiftW ⟨s0, s1, s2⟩ n = x at *
              obtain ⟨⟨x0, x1, x2⟩, xb⟩ := x
              have HRD := hid (rd_new HB.out.1 HB.out.2 (by omega) 3 n)
              clear HB HF HN HS b0 b1 b2 bf hlt c0 c1 c2 cf hlc
              obtain ⟨⟨b0, b1, b2⟩, ⟨c0, c1, c2⟩, ⟨e0, e1⟩, ⟨m0, m1, m2⟩, ⟨q0, q1, q2⟩⟩ := HRD.out.cells
              have n5 := HRD.out.n5
              have n7 := HRD.out.n7
              simp only at b0 b1 b2 c0 c1 c2 m0 m1 m2 q0 q1 q2
              go_wp2_with fail
              refine Calls.mono (HA.out _) ?_
              rintro e w4 ⟨rfl, k4⟩
              clear b0 b1 b2 c0 c1 c2 d0 d1 e0 e1 m0 m1 m2 q0 q1 q2
              have h4 := HRD.out.quiet k4
              obtain ⟨⟨b0, b1, b2⟩, ⟨c0, c1, c2⟩, ⟨d0, d1⟩, ⟨m0, m1, m2⟩, ⟨q0, q1, q2⟩⟩ := h4.cells
              obtain ⟨f5, f7, fx, fy, l5, l7, lx, ly⟩ := h4.frozen
              simp only at b0 b1 b2 c0 c1 c2 m0 m1 m2 q0 q1 q2
              have H4 := hid h4
              clear h4 k4 HRD
              go_wp2_with fail
              refine Calls.mono (HC.out _) ?_
              rintro e w5 ⟨rfl, k5⟩
              clear b0 b1 b2 c0 c1 c2 d0 d1 m0 m1 m2 q0 q1 q2 f5 f7 fx fy l5 l7 lx ly
              have h5 := (H4.out.putx ⟨x0, x1, x2⟩).quiet k5
              obtain ⟨⟨b0, b1, b2⟩, ⟨c0, c1, c2⟩, ⟨d0, d1⟩, ⟨m0, m1, m2⟩, ⟨q0, q1, q2⟩⟩ := h5.cells
              obtain ⟨f5, f7, fx, fy, l5, l7, lx, ly⟩ := h5.frozen
              simp only at b0 b1 b2 c0 c1 c2 m0 m1 m2 q0 q1 q2
              have H5 := hid h5
              clear h5 k5 H4
              go_wp2_with fail
              have h6 := H5.out.puty ⟨x0, x1, x2⟩
              simp only [bput] at h6
              clear b0 b1 b2 c0 c1 c2 d0 d1 m0 m1 m2 q0 q1 q2 f5 f7 fx fy l5 l7 lx ly H5
              generalize ((w5.setCell ⟨wr.heap.size + 1 + 1, 0, none⟩ (.int .i64 x0)).setCell ⟨wr.heap.size + 1 + 1, 1, none⟩ (.int .i64 x1)).setCell ⟨wr.heap.size + 1 + 1, 2, none⟩ (.int .i64 x2) = W6 at *
              have H6 := hid h6
              clear h6
              have HD : Hid (∀ W, Keeps nobody W6 W → (W.cell? ⟨wr.heap.size + 1, 0, none⟩ = some (.int .i64 x0) ∧ W.cell? ⟨wr.heap.size + 1, 1, none⟩ = some (.int .i64 x1) ∧ W.cell? ⟨wr.heap.size + 1, 2, none⟩ = some (.int .i64 x2)) ∧ (W.cell? ⟨wr.heap.size + 1 + 1, 0, none⟩ = some (.int .i64 x0) ∧ W.cell? ⟨wr.heap.size + 1 + 1, 1, none⟩ = some (.int .i64 x1) ∧ W.cell? ⟨wr.heap.size + 1 + 1, 2, none⟩ = some (.int .i64 x2))) := fun W hW => (H6.out.quiet hW).cells.2.2.2
              have HR1 : Hid (∀ W, Keeps nobody W6 W → Calls Try.prog 11 #[.agg #[.int .i64 x0, .int .i64 x1, .int .i64 x2]] W fun e w' => e = .returned (.agg #[.int .i64 x0, .int .i64 x1, .int .i64 x2]) ∧ Keeps nobody W6 w') := fun W hW => (HR.out _ _ _ W).mono fun e w' hh => ⟨hh.1, hW.then hh.2⟩
              obtain ⟨⟨p0, p1, p2⟩, ⟨q0, q1, q2⟩⟩ := HD.out _ (Keeps.refl _ _)
              go_region_held3 (fun w' => (w'.cell? ⟨wr.heap.size + 1, 0, none⟩ = some (.int .i64 x0) ∧ w'.cell? ⟨wr.heap.size + 1, 1, none⟩ = some (.int .i64 x1) ∧ w'.cell? ⟨wr.heap.size + 1, 2, none⟩ = some (.int .i64 x2)) ∧ (w'.cell? ⟨wr.heap.size + 1 + 1, 0, none⟩ = some (.int .i64 x0) ∧ w'.cell? ⟨wr.heap.size + 1 + 1, 1, none⟩ = some (.int .i64 x1) ∧ w'.cell? ⟨wr.heap.size + 1 + 1, 2, none⟩ = some (.int .i64 x2))) (first | go_keep | exact HD.out _ (by assumption) | exact HD.out _ (Keeps.refl _ _).drew) ((go_at_call 11; refine Calls.mono (HR1.out _ (by first | assumption | exact (Keeps.refl _ _).drew)) ?_; rintro e wq ⟨rfl, kq⟩))
              have h7 := H6.out.quiet kq
              clear p0 p1 p2 q0 q1 q2 kq HD HR1
              obtain ⟨⟨b0, b1, b2⟩, ⟨c0, c1, c2⟩, ⟨d0, d1⟩, ⟨m0, m1, m2⟩, ⟨q0, q1, q2⟩⟩ := h7.cells
              obtain ⟨f5, f7, fx, fy, l5, l7, lx, ly⟩ := h7.frozen
              simp only at b0 b1 b2 c0 c1 c2 m0 m1 m2 q0 q1 q2
              have H7 := hid h7
              clear h7 H6
              go_wp2_with fail
              go_region
              go_wp2
              have hk := HK.out
              go_roundg (gk - 1)
              case measure => omega
              case rel => exact ⟨j + 1, ⟨x0, x1, x2⟩, by simp, by omega, HX, hid ⟨(H7.out.both ⟨x0, x1, x2⟩ ⟨x0, x1, x2⟩).1.1.quiet (Keeps.refl _ _).drew, (H7.out.both ⟨x0, x1, x2⟩ ⟨x0, x1, x2⟩).1.2.quiet (Keeps.refl _ _).drew⟩⟩
            by_cases k4 : kd = 4
            · subst k4
              have HA : Hid (∀ w, Calls Try.prog 18 #[.agg #[.int .i64 s0, .int .i64 s1, .int .i64 s2], .int .i64 n] w fun e w' => e = .returned (pairW (takeW ⟨s0, s1, s2⟩ n)) ∧ Keeps nobody w w') := fun w => wspend_ok ⟨s0, s1, s2⟩ n w (by have := HS.out.l1; omega)
              have HC : Hid (∀ w, Calls Try.prog 13 #[.agg #[.int .i64 s0, .int .i64 s1, .int .i64 s2], .int .i64 n] w fun e w' => e = .returned (pairW (takeW ⟨s0, s1, s2⟩ n)) ∧ Keeps nobody w w') := fun w => rtake_ok ⟨s0, s1, s2⟩ n w (by have := HS.out.l1; omega)
              have HX := hid (take_fits HF.out HN.out)
              generalize takeW ⟨s0, s1, s2⟩ n = x at *
              obtain ⟨⟨x0, x1, x2⟩, xb⟩ := x
              have HRD := hid (rd_new HB.out.1 HB.out.2 (by omega) 4 n)
              clear HB HF HN HS b0 b1 b2 bf hlt c0 c1 c2 cf hlc
              obtain ⟨⟨b0, b1, b2⟩, ⟨c0, c1, c2⟩, ⟨e0, e1⟩, ⟨m0, m1, m2⟩, ⟨q0, q1, q2⟩⟩ := HRD.out.cells
              have n5 := HRD.out.n5
              have n7 := HRD.out.n7
              simp only at b0 b1 b2 c0 c1 c2 m0 m1 m2 q0 q1 q2
              go_wp2_with fail
              refine Calls.mono (HA.out _) ?_
              rintro e w4 ⟨rfl, k4⟩
              clear b0 b1 b2 c0 c1 c2 d0 d1 e0 e1 m0 m1 m2 q0 q1 q2
              have h4 := HRD.out.quiet k4
              obtain ⟨⟨b0, b1, b2⟩, ⟨c0, c1, c2⟩, ⟨d0, d1⟩, ⟨m0, m1, m2⟩, ⟨q0, q1, q2⟩⟩ := h4.cells
              obtain ⟨f5, f7, fx, fy, l5, l7, lx, ly⟩ := h4.frozen
              simp only at b0 b1 b2 c0 c1 c2 m0 m1 m2 q0 q1 q2
              have H4 := hid h4
              clear h4 k4 HRD
              go_wp2_with fail
              refine Calls.mono (HC.out _) ?_
              rintro e w5 ⟨rfl, k5⟩
              clear b0 b1 b2 c0 c1 c2 d0 d1 m0 m1 m2 q0 q1 q2 f5 f7 fx fy l5 l7 lx ly
              have h5 := (H4.out.putx ⟨x0, x1, x2⟩).quiet k5
              obtain ⟨⟨b0, b1, b2⟩, ⟨c0, c1, c2⟩, ⟨d0, d1⟩, ⟨m0, m1, m2⟩, ⟨q0, q1, q2⟩⟩ := h5.cells
              obtain ⟨f5, f7, fx, fy, l5, l7, lx, ly⟩ := h5.frozen
              simp only at b0 b1 b2 c0 c1 c2 m0 m1 m2 q0 q1 q2
              have H5 := hid h5
              clear h5 k5 H4
              go_wp2_with fail
              have h6 := H5.out.puty ⟨x0, x1, x2⟩
              simp only [bput] at h6
              clear b0 b1 b2 c0 c1 c2 d0 d1 m0 m1 m2 q0 q1 q2 f5 f7 fx fy l5 l7 lx ly H5
              generalize ((w5.setCell ⟨wr.heap.size + 1 + 1, 0, none⟩ (.int .i64 x0)).setCell ⟨wr.heap.size + 1 + 1, 1, none⟩ (.int .i64 x1)).setCell ⟨wr.heap.size + 1 + 1, 2, none⟩ (.int .i64 x2) = W6 at *
              have H6 := hid h6
              clear h6
              have HD : Hid (∀ W, Keeps nobody W6 W → (W.cell? ⟨wr.heap.size + 1, 0, none⟩ = some (.int .i64 x0) ∧ W.cell? ⟨wr.heap.size + 1, 1, none⟩ = some (.int .i64 x1) ∧ W.cell? ⟨wr.heap.size + 1, 2, none⟩ = some (.int .i64 x2)) ∧ (W.cell? ⟨wr.heap.size + 1 + 1, 0, none⟩ = some (.int .i64 x0) ∧ W.cell? ⟨wr.heap.size + 1 + 1, 1, none⟩ = some (.int .i64 x1) ∧ W.cell? ⟨wr.heap.size + 1 + 1, 2, none⟩ = some (.int .i64 x2))) := fun W hW => (H6.out.quiet hW).cells.2.2.2
              have HR1 : Hid (∀ W, Keeps nobody W6 W → Calls Try.prog 11 #[.agg #[.int .i64 x0, .int .i64 x1, .int .i64 x2]] W fun e w' => e = .returned (.agg #[.int .i64 x0, .int .i64 x1, .int .i64 x2]) ∧ Keeps nobody W6 w') := fun W hW => (HR.out _ _ _ W).mono fun e w' hh => ⟨hh.1, hW.then hh.2⟩
              obtain ⟨⟨p0, p1, p2⟩, ⟨q0, q1, q2⟩⟩ := HD.out _ (Keeps.refl _ _)
              go_region_held3 (fun w' => (w'.cell? ⟨wr.heap.size + 1, 0, none⟩ = some (.int .i64 x0) ∧ w'.cell? ⟨wr.heap.size + 1, 1, none⟩ = some (.int .i64 x1) ∧ w'.cell? ⟨wr.heap.size + 1, 2, none⟩ = some (.int .i64 x2)) ∧ (w'.cell? ⟨wr.heap.size + 1 + 1, 0, none⟩ = some (.int .i64 x0) ∧ w'.cell? ⟨wr.heap.size + 1 + 1, 1, none⟩ = some (.int .i64 x1) ∧ w'.cell? ⟨wr.heap.size + 1 + 1, 2, none⟩ = some (.int .i64 x2))) (first | go_keep | exact HD.out _ (by assumption) | exact HD.out _ (Keeps.refl _ _).drew) ((go_at_call 11; refine Calls.mono (HR1.out _ (by first | assumption | exact (Keeps.refl _ _).drew)) ?_; rintro e wq ⟨rfl, kq⟩))
              have h7 := H6.out.quiet kq
              clear p0 p1 p2 q0 q1 q2 kq HD HR1
              obtain ⟨⟨b0, b1, b2⟩, ⟨c0, c1, c2⟩, ⟨d0, d1⟩, ⟨m0, m1, m2⟩, ⟨q0, q1, q2⟩⟩ := h7.cells
              obtain ⟨f5, f7, fx, fy, l5, l7, lx, ly⟩ := h7.frozen
              simp only at b0 b1 b2 c0 c1 c2 m0 m1 m2 q0 q1 q2
              have H7 := hid h7
              clear h7 H6
              go_wp2_with fail
              go_region
              go_wp2
              have hk := HK.out
              go_roundg (gk - 1)
              case measure => omega
              case rel => exact ⟨j + 1, ⟨x0, x1, x2⟩, by simp, by omega, HX, hid ⟨(H7.out.both ⟨x0, x1, x2⟩ ⟨x0, x1, x2⟩).1.1.quiet (Keeps.refl _ _).drew, (H7.out.both ⟨x0, x1, x2⟩ ⟨x0, x1, x2⟩).1.2.quiet (Keeps.refl _ _).drew⟩⟩
            by_cases k5 : kd = 5
            · subst k5
              have HA : Hid (∀ w, Calls Try.prog 19 #[.agg #[.int .i64 s0, .int .i64 s1, .int .i64 s2], .int .i64 n] w fun e w' => e = .returned (toldW (creditW ⟨s0, s1, s2⟩ n)) ∧ Keeps nobody w w') := fun w => wcredit_ok ⟨s0, s1, s2⟩ n w HS.out (by have := HN.out.2; omega)
              have HC : Hid (∀ w, Calls Try.prog 20 #[.agg #[.int .i64 s0, .int .i64 s1, .int .i64 s2], .int .i64 n] w fun e w' => e = .returned (toldW (creditW ⟨s0, s1, s2⟩ n)) ∧ Keeps nobody w w') := fun w => rcredit_ok ⟨s0, s1, s2⟩ n w HS.out (by have := HN.out.2; omega)
              have HX := hid (credit_fits HF.out HN.out)
              generalize creditW ⟨s0, s1, s2⟩ n = x at *
              obtain ⟨⟨x0, x1, x2⟩, xb⟩ := x
              have HRD := hid (rd_new HB.out.1 HB.out.2 (by omega) 5 n)
              clear HB HF HN HS b0 b1 b2 bf hlt c0 c1 c2 cf hlc
              obtain ⟨⟨b0, b1, b2⟩, ⟨c0, c1, c2⟩, ⟨e0, e1⟩, ⟨m0, m1, m2⟩, ⟨q0, q1, q2⟩⟩ := HRD.out.cells
              have n5 := HRD.out.n5
              have n7 := HRD.out.n7
              simp only at b0 b1 b2 c0 c1 c2 m0 m1 m2 q0 q1 q2
              go_wp2_with fail
              refine Calls.mono (HA.out _) ?_
              rintro e w4 ⟨rfl, k4⟩
              clear b0 b1 b2 c0 c1 c2 d0 d1 e0 e1 m0 m1 m2 q0 q1 q2
              have h4 := HRD.out.quiet k4
              obtain ⟨⟨b0, b1, b2⟩, ⟨c0, c1, c2⟩, ⟨d0, d1⟩, ⟨m0, m1, m2⟩, ⟨q0, q1, q2⟩⟩ := h4.cells
              obtain ⟨f5, f7, fx, fy, l5, l7, lx, ly⟩ := h4.frozen
              simp only at b0 b1 b2 c0 c1 c2 m0 m1 m2 q0 q1 q2
              have H4 := hid h4
              clear h4 k4 HRD
              go_wp2_with fail
              refine Calls.mono (HC.out _) ?_
              rintro e w5 ⟨rfl, k5⟩
              clear b0 b1 b2 c0 c1 c2 d0 d1 m0 m1 m2 q0 q1 q2 f5 f7 fx fy l5 l7 lx ly
              have h5 := (H4.out.putx ⟨x0, x1, x2⟩).quiet k5
              obtain ⟨⟨b0, b1, b2⟩, ⟨c0, c1, c2⟩, ⟨d0, d1⟩, ⟨m0, m1, m2⟩, ⟨q0, q1, q2⟩⟩ := h5.cells
              obtain ⟨f5, f7, fx, fy, l5, l7, lx, ly⟩ := h5.frozen
              simp only at b0 b1 b2 c0 c1 c2 m0 m1 m2 q0 q1 q2
              have H5 := hid h5
              clear h5 k5 H4
              go_wp2_with fail
              have h6 := H5.out.puty ⟨x0, x1, x2⟩
              simp only [bput] at h6
              clear b0 b1 b2 c0 c1 c2 d0 d1 m0 m1 m2 q0 q1 q2 f5 f7 fx fy l5 l7 lx ly H5
              generalize ((w5.setCell ⟨wr.heap.size + 1 + 1, 0, none⟩ (.int .i64 x0)).setCell ⟨wr.heap.size + 1 + 1, 1, none⟩ (.int .i64 x1)).setCell ⟨wr.heap.size + 1 + 1, 2, none⟩ (.int .i64 x2) = W6 at *
              have H6 := hid h6
              clear h6
              have HD : Hid (∀ W, Keeps nobody W6 W → (W.cell? ⟨wr.heap.size + 1, 0, none⟩ = some (.int .i64 x0) ∧ W.cell? ⟨wr.heap.size + 1, 1, none⟩ = some (.int .i64 x1) ∧ W.cell? ⟨wr.heap.size + 1, 2, none⟩ = some (.int .i64 x2)) ∧ (W.cell? ⟨wr.heap.size + 1 + 1, 0, none⟩ = some (.int .i64 x0) ∧ W.cell? ⟨wr.heap.size + 1 + 1, 1, none⟩ = some (.int .i64 x1) ∧ W.cell? ⟨wr.heap.size + 1 + 1, 2, none⟩ = some (.int .i64 x2))) := fun W hW => (H6.out.quiet hW).cells.2.2.2
              have HR1 : Hid (∀ W, Keeps nobody W6 W → Calls Try.prog 11 #[.agg #[.int .i64 x0, .int .i64 x1, .int .i64 x2]] W fun e w' => e = .returned (.agg #[.int .i64 x0, .int .i64 x1, .int .i64 x2]) ∧ Keeps nobody W6 w') := fun W hW => (HR.out _ _ _ W).mono fun e w' hh => ⟨hh.1, hW.then hh.2⟩
              obtain ⟨⟨p0, p1, p2⟩, ⟨q0, q1, q2⟩⟩ := HD.out _ (Keeps.refl _ _)
              go_region_held3 (fun w' => (w'.cell? ⟨wr.heap.size + 1, 0, none⟩ = some (.int .i64 x0) ∧ w'.cell? ⟨wr.heap.size + 1, 1, none⟩ = some (.int .i64 x1) ∧ w'.cell? ⟨wr.heap.size + 1, 2, none⟩ = some (.int .i64 x2)) ∧ (w'.cell? ⟨wr.heap.size + 1 + 1, 0, none⟩ = some (.int .i64 x0) ∧ w'.cell? ⟨wr.heap.size + 1 + 1, 1, none⟩ = some (.int .i64 x1) ∧ w'.cell? ⟨wr.heap.size + 1 + 1, 2, none⟩ = some (.int .i64 x2))) (first | go_keep | exact HD.out _ (by assumption) | exact HD.out _ (Keeps.refl _ _).drew) ((go_at_call 11; refine Calls.mono (HR1.out _ (by first | assumption | exact (Keeps.refl _ _).drew)) ?_; rintro e wq ⟨rfl, kq⟩))
              have h7 := H6.out.quiet kq
              clear p0 p1 p2 q0 q1 q2 kq HD HR1
              obtain ⟨⟨b0, b1, b2⟩, ⟨c0, c1, c2⟩, ⟨d0, d1⟩, ⟨m0, m1, m2⟩, ⟨q0, q1, q2⟩⟩ := h7.cells
              obtain ⟨f5, f7, fx, fy, l5, l7, lx, ly⟩ := h7.frozen
              simp only at b0 b1 b2 c0 c1 c2 m0 m1 m2 q0 q1 q2
              have H7 := hid h7
              clear h7 H6
              go_wp2_with fail
              go_region
              go_wp2
              have hk := HK.out
              go_roundg (gk - 1)
              case measure => omega
              case rel => exact ⟨j + 1, ⟨x0, x1, x2⟩, by simp, by omega, HX, hid ⟨(H7.out.both ⟨x0, x1, x2⟩ ⟨x0, x1, x2⟩).1.1.quiet (Keeps.refl _ _).drew, (H7.out.both ⟨x0, x1, x2⟩ ⟨x0, x1, x2⟩).1.2.quiet (Keeps.refl _ _).drew⟩⟩
            have HX := hid HF.out.next
            clear HS HN HF
            go_wp2
            have hk := HK.out
            go_roundg (gk - 1)
            case measure => omega
            case rel => exact ⟨j + 1, ⟨s0, s1, s2⟩, by simp, by omega, HX, hid ⟨HB.out.1.quiet (((keeps_alloc wr _).alloc _).alloc _), HB.out.2.quiet (((keeps_alloc wr _).alloc _).alloc _)⟩⟩
          · obtain ⟨b0, b1, b2, bf, hlt⟩ := HB.out.1.cells
            go_wp2
            go_ret
            exact ⟨rfl, below_of_keeps (HB.out.1.keeps.alloc _)⟩
        · go_wp2
          go_ret
          exact ⟨rfl, below_of_keeps (HB.out.1.keeps.alloc _)⟩
      · clear hk
        go_wp2
        go_ret
        exact ⟨rfl, below_of_keeps HB.out.1.keeps⟩
  · by_cases h0 : 0 ≤ size
    · have HN : Hid (∀ w, Calls Try.prog 10 #[.int .i64 size] w fun e w' => e = .returned (.tuple #[.agg #[.int .i64 0, .int .i64 0, .int .i64 0], .bool false]) ∧ Keeps nobody w w') := new_as size (newW_no h)
      have h1 : ¬ size ≤ 2147483647 := fun e => h ⟨h0, e⟩
      clear h hp
      go_enter Try.func3, Try.ntmps3
      go_wp2_with fail
      refine Calls.mono (HL.out _) ?_
      rintro e w1 ⟨rfl, k1⟩
      go_wp2_with fail
      refine Calls.mono (HN.out _) ?_
      rintro e w2 ⟨rfl, k2⟩
      go_wp2
      go_ret
      exact ⟨rfl, below_of_keeps ((k1.then k2).alloc _)⟩
    · have HN : Hid (∀ w, Calls Try.prog 10 #[.int .i64 size] w fun e w' => e = .returned (.tuple #[.agg #[.int .i64 0, .int .i64 0, .int .i64 0], .bool false]) ∧ Keeps nobody w w') := new_as size (newW_no h)
      clear h hp
      go_enter Try.func3, Try.ntmps3
      go_wp2_with fail
      refine Calls.mono (HL.out _) ?_
      rintro e w1 ⟨rfl, k1⟩
      go_wp2_with fail
      refine Calls.mono (HN.out _) ?_
      rintro e w2 ⟨rfl, k2⟩
      go_wp2
      go_ret
      exact ⟨rfl, below_of_keeps ((k1.then k2).alloc _)⟩
end Go.Proofs.Ytbhjkgipidkfgaa
