/-
  The reference's Blocks: take, where a frame is taken.
-/
import Derived.Test.YtdpbnlamdgdljaaJRef
namespace Go.Proofs.Ytdpbnlamdgdljaa
open Go.RowKit
attribute [local irreducible] numL byteAt endOf idOf nums str unpadA behind stripA checkA

set_option maxRecDepth 100000 in
theorem rtake_other {w : World} {g most : Nat} {B : ByteArray} {fin : Bool} (h : Rw w g most 0 B fin) (f : Frm) (hs : f.body.size ≤ 140737488355328) (hc : (checkA f).2 = 0) (h1 : f.kind ≠ 1) (h9 : f.kind ≠ 9) : Calls Try.prog 45 #[.pointer (some ⟨g, 0, none⟩), frval f] w fun e w' => e = .returned (rtV false 0) ∧ Keeps nobody w w' := by
  have HC : Hid (∀ w, Calls Try.prog 19 #[frval f] (w.alloc (frobj f.kind f.flags f.id f.body)) fun e w' => e = .returned (checkV (checkA f)) ∧ Hid (Told w f w')) := rcheck_told f hs
  have HB := hid h
  clear h hs
  generalize checkA f = c at *
  obtain ⟨c1, c2⟩ := c
  obtain rfl : c2 = 0 := hc
  obtain ⟨k, fl, id, b⟩ := f
  have g1 : (k == 1) = false := by simpa using h1
  have g9 : (k == 9) = false := by simpa using h9
  clear h1 h9
  go_enter Try.func45, Try.ntmps45
  go_wp2_with fail
  refine Calls.mono (HC.out _) ?_
  rintro e w1 ⟨rfl, HK⟩
  obtain ⟨b0, b1, b2, b3, _⟩ := HK.out.2
  obtain ⟨d0, d1, d2, d3, df⟩ := (HB.out.quiet HK.out.1).cells
  simp only at b0 b1 b2 b3
  clear HC
  go_wp2_with fail
  go_quiet (fail)
  go_wp2
  go_ret2
  exact ⟨rfl, HK.out.1.drewN _⟩

set_option maxRecDepth 100000 in
set_option maxHeartbeats 1000000 in
theorem rtake_more {w : World} {g most : Nat} {i : Int} {B : ByteArray} {fin : Bool} (h : Rw w g most i B fin) (fl : Int) (b : ByteArray) (hz : B.size + b.size ≤ 140737488355328) (hc : (checkA ⟨9, fl, i, b⟩).2 = 0) (hi : i ≠ 0) : Calls Try.prog 45 #[.pointer (some ⟨g, 0, none⟩), frval ⟨9, fl, i, b⟩] w fun e w' => e = .returned (if most < B.size + b.size then rtV false 5 else rtV (wholeB fl) 0) ∧ Did (rwT g most i B fin) (rwT g most i (B ++ b) fin) w w' := by
  have HC : Hid (∀ w, Calls Try.prog 19 #[frval ⟨9, fl, i, b⟩] (w.alloc (frobj 9 fl i b)) fun e w' => e = .returned (checkV (checkA ⟨9, fl, i, b⟩)) ∧ Hid (Told w ⟨9, fl, i, b⟩ w')) := rcheck_told ⟨9, fl, i, b⟩ (by show b.size ≤ _; omega)
  have HB := hid h
  have hlt := h.lt
  clear h
  generalize checkA ⟨9, fl, i, b⟩ = c at *
  obtain ⟨c1, c2⟩ := c
  obtain rfl : c2 = 0 := hc
  have g0 : (i == 0) = false := by simpa using hi
  have g0' : (i != 0) = true := by simpa using hi
  clear hi
  have hcat : (B ++ b).size = B.size + b.size := ByteArray.size_append
  have HD : Hid (∀ W, Keeps nobody w W → Did (rwT g most i B fin) (rwT g most i (B ++ b) fin) w (W.setCell ⟨g, 2, none⟩ (.string (B ++ b))) ∧ Rw (W.setCell ⟨g, 2, none⟩ (.string (B ++ b))) g most i (B ++ b) fin) := fun W hk => by
    have hd := (HB.out.quiet hk).more (B ++ b)
    exact ⟨Did.before hk hd, hd.inv⟩
  generalize hP : (fun (W : World) => Did (rwT g most i B fin) (rwT g most i (B ++ b) fin) w W) = P
  have HP : Hid (∀ W, Did (rwT g most i B fin) (rwT g most i (B ++ b) fin) w W → P W) := fun W hd => by rw [← hP]; exact hd
  suffices H : Calls Try.prog 45 #[.pointer (some ⟨g, 0, none⟩), frval ⟨9, fl, i, b⟩] w fun e w' => e = .returned (if most < B.size + b.size then rtV false 5 else rtV (wholeB fl) 0) ∧ P w' by
    refine H.mono ?_
    rintro r w' ⟨hv, hq⟩
    exact ⟨hv, by rw [← hP] at hq; exact hq⟩
  clear hP
  rw [← hcat]
  by_cases hb : most < (B ++ b).size
  · rw [if_pos hb]
    have hb' : (most : Int) < ((B ++ b).size : Int) := by omega
    go_enter Try.func45, Try.ntmps45
    go_wp2_with fail
    refine Calls.mono (HC.out _) ?_
    rintro e w1 ⟨rfl, HK⟩
    obtain ⟨b0, b1, b2, b3, _⟩ := HK.out.2
    obtain ⟨d0, d1, d2, d3, df⟩ := (HB.out.quiet HK.out.1).cells
    simp only at b0 b1 b2 b3
    clear HC
    go_wp2_with fail
    go_quiet (fail)
    go_wp2_with fail
    go_region
    obtain ⟨hd, hr⟩ := HD.out _ (HK.out.1.drewN (nq + 1))
    obtain ⟨e0, e1, e2, e3, ef⟩ := hr.cells
    have HH := hid hd
    obtain ⟨a0, a1, a2, a3, _⟩ := HK.out.2.keeps (S := fun k => k = g) (((Keeps.refl (fun k => k = g) w1).drewN (nq + 1)).setCell (p := ⟨g, 2, none⟩) (.inl rfl) (.string (B ++ b))) (fun e => by omega)
    simp only at a0 a1 a2 a3
    clear hd hr d0 d1 d2 d3 df b0 b1 b2 b3
    go_wp2_with fail
    go_quiet (fail)
    go_wp2
    go_ret2
    exact ⟨rfl, HP.out _ (HH.out.then ((Keeps.refl nobody _).drewN _))⟩
  · rw [if_neg hb]
    have hb' : ¬ (most : Int) < ((B ++ b).size : Int) := by omega
    unfold wholeB
    generalize hfw : bits .and .i64 fl 4 = fw at *
    go_enter Try.func45, Try.ntmps45
    go_wp2_with fail
    refine Calls.mono (HC.out _) ?_
    rintro e w1 ⟨rfl, HK⟩
    obtain ⟨b0, b1, b2, b3, _⟩ := HK.out.2
    obtain ⟨d0, d1, d2, d3, df⟩ := (HB.out.quiet HK.out.1).cells
    simp only at b0 b1 b2 b3
    clear HC
    go_wp2_with fail
    go_quiet (fail)
    go_wp2_with fail
    go_region
    obtain ⟨hd, hr⟩ := HD.out _ (HK.out.1.drewN (nq + 1))
    obtain ⟨e0, e1, e2, e3, ef⟩ := hr.cells
    have HH := hid hd
    obtain ⟨a0, a1, a2, a3, _⟩ := HK.out.2.keeps (S := fun k => k = g) (((Keeps.refl (fun k => k = g) w1).drewN (nq + 1)).setCell (p := ⟨g, 2, none⟩) (.inl rfl) (.string (B ++ b))) (fun e => by omega)
    simp only at a0 a1 a2 a3
    clear hd hr d0 d1 d2 d3 df b0 b1 b2 b3
    go_wp2_with fail
    go_quiet (fail)
    go_wp2
    go_ret2
    exact ⟨by first | rfl | simp [hfw], HP.out _ (HH.out.then ((Keeps.refl nobody _).drewN _))⟩

set_option maxRecDepth 100000 in
set_option maxHeartbeats 1000000 in
theorem rtake_head {w : World} {g most : Nat} {B : ByteArray} {fin : Bool} (h : Rw w g most 0 B fin) (fl id : Int) (b : ByteArray) (hz : b.size ≤ 140737488355328) (hc : (checkA ⟨1, fl, id, b⟩).2 = 0) : Calls Try.prog 45 #[.pointer (some ⟨g, 0, none⟩), frval ⟨1, fl, id, b⟩] w fun e w' => e = .returned (if most < (partA ⟨1, fl, id, b⟩).size then rtV false 5 else rtV (wholeB fl) 0) ∧ Did (rwT g most 0 B fin) (rwT g most id (partA ⟨1, fl, id, b⟩) (endB fl)) w w' := by
  have HC : Hid (∀ w, Calls Try.prog 19 #[frval ⟨1, fl, id, b⟩] (w.alloc (frobj 1 fl id b)) fun e w' => e = .returned (checkV (checkA ⟨1, fl, id, b⟩)) ∧ Hid (Told w ⟨1, fl, id, b⟩ w')) := rcheck_told ⟨1, fl, id, b⟩ hz
  have hps := partA_size ⟨1, fl, id, b⟩
  have HS : Hid (∀ w, Calls Try.prog 47 #[frval ⟨1, fl, id, b⟩] w fun e w' => ∃ sn se, e = .returned (.tuple #[.string (partA ⟨1, fl, id, b⟩), .int .i64 sn, .int .i64 se]) ∧ Keeps nobody w w') := fun w => by
    refine (rstrip_ok ⟨1, fl, id, b⟩ w hz).mono ?_
    rintro e w' ⟨he, hk⟩
    exact ⟨_, _, he, hk⟩
  have HB := hid h
  have hlt := h.lt
  clear h
  simp only at hps
  generalize checkA ⟨1, fl, id, b⟩ = c at *
  generalize partA ⟨1, fl, id, b⟩ = C at *
  obtain ⟨c1, c2⟩ := c
  obtain rfl : c2 = 0 := hc
  have hzC : C.size ≤ 140737488355328 := by omega
  have HD : Hid (∀ W, Keeps nobody w W → Did (rwT g most 0 B fin) (rwT g most id C (endB fl)) w (((W.setCell ⟨g, 1, none⟩ (.int .i64 id)).setCell ⟨g, 2, none⟩ (.string C)).setCell ⟨g, 3, none⟩ (.bool (endB fl))) ∧ Rw (((W.setCell ⟨g, 1, none⟩ (.int .i64 id)).setCell ⟨g, 2, none⟩ (.string C)).setCell ⟨g, 3, none⟩ (.bool (endB fl))) g most id C (endB fl)) := fun W hk => by
    have hd := (HB.out.quiet hk).head id C (endB fl)
    exact ⟨Did.before hk hd, hd.inv⟩
  generalize hP : (fun (W : World) => Did (rwT g most 0 B fin) (rwT g most id C (endB fl)) w W) = P
  have HP : Hid (∀ W, Did (rwT g most 0 B fin) (rwT g most id C (endB fl)) w W → P W) := fun W hd => by rw [← hP]; exact hd
  suffices H : Calls Try.prog 45 #[.pointer (some ⟨g, 0, none⟩), frval ⟨1, fl, id, b⟩] w fun e w' => e = .returned (if most < C.size then rtV false 5 else rtV (wholeB fl) 0) ∧ P w' by
    refine H.mono ?_
    rintro r w' ⟨hv, hq⟩
    exact ⟨hv, by rw [← hP] at hq; exact hq⟩
  clear hP
  by_cases hb : most < C.size
  · rw [if_pos hb]
    have hb' : (most : Int) < (C.size : Int) := by omega
    go_enter Try.func45, Try.ntmps45
    go_wp2_with fail
    refine Calls.mono (HC.out _) ?_
    rintro e w1 ⟨rfl, HK⟩
    obtain ⟨b0, b1, b2, b3, _⟩ := HK.out.2
    obtain ⟨d0, d1, d2, d3, df⟩ := (HB.out.quiet HK.out.1).cells
    simp only at b0 b1 b2 b3
    clear HC
    go_wp2_with fail
    go_quiet (fail)
    have HK2 : Hid (Told w ⟨1, fl, id, b⟩ (w1.drewN nq)) := ⟨HK.out.1.drewN nq, HK.out.2.keeps ((Keeps.refl nobody w1).drewN nq) (fun e => e)⟩
    clear HK
    go_wp2_with fail
    refine Calls.mono (HS.out _) ?_
    rintro e w2 ⟨sn, se, rfl, k2⟩
    have HK : Hid (Told w ⟨1, fl, id, b⟩ w2) := ⟨HK2.out.1.then k2, HK2.out.2.keeps k2 (fun e => e)⟩
    clear HK2 k2 HS b0 b1 b2 b3 d0 d1 d2 d3 df
    obtain ⟨b0, b1, b2, b3, _⟩ := HK.out.2
    obtain ⟨d0, d1, d2, d3, df⟩ := (HB.out.quiet HK.out.1).cells
    simp only at b0 b1 b2 b3
    go_wp2_with fail
    go_region
    obtain ⟨hd, hr⟩ := HD.out _ HK.out.1
    obtain ⟨e0, e1, e2, e3, ef⟩ := hr.cells
    have HH := hid hd
    obtain ⟨a0, a1, a2, a3, _⟩ := HK.out.2.keeps (S := fun k => k = g) ((((Keeps.refl (fun k => k = g) w2).setCell (p := ⟨g, 1, none⟩) (.inl rfl) (.int .i64 id)).setCell (p := ⟨g, 2, none⟩) (.inl rfl) (.string C)).setCell (p := ⟨g, 3, none⟩) (.inl rfl) (.bool (endB fl))) (fun e => by omega)
    simp only at a0 a1 a2 a3
    clear hd hr d0 d1 d2 d3 df b0 b1 b2 b3
    go_wp2_with fail
    go_quiet (fail)
    go_wp2
    go_ret2
    exact ⟨rfl, HP.out _ (by first | exact HH.out.then ((Keeps.refl nobody _).drewN _) | exact (HH.out.then (Keeps.refl nobody _).drew).then ((Keeps.refl nobody _).drewN _))⟩
  · rw [if_neg hb]
    have hb' : ¬ (most : Int) < (C.size : Int) := by omega
    unfold wholeB
    generalize hfw : bits .and .i64 fl 4 = fw at *
    go_enter Try.func45, Try.ntmps45
    go_wp2_with fail
    refine Calls.mono (HC.out _) ?_
    rintro e w1 ⟨rfl, HK⟩
    obtain ⟨b0, b1, b2, b3, _⟩ := HK.out.2
    obtain ⟨d0, d1, d2, d3, df⟩ := (HB.out.quiet HK.out.1).cells
    simp only at b0 b1 b2 b3
    clear HC
    go_wp2_with fail
    go_quiet (fail)
    have HK2 : Hid (Told w ⟨1, fl, id, b⟩ (w1.drewN nq)) := ⟨HK.out.1.drewN nq, HK.out.2.keeps ((Keeps.refl nobody w1).drewN nq) (fun e => e)⟩
    clear HK
    go_wp2_with fail
    refine Calls.mono (HS.out _) ?_
    rintro e w2 ⟨sn, se, rfl, k2⟩
    have HK : Hid (Told w ⟨1, fl, id, b⟩ w2) := ⟨HK2.out.1.then k2, HK2.out.2.keeps k2 (fun e => e)⟩
    clear HK2 k2 HS b0 b1 b2 b3 d0 d1 d2 d3 df
    obtain ⟨b0, b1, b2, b3, _⟩ := HK.out.2
    obtain ⟨d0, d1, d2, d3, df⟩ := (HB.out.quiet HK.out.1).cells
    simp only at b0 b1 b2 b3
    go_wp2_with fail
    go_region
    obtain ⟨hd, hr⟩ := HD.out _ HK.out.1
    obtain ⟨e0, e1, e2, e3, ef⟩ := hr.cells
    have HH := hid hd
    obtain ⟨a0, a1, a2, a3, _⟩ := HK.out.2.keeps (S := fun k => k = g) ((((Keeps.refl (fun k => k = g) w2).setCell (p := ⟨g, 1, none⟩) (.inl rfl) (.int .i64 id)).setCell (p := ⟨g, 2, none⟩) (.inl rfl) (.string C)).setCell (p := ⟨g, 3, none⟩) (.inl rfl) (.bool (endB fl))) (fun e => by omega)
    simp only at a0 a1 a2 a3
    clear hd hr d0 d1 d2 d3 df b0 b1 b2 b3
    go_wp2_with fail
    go_quiet (fail)
    go_wp2
    go_ret2
    exact ⟨by first | rfl | simp [hfw], HP.out _ (by first | exact HH.out.then ((Keeps.refl nobody _).drewN _) | exact (HH.out.then (Keeps.refl nobody _).drew).then ((Keeps.refl nobody _).drewN _))⟩
end Go.Proofs.Ytdpbnlamdgdljaa
