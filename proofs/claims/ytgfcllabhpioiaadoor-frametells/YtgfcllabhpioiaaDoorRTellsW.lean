/-
  The law FrameTells as a walk.
-/
import Derived.Test.YtgfcllabhpioiaaDoorRCutsW
import Derived.Test.YtgfcllabhpioiaaDoorRRefD
namespace Go.Proofs.YtgfcllabhpioiaaDoor
open Go.RowKit
attribute [local irreducible] putA right numL byteAt endOf idOf nums str getA stripA nameA

theorem tells_off0 (fk ff fi : Int) (fb b : ByteArray) (kd : Int) (W : World) (HA : Hid (∀ w, Keeps nobody W w → Calls Tryd.prog 9 #[] w fun e w' => e = .returned (.bool true) ∧ Keeps nobody w w')) (h : 2000 < fb.size) : Calls Tryd.prog 3 #[.agg #[.int .i64 fk, .int .i64 ff, .int .i64 fi, .string fb], .string b, .int .i64 kd] W (Fine W) := by
  have hk := keeps_alloc W (frobj fk ff fi fb)
  go_enter Tryd.func3, Tryd.ntmps3
  go_wp2_with fail
  refine Calls.mono (HA.out _ hk) ?_
  rintro e w1 ⟨rfl, k1⟩
  go_wp2
  go_ret
  exact ⟨rfl, below_of_keeps (hk.then k1)⟩

theorem tells_off1 (fk ff fi : Int) (fb b : ByteArray) (kd : Int) (W : World) (HA : Hid (∀ w, Keeps nobody W w → Calls Tryd.prog 9 #[] w fun e w' => e = .returned (.bool true) ∧ Keeps nobody w w')) (h0 : fb.size ≤ 2000) (h : 400 < b.size) : Calls Tryd.prog 3 #[.agg #[.int .i64 fk, .int .i64 ff, .int .i64 fi, .string fb], .string b, .int .i64 kd] W (Fine W) := by
  have hk := keeps_alloc W (frobj fk ff fi fb)
  go_enter Tryd.func3, Tryd.ntmps3
  go_wp2_with fail
  refine Calls.mono (HA.out _ hk) ?_
  rintro e w1 ⟨rfl, k1⟩
  go_wp2
  go_ret
  exact ⟨rfl, below_of_keeps (hk.then k1)⟩

set_option maxRecDepth 100000 in
set_option maxHeartbeats 2000000 in
theorem tells_false (fk ff fi : Int) (fb b : ByteArray) (kd : Int) (W : World) (X : ByteArray) (gk gf gi : Int) (gb : ByteArray) (gn : Nat) (ge : Int) (u : ByteArray) (m : Nat) (g : Int) (N : ByteArray) (h1 : fb.size ≤ 2000) (h2 : b.size ≤ 400)
    (HA : Hid (∀ w, Keeps nobody W w → Calls Tryd.prog 9 #[] w fun e w' => e = .returned (.bool true) ∧ Keeps nobody w w'))
    (HP : Hid (∀ w, Calls Tryd.prog 10 #[.agg #[.int .i64 fk, .int .i64 ff, .int .i64 fi, .string fb]] w fun e w' => e = .returned (.tuple #[.string X, .bool false]) ∧ Keeps nobody w w'))
    (HQ : Hid (∀ w, Calls Tryd.prog 11 #[.agg #[.int .i64 fk, .int .i64 ff, .int .i64 fi, .string fb]] w fun e w' => e = .returned (.tuple #[.string X, .bool false]) ∧ Keeps nobody w w'))
    (HG : Hid (∀ w, Calls Tryd.prog 12 #[.string b] w fun e w' => e = .returned (.tuple #[.agg #[.int .i64 gk, .int .i64 gf, .int .i64 gi, .string gb], .int .i64 (gn : Int), .int .i64 ge]) ∧ Keeps nobody w w'))
    (HH : Hid (∀ w, Calls Tryd.prog 13 #[.string b] w fun e w' => e = .returned (.tuple #[.agg #[.int .i64 gk, .int .i64 gf, .int .i64 gi, .string gb], .int .i64 (gn : Int), .int .i64 ge]) ∧ Keeps nobody w w'))
    (HS : Hid (∀ w, Calls Tryd.prog 14 #[.agg #[.int .i64 fk, .int .i64 ff, .int .i64 fi, .string fb]] w fun e w' => e = .returned (.tuple #[.string u, .int .i64 (m : Int), .int .i64 g]) ∧ Keeps nobody w w'))
    (HT : Hid (∀ w, Calls Tryd.prog 15 #[.agg #[.int .i64 fk, .int .i64 ff, .int .i64 fi, .string fb]] w fun e w' => e = .returned (.tuple #[.string u, .int .i64 (m : Int), .int .i64 g]) ∧ Keeps nobody w w'))
    (HR : Hid (∀ w, Calls Tryd.prog 16 #[.agg #[.int .i64 fk, .int .i64 ff, .int .i64 fi, .string fb]] w fun e w' => e = .returned (.bool false) ∧ Keeps nobody w w'))
    (HN : Hid (∀ w, Keeps nobody W w → Calls Tryd.prog 17 #[.int .i64 kd] w fun e w' => e = .returned (.string N) ∧ w = w'))
    (HM : Hid (∀ w, Calls Tryd.prog 18 #[.int .i64 kd] w fun e w' => e = .returned (.string N) ∧ Keeps nobody w w')) : Calls Tryd.prog 3 #[.agg #[.int .i64 fk, .int .i64 ff, .int .i64 fi, .string fb], .string b, .int .i64 kd] W (Fine W) := by
  have hk := keeps_alloc W (frobj fk ff fi fb)
  have hB0 := hid (box_new W ⟨fk, ff, fi, fb⟩)
  go_enter Tryd.func3, Tryd.ntmps3
  go_wp2_with fail
  refine Calls.mono (HA.out _ hk) ?_
  rintro e w1 ⟨rfl, k1⟩
  have hB1 := hid (hB0.out.keeps k1)
  have K1 := hk.then k1
  obtain ⟨d0, d1, d2, d3⟩ := hB1.out
  clear hB0 hk k1 HA
  go_wp2_with fail
  refine Calls.mono (HP.out _) ?_
  rintro e w2 ⟨rfl, k2⟩
  have hB2 := hid (hB1.out.keeps k2)
  have K2 := K1.then k2
  clear d0 d1 d2 d3 hB1 K1 k2
  obtain ⟨d0, d1, d2, d3⟩ := hB2.out
  go_wp2_with fail
  refine Calls.mono (HQ.out _) ?_
  rintro e w3 ⟨rfl, k3⟩
  have hB3 := hid (hB2.out.keeps k3)
  have K3 := K2.then k3
  clear d0 d1 d2 d3 hB2 K2 k3
  go_wp2_with fail
  refine Calls.mono (HG.out _) ?_
  rintro e w4 ⟨rfl, k4⟩
  have hB4 := hid ((hB3.out.keeps k4).keeps (keeps_alloc w4 (frobj gk gf gi gb)))
  have K4 := (K3.then k4).alloc (frobj gk gf gi gb)
  have hC4 := hid (box_new w4 ⟨gk, gf, gi, gb⟩)
  clear hB3 K3 k4
  go_wp2_with fail
  refine Calls.mono (HH.out _) ?_
  rintro e w5 ⟨rfl, k5⟩
  have hB5 := hid ((hB4.out.keeps k5).keeps (keeps_alloc w5 (frobj gk gf gi gb)))
  have hC5 := hid ((hC4.out.keeps k5).keeps (keeps_alloc w5 (frobj gk gf gi gb)))
  have hD5 := hid (box_new w5 ⟨gk, gf, gi, gb⟩)
  have K5 := (K4.then k5).alloc (frobj gk gf gi gb)
  clear hB4 hC4 K4 k5
  obtain ⟨d0, d1, d2, d3⟩ := hB5.out
  go_wp2_with fail
  refine Calls.mono (HS.out _) ?_
  rintro e w6 ⟨rfl, k6⟩
  have hB6 := hid (hB5.out.keeps k6)
  have hC6 := hid (hC5.out.keeps k6)
  have hD6 := hid (hD5.out.keeps k6)
  have K6 := K5.then k6
  clear d0 d1 d2 d3 hB5 hC5 hD5 K5 k6
  obtain ⟨d0, d1, d2, d3⟩ := hB6.out
  go_wp2_with fail
  refine Calls.mono (HT.out _) ?_
  rintro e w7 ⟨rfl, k7⟩
  have hB7 := hid (hB6.out.keeps k7)
  have hC7 := hid (hC6.out.keeps k7)
  have hD7 := hid (hD6.out.keeps k7)
  have K7 := K6.then k7
  clear d0 d1 d2 d3 hB6 hC6 hD6 K6 k7
  obtain ⟨d0, d1, d2, d3⟩ := hB7.out
  go_wp2_with fail
  refine Calls.mono (HR.out _) ?_
  rintro e w8 ⟨rfl, k8⟩
  have hB8 := hid (hB7.out.keeps k8)
  have hC8 := hid (hC7.out.keeps k8)
  have hD8 := hid (hD7.out.keeps k8)
  have K8 := K7.then k8
  clear d0 d1 d2 d3 hB7 hC7 hD7 K7 k8
  obtain ⟨c0, c1, c2, c3⟩ := hC8.out
  obtain ⟨e0, e1, e2, e3⟩ := hD8.out
  go_wp2_with fail
  refine Calls.mono (HN.out _ K8) ?_
  rintro e w9 ⟨rfl, rfl⟩
  go_wp2_with fail
  refine Calls.mono (HM.out _) ?_
  rintro e w10 ⟨rfl, k10⟩
  have hB10 := hid (hB8.out.keeps k10)
  have K10 := K8.then k10
  clear c0 c1 c2 c3 e0 e1 e2 e3 hB8 hC8 hD8 K8 k10 HP HQ HG HH HS HT HR HN HM
  clear hB10
  go_wp2
  go_ret
  exact ⟨rfl, below_of_keeps K10⟩

set_option maxRecDepth 100000 in
set_option maxHeartbeats 2000000 in
theorem tells_true (fk ff fi : Int) (fb b : ByteArray) (kd : Int) (W : World) (X : ByteArray) (gk gf gi : Int) (gb : ByteArray) (gn : Nat) (ge : Int) (u : ByteArray) (m : Nat) (g : Int) (N : ByteArray) (h1 : fb.size ≤ 2000) (h2 : b.size ≤ 400)
    (HA : Hid (∀ w, Keeps nobody W w → Calls Tryd.prog 9 #[] w fun e w' => e = .returned (.bool true) ∧ Keeps nobody w w'))
    (HP : Hid (∀ w, Calls Tryd.prog 10 #[.agg #[.int .i64 fk, .int .i64 ff, .int .i64 fi, .string fb]] w fun e w' => e = .returned (.tuple #[.string X, .bool true]) ∧ Keeps nobody w w'))
    (HQ : Hid (∀ w, Calls Tryd.prog 11 #[.agg #[.int .i64 fk, .int .i64 ff, .int .i64 fi, .string fb]] w fun e w' => e = .returned (.tuple #[.string X, .bool true]) ∧ Keeps nobody w w'))
    (HG : Hid (∀ w, Calls Tryd.prog 12 #[.string b] w fun e w' => e = .returned (.tuple #[.agg #[.int .i64 gk, .int .i64 gf, .int .i64 gi, .string gb], .int .i64 (gn : Int), .int .i64 ge]) ∧ Keeps nobody w w'))
    (HH : Hid (∀ w, Calls Tryd.prog 13 #[.string b] w fun e w' => e = .returned (.tuple #[.agg #[.int .i64 gk, .int .i64 gf, .int .i64 gi, .string gb], .int .i64 (gn : Int), .int .i64 ge]) ∧ Keeps nobody w w'))
    (HS : Hid (∀ w, Calls Tryd.prog 14 #[.agg #[.int .i64 fk, .int .i64 ff, .int .i64 fi, .string fb]] w fun e w' => e = .returned (.tuple #[.string u, .int .i64 (m : Int), .int .i64 g]) ∧ Keeps nobody w w'))
    (HT : Hid (∀ w, Calls Tryd.prog 15 #[.agg #[.int .i64 fk, .int .i64 ff, .int .i64 fi, .string fb]] w fun e w' => e = .returned (.tuple #[.string u, .int .i64 (m : Int), .int .i64 g]) ∧ Keeps nobody w w'))
    (HR : Hid (∀ w, Calls Tryd.prog 16 #[.agg #[.int .i64 fk, .int .i64 ff, .int .i64 fi, .string fb]] w fun e w' => e = .returned (.bool true) ∧ Keeps nobody w w'))
    (HN : Hid (∀ w, Keeps nobody W w → Calls Tryd.prog 17 #[.int .i64 kd] w fun e w' => e = .returned (.string N) ∧ w = w'))
    (HM : Hid (∀ w, Calls Tryd.prog 18 #[.int .i64 kd] w fun e w' => e = .returned (.string N) ∧ Keeps nobody w w'))
    (hX : X.size = 9 + fb.size) (HZ : Hid (∀ w, Calls Tryd.prog 12 #[.string (X ++ b)] w fun e w' => e = .returned (.tuple #[.agg #[.int .i64 fk, .int .i64 ff, .int .i64 fi, .string fb], .int .i64 (X.size : Int), .int .i64 0]) ∧ Keeps nobody w w')) : Calls Tryd.prog 3 #[.agg #[.int .i64 fk, .int .i64 ff, .int .i64 fi, .string fb], .string b, .int .i64 kd] W (Fine W) := by
  have hk := keeps_alloc W (frobj fk ff fi fb)
  have hB0 := hid (box_new W ⟨fk, ff, fi, fb⟩)
  go_enter Tryd.func3, Tryd.ntmps3
  go_wp2_with fail
  refine Calls.mono (HA.out _ hk) ?_
  rintro e w1 ⟨rfl, k1⟩
  have hB1 := hid (hB0.out.keeps k1)
  have K1 := hk.then k1
  obtain ⟨d0, d1, d2, d3⟩ := hB1.out
  clear hB0 hk k1 HA
  go_wp2_with fail
  refine Calls.mono (HP.out _) ?_
  rintro e w2 ⟨rfl, k2⟩
  have hB2 := hid (hB1.out.keeps k2)
  have K2 := K1.then k2
  clear d0 d1 d2 d3 hB1 K1 k2
  obtain ⟨d0, d1, d2, d3⟩ := hB2.out
  go_wp2_with fail
  refine Calls.mono (HQ.out _) ?_
  rintro e w3 ⟨rfl, k3⟩
  have hB3 := hid (hB2.out.keeps k3)
  have K3 := K2.then k3
  clear d0 d1 d2 d3 hB2 K2 k3
  go_wp2_with fail
  refine Calls.mono (HG.out _) ?_
  rintro e w4 ⟨rfl, k4⟩
  have hB4 := hid ((hB3.out.keeps k4).keeps (keeps_alloc w4 (frobj gk gf gi gb)))
  have K4 := (K3.then k4).alloc (frobj gk gf gi gb)
  have hC4 := hid (box_new w4 ⟨gk, gf, gi, gb⟩)
  clear hB3 K3 k4
  go_wp2_with fail
  refine Calls.mono (HH.out _) ?_
  rintro e w5 ⟨rfl, k5⟩
  have hB5 := hid ((hB4.out.keeps k5).keeps (keeps_alloc w5 (frobj gk gf gi gb)))
  have hC5 := hid ((hC4.out.keeps k5).keeps (keeps_alloc w5 (frobj gk gf gi gb)))
  have hD5 := hid (box_new w5 ⟨gk, gf, gi, gb⟩)
  have K5 := (K4.then k5).alloc (frobj gk gf gi gb)
  clear hB4 hC4 K4 k5
  obtain ⟨d0, d1, d2, d3⟩ := hB5.out
  go_wp2_with fail
  refine Calls.mono (HS.out _) ?_
  rintro e w6 ⟨rfl, k6⟩
  have hB6 := hid (hB5.out.keeps k6)
  have hC6 := hid (hC5.out.keeps k6)
  have hD6 := hid (hD5.out.keeps k6)
  have K6 := K5.then k6
  clear d0 d1 d2 d3 hB5 hC5 hD5 K5 k6
  obtain ⟨d0, d1, d2, d3⟩ := hB6.out
  go_wp2_with fail
  refine Calls.mono (HT.out _) ?_
  rintro e w7 ⟨rfl, k7⟩
  have hB7 := hid (hB6.out.keeps k7)
  have hC7 := hid (hC6.out.keeps k7)
  have hD7 := hid (hD6.out.keeps k7)
  have K7 := K6.then k7
  clear d0 d1 d2 d3 hB6 hC6 hD6 K6 k7
  obtain ⟨d0, d1, d2, d3⟩ := hB7.out
  go_wp2_with fail
  refine Calls.mono (HR.out _) ?_
  rintro e w8 ⟨rfl, k8⟩
  have hB8 := hid (hB7.out.keeps k8)
  have hC8 := hid (hC7.out.keeps k8)
  have hD8 := hid (hD7.out.keeps k8)
  have K8 := K7.then k8
  clear d0 d1 d2 d3 hB7 hC7 hD7 K7 k8
  obtain ⟨c0, c1, c2, c3⟩ := hC8.out
  obtain ⟨e0, e1, e2, e3⟩ := hD8.out
  go_wp2_with fail
  refine Calls.mono (HN.out _ K8) ?_
  rintro e w9 ⟨rfl, rfl⟩
  go_wp2_with fail
  refine Calls.mono (HM.out _) ?_
  rintro e w10 ⟨rfl, k10⟩
  have hB10 := hid (hB8.out.keeps k10)
  have K10 := K8.then k10
  clear c0 c1 c2 c3 e0 e1 e2 e3 hB8 hC8 hD8 K8 k10 HP HQ HG HH HS HT HR HN HM
  go_wp2_with fail
  refine Calls.mono (HZ.out _) ?_
  rintro e w11 ⟨rfl, k11⟩
  have hB11 := hid ((hB10.out.keeps k11).keeps (keeps_alloc w11 (frobj fk ff fi fb)))
  have K11 := (K10.then k11).alloc (frobj fk ff fi fb)
  clear hB10 K10 k11 HZ
  obtain ⟨d0, d1, d2, d3⟩ := hB11.out
  go_wp2
  go_ret
  exact ⟨rfl, below_of_keeps K11⟩

theorem tells_true_ (f : Frm) (b : ByteArray) (kd : Int) (W : World) (hE : Env W) (_ : f.body.size ≤ 140737488355328) (_ : b.size ≤ 140737488355328) : Calls Tryd.prog 3 #[frval f, .string b, .int .i64 kd] W (Fine W) := by
  have HA : Hid (∀ w, Keeps nobody W w → Calls Tryd.prog 9 #[] w fun e w' => e = .returned (.bool true) ∧ Keeps nobody w w') := fun w hw => alive_ok w (hE.quiet hw)
  by_cases h1 : f.body.size ≤ 2000
  · by_cases h2 : b.size ≤ 400
    · have HP := put_ok f
      have HQ := fput_ok f
      have HG := fun w => get_ok b w (by omega)
      have HH := fun w => fget_ok b w (by omega)
      have HS := fun w => strip_ok f w (by omega)
      have HT := fun w => rstrip_ok f w (by omega)
      have HR := right_ok f
      have HN := fun w (hw : Keeps nobody W w) => name_ok kd w (hE.quiet hw)
      have HM := fname_ok kd
      cases hr : decide (right f) with
      | false =>
        rw [hr] at HP HQ HR
        exact tells_false f.kind f.flags f.id f.body b kd W _ _ _ _ _ _ _ _ _ _ _ h1 h2 HA HP HQ HG HH HS HT HR HN HM
      | true =>
        rw [hr] at HP HQ HR
        have hri : right f := of_decide_eq_true hr
        have hX := put_size f hri
        have HZ := fun w => get_ok (putA f ++ b) w (by rw [ByteArray.size_append]; omega)
        rw [get_put f b hri, ← hX] at HZ
        exact tells_true f.kind f.flags f.id f.body b kd W _ _ _ _ _ _ _ _ _ _ _ h1 h2 HA HP HQ HG HH HS HT HR HN HM hX HZ
    · exact tells_off1 f.kind f.flags f.id f.body b kd W HA h1 (by omega)
  · exact tells_off0 f.kind f.flags f.id f.body b kd W HA (by omega)
end Go.Proofs.YtgfcllabhpioiaaDoor
