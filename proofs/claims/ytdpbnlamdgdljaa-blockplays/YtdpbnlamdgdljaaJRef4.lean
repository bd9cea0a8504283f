/-
  The reference's Blocks: Take, the whole.
-/
import Derived.Test.YtdpbnlamdgdljaaJRef3
namespace Go.Proofs.Ytdpbnlamdgdljaa
open Go.RowKit
attribute [local irreducible] numL byteAt endOf idOf nums str unpadA behind stripA checkA addE addO wholeR

abbrev rbobj (i : Int) (B : ByteArray) (e : Bool) : Obj := .cells #[.int .i64 i, .string B, .bool e] 50
theorem rr_new (w : World) (i : Int) (B : ByteArray) (e : Bool) : Rs (w.alloc (rbobj i B e)) w.heap.size ⟨i, e, B⟩ := by
  refine ⟨by simp, by simp, by simp, fun n => ?_⟩
  have h := heap_alloc_new w (rbobj i B e)
  unfold World.frozen?
  simp only [h]
  simp
abbrev rkW (w : World) (f : Frm) : World := (w.alloc (frobj f.kind f.flags f.id f.body)).alloc (rbobj 0 ⟨#[]⟩ false)
/-- What lies there while Take runs. -/
structure Rk (w : World) (f : Frm) (g most : Nat) (i0 : Int) (B0 : ByteArray) (e0 : Bool) (W : World) (i : Int) (B : ByteArray) (e : Bool) : Prop where
  did : Did (rwT g most i0 B0 e0) (rwT g most i B e) w W
  res : Rs W (w.heap.size + 1) noO
  lt : g < w.heap.size
theorem Rk.rw {w : World} {f : Frm} {g most : Nat} {i0 : Int} {B0 : ByteArray} {e0 : Bool} {W : World} {i : Int} {B : ByteArray} {e : Bool} (h : Rk w f g most i0 B0 e0 W i B e) : Rw W g most i B e := h.did.inv
theorem rk_take {w : World} {g most : Nat} {o : Opn} (h : Rb w g most o) (f : Frm) (hs : o.bytes.size + f.body.size ≤ 140737488355328) : Calls Try.prog 45 #[.pointer (some ⟨g, 0, none⟩), frval f] (rkW w f) fun r w' => r = .returned (rtV (wholeR most o f) (addE most o f)) ∧ ∃ i0 B0 e0 i B e, Hid (Rk w f g most i0 B0 e0 w' i B e ∧ (addE most o f = 0 → i = (addO o f).id ∧ B = (addO o f).bytes ∧ (i ≠ 0 → e = (addO o f).fin) ∧ (i = 0 → B = ⟨#[]⟩))) := by
  have k2 : Keeps nobody w (rkW w f) := (keeps_alloc _ _).alloc _
  have hr := rr_new (w.alloc (frobj f.kind f.flags f.id f.body)) 0 ⟨#[]⟩ false
  rw [show (w.alloc (frobj f.kind f.flags f.id f.body)).heap.size = w.heap.size + 1 by simp] at hr
  have hlt := h.lt
  have h2 : Rb (rkW w f) g most o := rbT_ok.keeps (t := rbT g most o) h k2 (fun _ _ => id)
  refine (rtake_ok h2 f hs).mono ?_
  rintro r w' ⟨he, i0, B0, e0, i, B, e, H⟩
  exact ⟨he, i0, B0, e0, i, B, e, ⟨Did.before k2 H.out.1, hr.keeps H.out.1.keeps (fun e9 => by have e9' : w.heap.size + 1 = g := e9; omega), hlt⟩, H.out.2⟩

set_option maxRecDepth 100000 in
theorem rTake_bad {w : World} {g most : Nat} {o : Opn} (h : Rb w g most o) (f : Frm) (hs : o.bytes.size + f.body.size ≤ 140737488355328) (hE : addE most o f ≠ 0) : Calls Try.prog 18 #[.pointer (some ⟨g, 0, none⟩), frval f] w fun e w' => e = .returned (takeV (noO, false, addE most o f)) ∧ Did (rbT g most o) (rbT g most noO) w w' := by
  have HT : Hid (Calls Try.prog 45 #[.pointer (some ⟨g, 0, none⟩), frval f] (rkW w f) fun r w' => r = .returned (rtV (wholeR most o f) (addE most o f)) ∧ ∃ i0 B0 e0 i B e, Hid (Rk w f g most i0 B0 e0 w' i B e ∧ (addE most o f = 0 → i = (addO o f).id ∧ B = (addO o f).bytes ∧ (i ≠ 0 → e = (addO o f).fin) ∧ (i = 0 → B = ⟨#[]⟩)))) := rk_take h f hs
  have g0 : (addE most o f != 0) = true := by simpa using hE
  generalize addE most o f = E at *
  generalize wholeR most o f = wh at *
  generalize addO o f = o2 at *
  clear h hE hs
  obtain ⟨k, fl, id, b⟩ := f
  go_enter Try.func18, Try.ntmps18
  go_wp2_with fail
  refine Calls.mono HT.out ?_
  rintro r w1 ⟨rfl, i0, B0, e0, i, B, e, H1⟩
  obtain ⟨d0, d1, d2, d3, df⟩ := H1.out.1.rw.cells
  obtain ⟨r0, r1, r2, r3⟩ := H1.out.1.res
  have hlt := H1.out.1.res.lt
  have hgl := H1.out.1.lt
  have HD := hid (H1.out.1.did.trans H1.out.1.rw.shut)
  have hge : ∀ p : Nat, ¬ (rwT g most 0 ⟨#[]⟩ e).foot (w.heap.size + 1 + p) := fun p e9 => by
    have e9' : w.heap.size + 1 + p = g := e9
    omega
  clear HT
  go_wp2
  exact bodyPost_ret (v := takeV (noO, false, E)) (by simp [results, Try.results18, go_sem, takeV, blockV, noO, *]) rfl ⟨rfl, by
    refine rb_did (i := i0) (B := B0) (e := e0) (i' := 0) (B' := ⟨#[]⟩) (e' := e) ?_ rfl rfl (fun e9 => absurd rfl e9) (fun _ => rfl)
    exact ((HD.out.store (p := ⟨w.heap.size + 1, 0, none⟩) (Nat.le_succ _) (hge 0) _).store (p := ⟨w.heap.size + 1, 1, none⟩) (Nat.le_succ _) (hge 0) _).store (p := ⟨w.heap.size + 1, 2, none⟩) (Nat.le_succ _) (hge 0) _⟩

set_option maxRecDepth 100000 in
theorem rTake_wait {w : World} {g most : Nat} {o : Opn} (h : Rb w g most o) (f : Frm) (hs : o.bytes.size + f.body.size ≤ 140737488355328) (hE : addE most o f = 0) (hw : wholeR most o f = false) : Calls Try.prog 18 #[.pointer (some ⟨g, 0, none⟩), frval f] w fun e w' => e = .returned (takeV (noO, false, 0)) ∧ Did (rbT g most o) (rbT g most (addO o f)) w w' := by
  have HT : Hid (Calls Try.prog 45 #[.pointer (some ⟨g, 0, none⟩), frval f] (rkW w f) fun r w' => r = .returned (rtV (wholeR most o f) (addE most o f)) ∧ ∃ i0 B0 e0 i B e, Hid (Rk w f g most i0 B0 e0 w' i B e ∧ (addE most o f = 0 → i = (addO o f).id ∧ B = (addO o f).bytes ∧ (i ≠ 0 → e = (addO o f).fin) ∧ (i = 0 → B = ⟨#[]⟩)))) := rk_take h f hs
  rw [hE, hw] at HT
  generalize addO o f = o2 at *
  clear h hE hs hw
  obtain ⟨k, fl, id, b⟩ := f
  go_enter Try.func18, Try.ntmps18
  go_wp2_with fail
  refine Calls.mono HT.out ?_
  rintro r w1 ⟨rfl, i0, B0, e0, i, B, e, H1⟩
  obtain ⟨r0, r1, r2, r3⟩ := H1.out.1.res
  have hlt := H1.out.1.res.lt
  have hgl := H1.out.1.lt
  have HD := hid H1.out.1.did
  have HE := hid (H1.out.2 trivial)
  have hge : ∀ p : Nat, ¬ (rwT g most i B e).foot (w.heap.size + 1 + p) := fun p e9 => by
    have e9' : w.heap.size + 1 + p = g := e9
    omega
  clear HT
  go_wp2
  exact bodyPost_ret (v := takeV (noO, false, 0)) (by simp [results, Try.results18, go_sem, takeV, blockV, noO, *]) rfl ⟨rfl, by
    refine rb_did (i := i0) (B := B0) (e := e0) (i' := i) (B' := B) (e' := e) ?_ HE.out.1.symm HE.out.2.1.symm HE.out.2.2.1 HE.out.2.2.2
    repeat (first | exact HD.out | refine Did.store ?_ (Nat.le_succ _) (hge 0) _)⟩

set_option maxRecDepth 100000 in
set_option maxHeartbeats 1000000 in
theorem rTake_whole {w : World} {g most : Nat} {o : Opn} (h : Rb w g most o) (f : Frm) (hs : o.bytes.size + f.body.size ≤ 140737488355328) (hE : addE most o f = 0) (hi : (addO o f).id ≠ 0) (hw : wholeR most o f = true) : Calls Try.prog 18 #[.pointer (some ⟨g, 0, none⟩), frval f] w fun e w' => e = .returned (takeV (addO o f, true, 0)) ∧ Did (rbT g most o) (rbT g most noO) w w' := by
  have HT : Hid (Calls Try.prog 45 #[.pointer (some ⟨g, 0, none⟩), frval f] (rkW w f) fun r w' => r = .returned (rtV true 0) ∧ ∃ i0 B0 e0, Hid (Rk w f g most i0 B0 e0 w' (addO o f).id (addO o f).bytes (addO o f).fin)) := by
    have := rk_take h f hs
    rw [hE, hw] at this
    refine this.mono ?_
    rintro r w' ⟨hr, i0, B0, e0, i, B, e, H⟩
    obtain ⟨q1, q2, q3, _⟩ := H.out.2 rfl
    have q4 := q3 (by rw [q1]; exact hi)
    have hk := H.out.1
    subst q1 q2 q4
    exact ⟨hr, i0, B0, e0, hk⟩
  generalize addO o f = o2 at *
  clear h hE hs hw hi
  obtain ⟨k, fl, id, b⟩ := f
  obtain ⟨i, fin, B⟩ := o2
  go_enter Try.func18, Try.ntmps18
  go_wp2_with fail
  refine Calls.mono HT.out ?_
  rintro r w1 ⟨rfl, i0, B0, e0, H1⟩
  obtain ⟨d0, d1, d2, d3, df⟩ := H1.out.rw.cells
  obtain ⟨a0, a1, a2, a3, af⟩ := (H1.out.rw.quiet (keeps_alloc w1 (.cells #[.int .i64 0, .string ⟨#[]⟩, .bool false] 50))).cells
  have hglt := H1.out.rw.lt
  clear HT
  go_wp2_with fail
  go_region
  have hgl := H1.out.lt
  obtain ⟨r0, r1, r2, r3⟩ := H1.out.res
  have hlt := H1.out.res.lt
  simp only [noO] at r0 r1 r2
  have HD := hid (H1.out.did.trans H1.out.rw.shut)
  have HG : Hid (∀ p : Nat, ¬ (rwT g most 0 ⟨#[]⟩ fin).foot (w.heap.size + 1 + p)) := fun p e9 => by
    have e9' : w.heap.size + 1 + p = g := e9
    omega
  clear a0 a1 a2 a3 af
  go_wp2
  exact bodyPost_ret (v := takeV (⟨i, fin, B⟩, true, 0)) (by simp [results, Try.results18, go_sem, takeV, blockV, *]) rfl ⟨rfl, by
    refine rb_did (i := i0) (B := B0) (e := e0) (i' := 0) (B' := ⟨#[]⟩) (e' := fin) ?_ rfl rfl (fun e9 => absurd rfl e9) (fun _ => rfl)
    exact (((HD.out.store (p := ⟨w.heap.size + 1, 0, none⟩) (Nat.le_succ _) (HG.out 0) _).store (p := ⟨w.heap.size + 1, 1, none⟩) (Nat.le_succ _) (HG.out 0) _).store (p := ⟨w.heap.size + 1, 2, none⟩) (Nat.le_succ _) (HG.out 0) _).then (keeps_alloc _ _).drew⟩
theorem rTake_ok {w : World} {g most : Nat} {o : Opn} (h : Rb w g most o) (f : Frm) (hs : o.bytes.size + f.body.size ≤ 140737488355328) : Calls Try.prog 18 #[.pointer (some ⟨g, 0, none⟩), frval f] w fun e w' => e = .returned (takeV (takeA most o f).1) ∧ Did (rbT g most o) (rbT g most (takeA most o f).2) w w' := by
  by_cases hE : addE most o f = 0
  · by_cases hw : (addO o f).id = 0 ∨ wholeB f.flags = false
    · rw [takeA, if_neg (fun e => e hE), if_pos hw]
      refine rTake_wait h f hs hE ?_
      unfold wholeR
      rcases hw with hw | hw <;> simp [hw]
    · rw [takeA, if_neg (fun e => e hE), if_neg hw]
      refine rTake_whole h f hs hE (fun e => hw (.inl e)) ?_
      have h1 : (addO o f).id ≠ 0 := fun e => hw (.inl e)
      have h2 : wholeB f.flags = true := by
        cases hb : wholeB f.flags with
        | true => rfl
        | false => exact absurd (.inr hb) hw
      unfold wholeR
      simp [hE, h1, h2]
  · rw [takeA, if_pos hE]
    exact rTake_bad h f hs hE
end Go.Proofs.Ytdpbnlamdgdljaa
