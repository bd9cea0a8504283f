/-
  Package block: Take.
-/
import Derived.Test.YtdpbnlamdgdljaaJAdd
namespace Go.Proofs.Ytdpbnlamdgdljaa
open Go.RowKit
attribute [local irreducible] numL byteAt endOf idOf nums str unpadA behind stripA checkA addE addO

abbrev bkobj (o : Opn) : Obj := .cells #[.int .i64 o.id, .string o.bytes, .bool o.fin] 41
/-- A block lies in its box. -/
structure Rs (w : World) (g : Nat) (o : Opn) : Prop where
  c0 : w.cell? ⟨g, 0, none⟩ = some (.int .i64 o.id)
  c1 : w.cell? ⟨g, 1, none⟩ = some (.string o.bytes)
  c2 : w.cell? ⟨g, 2, none⟩ = some (.bool o.fin)
  fz : ∀ n, w.frozen? ⟨g, n, none⟩ = false
theorem Rs.lt {w : World} {g : Nat} {o : Opn} (h : Rs w g o) : g < w.heap.size := World.block_lt_of_cell? w ⟨g, 0, none⟩ h.c0
theorem rs_new (w : World) (o : Opn) : Rs (w.alloc (bkobj o)) w.heap.size o := by
  refine ⟨by simp, by simp, by simp, fun n => ?_⟩
  have h := heap_alloc_new w (bkobj o)
  unfold World.frozen?
  simp only [h]
  simp
theorem Rs.keeps {S : Nat → Prop} {w w' : World} {g : Nat} {o : Opn} (h : Rs w g o) (k : Keeps S w w') (hS : ¬ S g) : Rs w' g o := by
  have hb := h.lt
  have hc : ∀ n, w'.cell? ⟨g, n, none⟩ = w.cell? ⟨g, n, none⟩ := fun n => k.cell (p := ⟨g, n, none⟩) hb hS
  have hf : ∀ n, w'.frozen? ⟨g, n, none⟩ = w.frozen? ⟨g, n, none⟩ := fun n => k.frozen (p := ⟨g, n, none⟩) hb hS
  exact ⟨(hc _).trans h.c0, (hc _).trans h.c1, (hc _).trans h.c2, fun n => (hf n).trans (h.fz n)⟩
/-- A store into a new block that is none of the thing's. -/
theorem Did.store {t t' : Thing} {w w' : World} (h : Did t t' w w') {p : Addr} (hp : w.heap.size ≤ p.block) (hn : ¬ t'.foot p.block) (u : Value) : Did t t' w (w'.setCell p u) :=
  ⟨h.ok, h.ok.keeps h.inv ((Keeps.refl (fun k => k = p.block) w').setCell (.inl rfl) u) (fun k hk e => hn (by rw [← e]; exact hk)), h.keeps.setCell (.inr hp) u, h.foot⟩
theorem take_nil (f : Frm) (w : World) : Calls Try.prog 15 #[.pointer none, frval f] w fun e w' => e = .returned (takeV (noO, false, 8)) ∧ Keeps nobody w w' := by
  have HM : Hid (∀ W, Calls Try.prog 22 #[.pointer none] W fun e w' => e = .returned (.bool false) ∧ W = w') := made_nil
  obtain ⟨k, fl, id, b⟩ := f
  go_enter Try.func15, Try.ntmps15
  go_wp2_with fail
  refine Calls.mono (HM.out _) ?_
  rintro e w1 ⟨rfl, rfl⟩
  go_wp2
  exact bodyPost_ret (v := takeV (noO, false, 8)) (by simp [results, Try.results15, go_sem, takeV, blockV, noO, *]) rfl ⟨rfl, by repeat (first | exact Keeps.refl _ _ | refine Keeps.alloc ?_ _ | refine Keeps.setCell ?_ (.inr (by simp)) _)⟩
section
variable {w : World} {g : Nat} {v : Value} {most : Nat} {o : Opn}
/-- The world in which Take has its boxes. -/
abbrev tkW (w : World) (f : Frm) : World := (w.alloc (frobj f.kind f.flags f.id f.body)).alloc (bkobj noO)
/-- What lies there while Take runs. -/
structure Tk (w : World) (f : Frm) (g : Nat) (v : Value) (most : Nat) (o : Opn) (W : World) (v' : Value) (o' : Opn) : Prop where
  did : Did (blT g v most o) (blT g v' most o') (tkW w f) W
  box : Bx W w.heap.size f
  res : Rs W (w.heap.size + 1) noO
theorem foot_new {k : Nat} (h : Bl w g v most o) (hk : w.heap.size ≤ k) : ¬ sfoot g v k := fun e => by
  have := blT_ok.lt (t := blT g v most o) h k e
  omega
theorem Tk.apart {f : Frm} {W : World} {v' : Value} {o' : Opn} (h : Bl w g v most o) (t : Tk w f g v most o W v' o') {k : Nat} (hk : w.heap.size ≤ k) (hk2 : k < (tkW w f).heap.size) : ¬ sfoot g v' k := fun e => by
  rcases t.did.foot k e with e | e
  · exact foot_new h hk e
  · omega
theorem tk_start (h : Bl w g v most o) (f : Frm) : Tk w f g v most o (tkW w f) v o := by
  have k2 : Keeps nobody (w.alloc (frobj f.kind f.flags f.id f.body)) (tkW w f) := keeps_alloc _ _
  have hr := rs_new (w.alloc (frobj f.kind f.flags f.id f.body)) noO
  rw [show (w.alloc (frobj f.kind f.flags f.id f.body)).heap.size = w.heap.size + 1 by simp] at hr
  exact ⟨Did.same blT_ok (h.quiet ((keeps_alloc _ _).then k2)), (bx_new w f).keeps k2 (fun e => e), hr⟩
theorem Tk.step {f : Frm} {W W' : World} {v' v2 : Value} {o' o2 : Opn} (h : Bl w g v most o) (t : Tk w f g v most o W v' o') (d : Did (blT g v' most o') (blT g v2 most o2) W W') : Tk w f g v most o W' v2 o2 :=
  ⟨t.did.trans d, t.box.keeps d.keeps (t.apart h (Nat.le_refl _) (by simp; omega)), t.res.keeps d.keeps (t.apart h (by omega) (by simp))⟩
theorem Tk.end {f : Frm} {W : World} {v' : Value} {o' : Opn} (t : Tk w f g v most o W v' o') : Did (blT g v most o) (blT g v' most o') w W := Did.before ((keeps_alloc _ _).alloc _) t.did
theorem tk_add (h : Bl w g v most o) (f : Frm) (hs : o.bytes.size + f.body.size ≤ 140737488355328) : Calls Try.prog 23 #[.pointer (some ⟨g, 0, none⟩), frval f] (tkW w f) fun e w' => e = .returned (.int .i64 (addE most o f)) ∧ ∃ v' o', Hid (Tk w f g v most o w' v' o' ∧ (addE most o f = 0 → o' = addO o f)) := by
  have t := tk_start h f
  refine (add_ok t.did.inv f hs).mono ?_
  rintro e w' ⟨he, v', o', hd, ho⟩
  exact ⟨he, v', o', t.step h hd, ho⟩
theorem tk_shut {f : Frm} {W : World} {v' : Value} {o' : Opn} (h : Bl w g v most o) (t : Tk w f g v most o W v' o') : Calls Try.prog 24 #[.pointer (some ⟨g, 0, none⟩)] W fun e w' => e = .returned (.tuple #[]) ∧ Hid (Tk w f g v most o w' (.slice none 0 0) noO) := by
  refine (shut_ok t.did.inv).mono ?_
  rintro e w' ⟨he, hd⟩
  exact ⟨he, t.step h hd⟩
end
set_option maxRecDepth 100000 in
theorem take_bad {w : World} {g : Nat} {v : Value} {most : Nat} {o : Opn} (h : Bl w g v most o) (f : Frm) (hs : o.bytes.size + f.body.size ≤ 140737488355328) (hE : addE most o f ≠ 0) : Calls Try.prog 15 #[.pointer (some ⟨g, 0, none⟩), frval f] w fun e w' => e = .returned (takeV (noO, false, addE most o f)) ∧ ∃ v', Did (blT g v most o) (blT g v' most noO) w w' := by
  have HM : Hid (Calls Try.prog 22 #[.pointer (some ⟨g, 0, none⟩)] (tkW w f) fun e w' => e = .returned (.bool true) ∧ tkW w f = w') := made_ok (tk_start h f).did.inv
  have HA : Hid (Calls Try.prog 23 #[.pointer (some ⟨g, 0, none⟩), frval f] (tkW w f) fun e w' => e = .returned (.int .i64 (addE most o f)) ∧ ∃ v' o', Hid (Tk w f g v most o w' v' o' ∧ (addE most o f = 0 → o' = addO o f))) := tk_add h f hs
  have HS : Hid (∀ W v' o', Tk w f g v most o W v' o' → Calls Try.prog 24 #[.pointer (some ⟨g, 0, none⟩)] W fun e w' => e = .returned (.tuple #[]) ∧ Hid (Tk w f g v most o w' (.slice none 0 0) noO)) := fun W v' o' t => tk_shut h t
  have HP : Hid (∀ W v', Tk w f g v most o W v' noO → ¬ sfoot g v' (w.heap.size + 1)) := fun W v' t => t.apart h (by omega) (by simp)
  have g0 : (addE most o f != 0) = true := by simpa using hE
  generalize addE most o f = E at *
  clear h hE hs
  obtain ⟨k, fl, id, b⟩ := f
  go_enter Try.func15, Try.ntmps15
  go_wp2_with fail
  refine Calls.mono HM.out ?_
  rintro e w1 ⟨rfl, rfl⟩
  clear HM
  go_wp2_with fail
  refine Calls.mono HA.out ?_
  rintro e w1 ⟨rfl, v1, o1, H1⟩
  clear HA
  go_wp2_with fail
  refine Calls.mono (HS.out _ _ _ H1.out.1) ?_
  rintro e w2 ⟨rfl, H2⟩
  obtain ⟨r0, r1, r2, r3⟩ := H2.out.res
  have hlt := H2.out.res.lt
  clear HS H1
  go_wp2
  exact bodyPost_ret (v := takeV (noO, false, E)) (by simp [results, Try.results15, go_sem, takeV, blockV, noO, *]) rfl ⟨rfl, _, by repeat (first | exact H2.out.end | refine Did.store ?_ (Nat.le_succ _) (HP.out _ _ H2.out) _)⟩

set_option maxRecDepth 100000 in
theorem take_wait {w : World} {g : Nat} {v : Value} {most : Nat} {o : Opn} (h : Bl w g v most o) (f : Frm) (hs : o.bytes.size + f.body.size ≤ 140737488355328) (hE : addE most o f = 0) (hw : (addO o f).id = 0 ∨ wholeB f.flags = false) : Calls Try.prog 15 #[.pointer (some ⟨g, 0, none⟩), frval f] w fun e w' => e = .returned (takeV (noO, false, 0)) ∧ ∃ v', Did (blT g v most o) (blT g v' most (addO o f)) w w' := by
  have HM : Hid (Calls Try.prog 22 #[.pointer (some ⟨g, 0, none⟩)] (tkW w f) fun e w' => e = .returned (.bool true) ∧ tkW w f = w') := made_ok (tk_start h f).did.inv
  have HA : Hid (Calls Try.prog 23 #[.pointer (some ⟨g, 0, none⟩), frval f] (tkW w f) fun e w' => e = .returned (.int .i64 0) ∧ ∃ v', Hid (Tk w f g v most o w' v' (addO o f))) := by
    have := tk_add h f hs
    rw [hE] at this
    refine this.mono ?_
    rintro e w' ⟨he, v', o', ht⟩
    have ho := ht.out.2 rfl
    subst ho
    exact ⟨he, v', ht.out.1⟩
  have HP : Hid (∀ W v', Tk w f g v most o W v' (addO o f) → ¬ sfoot g v' (w.heap.size + 1)) := fun W v' t => t.apart h (by omega) (by simp)
  generalize addO o f = o2 at *
  clear h hE hs
  obtain ⟨k, fl, id, b⟩ := f
  obtain ⟨i, fin, B⟩ := o2
  simp only at hw
  by_cases hi : i = 0
  · subst hi
    clear hw
    go_enter Try.func15, Try.ntmps15
    go_wp2_with fail
    refine Calls.mono HM.out ?_
    rintro e w1 ⟨rfl, rfl⟩
    clear HM
    go_wp2_with fail
    refine Calls.mono HA.out ?_
    rintro e w2 ⟨rfl, v1, H2⟩
    have hbl : Bl w2 g v1 most ⟨0, fin, B⟩ := H2.out.did.inv
    obtain ⟨d0, d1, d2, d3, df⟩ := hbl.cells
    obtain ⟨r0, r1, r2, r3⟩ := H2.out.res
    obtain ⟨b0, b1, b2, b3, _⟩ := H2.out.box
    simp only at d0 d1 d2 d3 b0 b1 b2 b3
    have hlt := H2.out.res.lt
    clear HA hbl
    go_wp2
    exact bodyPost_ret (v := takeV (noO, false, 0)) (by simp [results, Try.results15, go_sem, takeV, blockV, noO, *]) rfl ⟨rfl, _, by repeat (first | exact H2.out.end | refine Did.store ?_ (Nat.le_succ _) (HP.out _ _ H2.out) _)⟩
  · have g0 : (i == 0) = false := by simpa using hi
    have gw : (bits .and .i64 fl 4 == 0) = true := by
      rcases hw with hw | hw
      · exact absurd hw hi
      · unfold wholeB at hw
        simpa using hw
    generalize hfw : bits .and .i64 fl 4 = fw at *
    clear hw hi
    go_enter Try.func15, Try.ntmps15
    go_wp2_with fail
    refine Calls.mono HM.out ?_
    rintro e w1 ⟨rfl, rfl⟩
    clear HM
    go_wp2_with fail
    refine Calls.mono HA.out ?_
    rintro e w2 ⟨rfl, v1, H2⟩
    have hbl : Bl w2 g v1 most ⟨i, fin, B⟩ := H2.out.did.inv
    obtain ⟨d0, d1, d2, d3, df⟩ := hbl.cells
    obtain ⟨r0, r1, r2, r3⟩ := H2.out.res
    obtain ⟨b0, b1, b2, b3, _⟩ := H2.out.box
    simp only at d0 d1 d2 d3 b0 b1 b2 b3
    have hlt := H2.out.res.lt
    clear HA hbl
    go_wp2
    exact bodyPost_ret (v := takeV (noO, false, 0)) (by simp [results, Try.results15, go_sem, takeV, blockV, noO, *]) rfl ⟨rfl, _, by repeat (first | exact H2.out.end | refine Did.store ?_ (Nat.le_succ _) (HP.out _ _ H2.out) _)⟩

set_option maxRecDepth 100000 in
set_option maxHeartbeats 1000000 in
theorem take_whole {w : World} {g : Nat} {v : Value} {most : Nat} {o : Opn} (h : Bl w g v most o) (f : Frm) (hs : o.bytes.size + f.body.size ≤ 140737488355328) (hE : addE most o f = 0) (hi : (addO o f).id ≠ 0) (hw : wholeB f.flags = true) : Calls Try.prog 15 #[.pointer (some ⟨g, 0, none⟩), frval f] w fun e w' => e = .returned (takeV (addO o f, true, 0)) ∧ ∃ v', Did (blT g v most o) (blT g v' most noO) w w' := by
  have HM : Hid (Calls Try.prog 22 #[.pointer (some ⟨g, 0, none⟩)] (tkW w f) fun e w' => e = .returned (.bool true) ∧ tkW w f = w') := made_ok (tk_start h f).did.inv
  have HA : Hid (Calls Try.prog 23 #[.pointer (some ⟨g, 0, none⟩), frval f] (tkW w f) fun e w' => e = .returned (.int .i64 0) ∧ ∃ v', Hid (Tk w f g v most o w' v' (addO o f))) := by
    have := tk_add h f hs
    rw [hE] at this
    refine this.mono ?_
    rintro e w' ⟨he, v', o', ht⟩
    have ho := ht.out.2 rfl
    subst ho
    exact ⟨he, v', ht.out.1⟩
  have HS : Hid (∀ W v', Tk w f g v most o W v' (addO o f) → ∀ W2, Keeps nobody W W2 → ∀ r, Rs W2 r (addO o f) → W.heap.size ≤ r → Calls Try.prog 24 #[.pointer (some ⟨g, 0, none⟩)] W2 fun e w' => e = .returned (.tuple #[]) ∧ Hid (Tk w f g v most o w' (.slice none 0 0) noO) ∧ Rs w' r (addO o f)) := by
    intro W v' t W2 hk r hr hge
    have hbl : Bl W g v' most (addO o f) := t.did.inv
    have t2 : Tk w f g v most o W2 v' (addO o f) := t.step h (hbl.did hk)
    have hbl2 : Bl W2 g v' most (addO o f) := t2.did.inv
    refine (shut_ok hbl2).mono ?_
    rintro e w' ⟨he, hd⟩
    exact ⟨he, t2.step h hd, hr.keeps hd.keeps fun e => by
      have := blT_ok.lt (t := blT g v' most (addO o f)) hbl r e
      omega⟩
  have HP : Hid (∀ W v', Tk w f g v most o W v' noO → ¬ sfoot g v' (w.heap.size + 1)) := fun W v' t => t.apart h (by omega) (by simp)
  generalize addO o f = o2 at *
  clear h hE hs
  obtain ⟨k, fl, id, b⟩ := f
  obtain ⟨i, fin, B⟩ := o2
  have g0 : (i == 0) = false := by simpa using hi
  have gw : (bits .and .i64 fl 4 == 0) = false := by
    unfold wholeB at hw
    simpa using hw
  generalize hfw : bits .and .i64 fl 4 = fw at *
  clear hw hi
  go_enter Try.func15, Try.ntmps15
  go_wp2_with fail
  refine Calls.mono HM.out ?_
  rintro e w1 ⟨rfl, rfl⟩
  clear HM
  go_wp2_with fail
  refine Calls.mono HA.out ?_
  rintro e w2 ⟨rfl, v1, H2⟩
  have hbl : Bl w2 g v1 most ⟨i, fin, B⟩ := H2.out.did.inv
  obtain ⟨d0, d1, d2, d3, df⟩ := hbl.cells
  obtain ⟨b0, b1, b2, b3, _⟩ := H2.out.box
  have hcv : ∀ W, Keeps nobody w2 W → (convert 59 9 v1).run Try.prog W = .ok (.string B) W := by
    intro W hk
    rcases hbl.held with ⟨rfl, hB⟩ | ⟨rb, off, cap, rfl, hcap, hr, ht, hlt⟩
    · have hB' : B = ⟨#[]⟩ := hB
      subst hB'
      exact conv_none W
    · have := conv_to (cap := cap) hr hlt B.size (Nat.le_refl _) W hk
      rwa [extract_all B _ (Nat.le_refl _)] at this
  have hcv1 := hcv _ ((Keeps.refl nobody w2).drew)
  have hcv2 := hcv _ ((keeps_alloc w2 (.cells #[.int .i64 0, .string ⟨#[]⟩, .bool false] 41)).drew)
  obtain ⟨a0, a1, a2, a3, af⟩ := (hbl.quiet (keeps_alloc w2 (.cells #[.int .i64 0, .string ⟨#[]⟩, .bool false] 41))).cells
  simp only at d0 d1 d2 d3 b0 b1 b2 b3 a0 a1 a2 a3
  have hglt := hbl.lt
  clear HA hbl hcv
  go_wp2_with fail
  go_region
  all_goals
    clear d0 d1 d2 d3 df a0 a1 a2 a3 af b0 b1 b2 b3 hcv1 hcv2
    go_wp2_with fail
    refine Calls.mono (HS.out _ _ H2.out _ (by first | exact (keeps_alloc w2 _).drew | exact (Keeps.refl nobody w2).drew.alloc _) w2.heap.size (by first | exact (rs_new w2 ⟨i, fin, B⟩).keeps ((Keeps.refl nobody _).drew) (fun e => e) | exact rs_new w2.drew ⟨i, fin, B⟩) (Nat.le_refl _)) ?_
    rintro e w3 ⟨rfl, H3, hr3⟩
    obtain ⟨s0, s1, s2, _⟩ := hr3
    obtain ⟨r0, r1, r2, r3⟩ := H3.out.res
    simp only at s0 s1 s2
    have hlt := H3.out.res.lt
    clear HS H2
    go_wp2
    exact bodyPost_ret (v := takeV (⟨i, fin, B⟩, true, 0)) (by simp [results, Try.results15, go_sem, takeV, blockV, noO, *]) rfl ⟨rfl, _, by repeat (first | exact H3.out.end | refine Did.store ?_ (Nat.le_succ _) (HP.out _ _ H3.out) _)⟩
theorem take_ok {w : World} {g : Nat} {v : Value} {most : Nat} {o : Opn} (h : Bl w g v most o) (f : Frm) (hs : o.bytes.size + f.body.size ≤ 140737488355328) : Calls Try.prog 15 #[.pointer (some ⟨g, 0, none⟩), frval f] w fun e w' => e = .returned (takeV (takeA most o f).1) ∧ ∃ v', Did (blT g v most o) (blT g v' most (takeA most o f).2) w w' := by
  by_cases hE : addE most o f = 0
  · by_cases hw : (addO o f).id = 0 ∨ wholeB f.flags = false
    · rw [takeA, if_neg (fun e => e hE), if_pos hw]
      exact take_wait h f hs hE hw
    · rw [takeA, if_neg (fun e => e hE), if_neg hw]
      refine take_whole h f hs hE (fun e => hw (.inl e)) ?_
      cases hb : wholeB f.flags with
      | true => rfl
      | false => exact absurd (.inr hb) hw
  · rw [takeA, if_pos hE]
    exact take_bad h f hs hE
end Go.Proofs.Ytdpbnlamdgdljaa
