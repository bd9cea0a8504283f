/-
  Package block: add.
-/
import Derived.Test.YtdpbnlamdgdljaaJMem
namespace Go.Proofs.Ytdpbnlamdgdljaa
open Go.RowKit
attribute [local irreducible] numL byteAt endOf idOf nums str unpadA behind stripA checkA

/-- What a frame has of a block is put behind what is held. -/
theorem bl_append {w : World} {g : Nat} {v : Value} {most : Nat} {o : Opn} (h : Bl w g v most o) (b : ByteArray) (hs : o.bytes.size + b.size ≤ 140737488355328) (hi : o.id ≠ 0) (hm : o.bytes.size + b.size ≤ most) :
    ∃ a n c w1, (Builtin.append_ #[59, 9] 59 #[v, .string b]).run Try.prog w = .ok (.slice a n c) w1 ∧ w1.cell? ⟨g, 3, none⟩ = some v ∧ w1.frozen? ⟨g, 3, none⟩ = false ∧
      Hid (Did (blT g v most o) (blT g (.slice a n c) most ⟨o.id, o.fin, o.bytes ++ b⟩) w (w1.setCell ⟨g, 3, none⟩ (.slice a n c))) := by
  obtain ⟨a, c, w1, hr, hb, hg, hn⟩ := hb_append h.held b hs 59
  have hb1 : w1.heap[g]? = some (.cells #[.int .i64 (most : Int), .int .i64 o.id, .bool o.fin, v] 63 (0, 0)) := by
    rw [hg.block g h.lt fun e => h.apart e.symm]; exact h.blk
  refine ⟨a, _, c, w1, hr, by simp [World.cell?, hb1], by simp [World.frozen?, hb1], ?_⟩
  refine h.relay (o' := ⟨o.id, o.fin, o.bytes ++ b⟩) hg ?_ ((Keeps.refl (fun k => k = g) w1).setCell (p := ⟨g, 3, none⟩) (.inl rfl) _) hb hn (fun e => absurd e hi) (by show (o.bytes ++ b).size ≤ most; simpa using hm)
  simp [World.setCell, hb1, Array.getElem?_modify]
/-- A block is opened. -/
theorem bl_opened {w : World} {g : Nat} {v : Value} {most : Nat} {o : Opn} (h : Bl w g v most o) (i : Int) (e : Bool) (hi : i ≠ 0) :
    Did (blT g v most o) (blT g v most ⟨i, e, o.bytes⟩) w ((w.setCell ⟨g, 1, none⟩ (.int .i64 i)).setCell ⟨g, 2, none⟩ (.bool e)) := by
  refine h.relay (o' := ⟨i, e, o.bytes⟩) (World.grownBy.refl _ _) ?_ (((Keeps.refl (fun k => k = g) w).setCell (p := ⟨g, 1, none⟩) (.inl rfl) _).setCell (p := ⟨g, 2, none⟩) (.inl rfl) _) h.held (fun k e => .inl e) (fun e => absurd e hi) h.fits
  simp [World.setCell, h.blk, Array.getElem?_modify]

set_option maxRecDepth 100000 in
theorem add_bad {w : World} {g : Nat} (f : Frm) (hs : f.body.size ≤ 140737488355328) (hc : (checkA f).2 ≠ 0) : Calls Try.prog 23 #[.pointer (some ⟨g, 0, none⟩), frval f] w fun e w' => e = .returned (.int .i64 1) ∧ Keeps nobody w w' := by
  have HC : Hid (∀ w, Calls Try.prog 48 #[frval f] w fun e w' => e = .returned (checkV (checkA f)) ∧ Keeps nobody w w') := fun w => check_ok f w hs
  have g0 : ((checkA f).2 != 0) = true := by simpa using hc
  clear hc hs
  generalize checkA f = c at *
  obtain ⟨c1, c2⟩ := c
  obtain ⟨k, fl, id, b⟩ := f
  simp only at g0
  go_enter Try.func23, Try.ntmps23
  go_wp2_with fail
  refine Calls.mono (HC.out _) ?_
  rintro e w1 ⟨rfl, k1⟩
  go_wp2
  go_ret
  exact ⟨rfl, (keeps_alloc _ _).then k1⟩
set_option maxRecDepth 100000 in
theorem add_lost {w : World} {g : Nat} {v : Value} {most : Nat} {o : Opn} (h : Bl w g v most o) (f : Frm) (hs : f.body.size ≤ 140737488355328) (hc : (checkA f).2 = 0) (hf : followA o.id f = false) : Calls Try.prog 23 #[.pointer (some ⟨g, 0, none⟩), frval f] w fun e w' => e = .returned (.int .i64 11) ∧ Keeps nobody w w' := by
  have HC : Hid (∀ w, Calls Try.prog 48 #[frval f] w fun e w' => e = .returned (checkV (checkA f)) ∧ Keeps nobody w w') := fun w => check_ok f w hs
  have HF : Hid (∀ W, Keeps nobody w W → Calls Try.prog 49 #[.pointer (some ⟨g, 0, none⟩), frval f] W fun e w' => e = .returned (.bool false) ∧ Keeps nobody W w') := fun W hk => by
    have := follows_ok (h.quiet hk) f
    rwa [hf] at this
  clear h hs hf
  generalize checkA f = c at *
  obtain ⟨c1, c2⟩ := c
  obtain rfl : c2 = 0 := hc
  obtain ⟨k, fl, id, b⟩ := f
  have hbx := bx_new w ⟨k, fl, id, b⟩
  go_enter Try.func23, Try.ntmps23
  go_wp2_with fail
  refine Calls.mono (HC.out _) ?_
  rintro e w1 ⟨rfl, k1⟩
  obtain ⟨b0, b1, b2, b3, _⟩ := hbx.keeps k1 (fun h => h)
  simp only at b0 b1 b2 b3
  have kw := (keeps_alloc w _).then k1
  clear k1 HC hbx
  go_wp2_with fail
  refine Calls.mono (HF.out _ kw) ?_
  rintro e w2 ⟨rfl, k2⟩
  go_wp2
  go_ret
  exact ⟨rfl, kw.then k2⟩
set_option maxRecDepth 100000 in
theorem add_other {w : World} {g : Nat} {v : Value} {most : Nat} {o : Opn} (h : Bl w g v most o) (f : Frm) (hs : f.body.size ≤ 140737488355328) (hc : (checkA f).2 = 0) (hf : followA o.id f = true) (h1 : f.kind ≠ 1) (h9 : f.kind ≠ 9) : Calls Try.prog 23 #[.pointer (some ⟨g, 0, none⟩), frval f] w fun e w' => e = .returned (.int .i64 0) ∧ Keeps nobody w w' := by
  have HC : Hid (∀ w, Calls Try.prog 48 #[frval f] w fun e w' => e = .returned (checkV (checkA f)) ∧ Keeps nobody w w') := fun w => check_ok f w hs
  have HF : Hid (∀ W, Keeps nobody w W → Calls Try.prog 49 #[.pointer (some ⟨g, 0, none⟩), frval f] W fun e w' => e = .returned (.bool true) ∧ Keeps nobody W w') := fun W hk => by
    have := follows_ok (h.quiet hk) f
    rwa [hf] at this
  clear h hs hf
  generalize checkA f = c at *
  obtain ⟨c1, c2⟩ := c
  obtain rfl : c2 = 0 := hc
  obtain ⟨k, fl, id, b⟩ := f
  have g1 : (k != 1) = true := by simpa using h1
  have g9 : (k != 9) = true := by simpa using h9
  clear h1 h9
  have hbx := bx_new w ⟨k, fl, id, b⟩
  go_enter Try.func23, Try.ntmps23
  go_wp2_with fail
  refine Calls.mono (HC.out _) ?_
  rintro e w1 ⟨rfl, k1⟩
  have HX := hid (hbx.keeps (S := nobody) k1 (fun h => h))
  obtain ⟨b0, b1, b2, b3, _⟩ := HX.out
  simp only at b0 b1 b2 b3
  have kw := (keeps_alloc w _).then k1
  clear k1 HC
  go_wp2_with fail
  refine Calls.mono (HF.out _ kw) ?_
  rintro e w2 ⟨rfl, k2⟩
  obtain ⟨b0, b1, b2, b3, _⟩ := HX.out.keeps k2 (fun h => h)
  simp only at b0 b1 b2 b3
  have kw2 := kw.then k2
  clear k2 kw HF HX hbx
  go_wp2
  go_ret
  exact ⟨rfl, kw2⟩

set_option maxRecDepth 100000 in
theorem add_big {w : World} {g : Nat} {v : Value} {most : Nat} {o : Opn} (h : Bl w g v most o) (f : Frm) (hs : f.body.size ≤ 140737488355328) (hc : (checkA f).2 = 0) (hf : followA o.id f = true) (hk : f.kind = 1 ∨ f.kind = 9) (hb : most < o.bytes.size + (partA f).size) : Calls Try.prog 23 #[.pointer (some ⟨g, 0, none⟩), frval f] w fun e w' => e = .returned (.int .i64 5) ∧ Keeps nobody w w' := by
  have HC : Hid (∀ w, Calls Try.prog 48 #[frval f] w fun e w' => e = .returned (checkV (checkA f)) ∧ Keeps nobody w w') := fun w => check_ok f w hs
  have HS : Hid (∀ w, Calls Try.prog 50 #[frval f] w fun e w' => e = .returned (stripV (stripA f.kind (padB f.flags) (weighB f.flags) f.body)) ∧ Keeps nobody w w') := fun w => strip_ok f w hs
  have HF : Hid (∀ W, Keeps nobody w W → Calls Try.prog 49 #[.pointer (some ⟨g, 0, none⟩), frval f] W fun e w' => e = .returned (.bool true) ∧ Keeps nobody W w') := fun W hk => by
    have := follows_ok (h.quiet hk) f
    rwa [hf] at this
  have hp := partA_size f
  obtain ⟨a, c, rfl, hcap⟩ := h.held.slice
  have HB := hid h
  have hm1 := h.bound.2
  have hfit := h.fits
  have hlt := h.lt
  generalize hn : o.bytes.size = n at *
  unfold partA at hb hp
  clear h hf hn
  generalize stripA f.kind (padB f.flags) (weighB f.flags) f.body = s at *
  generalize checkA f = c at *
  obtain ⟨c1, c2⟩ := c
  obtain rfl : c2 = 0 := hc
  obtain ⟨sb, sn, se⟩ := s
  obtain ⟨k, fl, id, b⟩ := f
  simp only at hk hb hp hs
  have hbx := bx_new w ⟨k, fl, id, b⟩
  have hsub : (most : Int) - (n : Int) = ((most - n : Nat) : Int) := by omega
  have hgt : ((most - n : Nat) : Int) < (sb.size : Int) := by omega
  have hz : sb.size ≤ 140737488355328 := by omega
  rcases hk with rfl | rfl
  all_goals
    go_enter Try.func23, Try.ntmps23
    go_wp2_with fail
    refine Calls.mono (HC.out _) ?_
    rintro e w1 ⟨rfl, k1⟩
    have HX := hid (hbx.keeps (S := nobody) k1 (fun h => h))
    obtain ⟨b0, b1, b2, b3, _⟩ := HX.out
    simp only at b0 b1 b2 b3
    have kw := (keeps_alloc w _).then k1
    clear k1 HC
    go_wp2_with fail
    refine Calls.mono (HF.out _ kw) ?_
    rintro e w2 ⟨rfl, k2⟩
    have HX := hid (HX.out.keeps (S := nobody) k2 (fun h => h))
    obtain ⟨b0, b1, b2, b3, _⟩ := HX.out
    simp only at b0 b1 b2 b3
    have kw2 := kw.then k2
    clear k2 kw HF
    go_wp2_with fail
    refine Calls.mono (HS.out _) ?_
    rintro e w3 ⟨rfl, k3⟩
    have kw3 := kw2.then k3
    obtain ⟨d0, _, _, d3, _⟩ := (HB.out.quiet kw3).cells
    clear k3 kw2 HS HX b0 b1 b2 b3
    go_wp2_with fail
    go_quiet (fail)
    go_wp2
    go_ret
    exact ⟨rfl, kw3.drewN _⟩

set_option maxRecDepth 100000 in
theorem add_more {w : World} {g : Nat} {v : Value} {most : Nat} {o : Opn} (h : Bl w g v most o) (f : Frm) (hs : o.bytes.size + f.body.size ≤ 140737488355328) (hc : (checkA f).2 = 0) (hf : followA o.id f = true) (hk : f.kind = 9) (hi : o.id ≠ 0) (hb : ¬ most < o.bytes.size + (partA f).size) : Calls Try.prog 23 #[.pointer (some ⟨g, 0, none⟩), frval f] w fun e w' => e = .returned (.int .i64 0) ∧ ∃ v', Did (blT g v most o) (blT g v' most ⟨o.id, o.fin, o.bytes ++ partA f⟩) w w' := by
  have HC : Hid (∀ w, Calls Try.prog 48 #[frval f] w fun e w' => e = .returned (checkV (checkA f)) ∧ Keeps nobody w w') := fun w => check_ok f w (by omega)
  have HS : Hid (∀ w, Calls Try.prog 50 #[frval f] w fun e w' => e = .returned (stripV (stripA f.kind (padB f.flags) (weighB f.flags) f.body)) ∧ Keeps nobody w w') := fun w => strip_ok f w (by omega)
  have HF : Hid (∀ W, Keeps nobody w W → Calls Try.prog 49 #[.pointer (some ⟨g, 0, none⟩), frval f] W fun e w' => e = .returned (.bool true) ∧ Keeps nobody W w') := fun W hk => by
    have := follows_ok (h.quiet hk) f
    rwa [hf] at this
  have hp := partA_size f
  have HA : Hid (∀ W, Keeps nobody w W → ∃ a n c w1, (Builtin.append_ #[59, 9] 59 #[v, .string (partA f)]).run Try.prog W = .ok (.slice a n c) w1 ∧ w1.cell? ⟨g, 3, none⟩ = some v ∧ w1.frozen? ⟨g, 3, none⟩ = false ∧
      Hid (Did (blT g v most o) (blT g (.slice a n c) most ⟨o.id, o.fin, o.bytes ++ partA f⟩) W (w1.setCell ⟨g, 3, none⟩ (.slice a n c)))) := fun W hk => bl_append (h.quiet hk) (partA f) (by omega) hi (by omega)
  obtain ⟨a, c, rfl, hcap⟩ := h.held.slice
  have HB := hid h
  have hm1 := h.bound.2
  have hfit := h.fits
  have hlt := h.lt
  generalize hP : (fun (v' : Value) (W : World) => Did (blT g (.slice a o.bytes.size c) most o) (blT g v' most ⟨o.id, o.fin, o.bytes ++ partA f⟩) w W) = P
  have HP : Hid (∀ W v' W', Keeps nobody w W → Did (blT g (.slice a o.bytes.size c) most o) (blT g v' most ⟨o.id, o.fin, o.bytes ++ partA f⟩) W W' → P v' W') := fun W v' W' hk hd => by
    rw [← hP]; exact Did.before hk hd
  have HQ : Hid (∀ v' W, P v' W → Did (blT g (.slice a o.bytes.size c) most o) (blT g v' most ⟨o.id, o.fin, o.bytes ++ partA f⟩) w W) := fun v' W hp => by rw [← hP] at hp; exact hp
  refine Calls.mono (R := fun e w' => e = .returned (.int .i64 0) ∧ ∃ v', P v' w') ?_ fun e w' ⟨he, v', hv⟩ => ⟨he, v', HQ.out _ _ hv⟩
  clear HQ hP
  generalize hn : o.bytes.size = n at *
  unfold partA at hb hp
  clear h hf hn
  obtain ⟨k, fl, id, b⟩ := f
  simp only at hk hb hp hs
  subst hk
  generalize hss : stripA 9 (padB fl) (weighB fl) b = s at *
  obtain ⟨sb, sn, se⟩ := s
  have hpp : partA ⟨9, fl, id, b⟩ = sb := by unfold partA; rw [hss]
  rw [hpp] at HA HP
  clear hpp hss
  generalize checkA ⟨9, fl, id, b⟩ = c at *
  obtain ⟨c1, c2⟩ := c
  obtain rfl : c2 = 0 := hc
  simp only at hb hp
  have hbx := bx_new w ⟨9, fl, id, b⟩
  have hsub : (most : Int) - (n : Int) = ((most - n : Nat) : Int) := by omega
  have hgt : ¬ ((most - n : Nat) : Int) < (sb.size : Int) := by omega
  have hz : sb.size ≤ 140737488355328 := by omega
  go_enter Try.func23, Try.ntmps23
  go_wp2_with fail
  refine Calls.mono (HC.out _) ?_
  rintro e w1 ⟨rfl, k1⟩
  have HX := hid (hbx.keeps (S := nobody) k1 (fun h => h))
  obtain ⟨b0, b1, b2, b3, _⟩ := HX.out
  simp only at b0 b1 b2 b3
  have kw := (keeps_alloc w _).then k1
  clear k1 HC
  go_wp2_with fail
  refine Calls.mono (HF.out _ kw) ?_
  rintro e w2 ⟨rfl, k2⟩
  have HX := hid (HX.out.keeps (S := nobody) k2 (fun h => h))
  obtain ⟨b0, b1, b2, b3, _⟩ := HX.out
  simp only at b0 b1 b2 b3
  have kw2 := kw.then k2
  clear k2 kw HF
  go_wp2_with fail
  refine Calls.mono (HS.out _) ?_
  rintro e w3 ⟨rfl, k3⟩
  have HX := hid (HX.out.keeps (S := nobody) k3 (fun h => h))
  have kw3 := kw2.then k3
  obtain ⟨d0, _, _, d3, _⟩ := (HB.out.quiet kw3).cells
  clear k3 kw2 HS b0 b1 b2 b3
  go_wp2_with fail
  go_quiet (fail)
  have kw4 := kw3.drewN nq
  obtain ⟨b0, b1, b2, b3, _⟩ := HX.out.keeps ((Keeps.refl nobody w3).drewN nq) (fun h => h)
  simp only at b0 b1 b2 b3
  obtain ⟨d0, _, _, d3, _⟩ := (HB.out.quiet kw4).cells
  obtain ⟨a2, n2, c2, w5, hr, hc5, hf5, HD⟩ := HA.out _ kw4
  have HR := hid hr
  clear hr HA
  go_wp2_with (at_builtin; refine wpList_append_run rfl _ _ 59 9 rfl _ (.string sb) rfl rfl HR.out ?_)
  go_ret
  exact ⟨rfl, _, HP.out _ _ _ kw4 HD.out⟩
set_option maxRecDepth 100000 in
theorem add_head {w : World} {g : Nat} {v : Value} {most : Nat} {o : Opn} (h : Bl w g v most o) (f : Frm) (hs : o.bytes.size + f.body.size ≤ 140737488355328) (hc : (checkA f).2 = 0) (hf : followA o.id f = true) (hk : f.kind = 1) (hb : ¬ most < o.bytes.size + (partA f).size) : Calls Try.prog 23 #[.pointer (some ⟨g, 0, none⟩), frval f] w fun e w' => e = .returned (.int .i64 0) ∧ ∃ v', Did (blT g v most o) (blT g v' most ⟨f.id, endB f.flags, o.bytes ++ partA f⟩) w w' := by
  have HC : Hid (∀ w, Calls Try.prog 48 #[frval f] w fun e w' => e = .returned (checkV (checkA f)) ∧ Keeps nobody w w') := fun w => check_ok f w (by omega)
  have HS : Hid (∀ w, Calls Try.prog 50 #[frval f] w fun e w' => e = .returned (stripV (stripA f.kind (padB f.flags) (weighB f.flags) f.body)) ∧ Keeps nobody w w') := fun w => strip_ok f w (by omega)
  have HF : Hid (∀ W, Keeps nobody w W → Calls Try.prog 49 #[.pointer (some ⟨g, 0, none⟩), frval f] W fun e w' => e = .returned (.bool true) ∧ Keeps nobody W w') := fun W hk => by
    have := follows_ok (h.quiet hk) f
    rwa [hf] at this
  have hp := partA_size f
  have hid0 : f.id ≠ 0 := fun e0 => by
    have := check_placed f hc
    rw [hk, e0] at this
    exact absurd this (by decide)
  have HA : Hid (∀ W, Keeps nobody w W → Bl ((W.setCell ⟨g, 1, none⟩ (.int .i64 f.id)).setCell ⟨g, 2, none⟩ (.bool (endB f.flags))) g v most ⟨f.id, endB f.flags, o.bytes⟩ ∧ ∃ a n c w1, (Builtin.append_ #[59, 9] 59 #[v, .string (partA f)]).run Try.prog ((W.setCell ⟨g, 1, none⟩ (.int .i64 f.id)).setCell ⟨g, 2, none⟩ (.bool (endB f.flags))) = .ok (.slice a n c) w1 ∧ w1.cell? ⟨g, 3, none⟩ = some v ∧ w1.frozen? ⟨g, 3, none⟩ = false ∧
      Hid (Did (blT g v most o) (blT g (.slice a n c) most ⟨f.id, endB f.flags, o.bytes ++ partA f⟩) W (w1.setCell ⟨g, 3, none⟩ (.slice a n c)))) := fun W hkW => by
    have hd := bl_opened (h.quiet hkW) f.id (endB f.flags) hid0
    obtain ⟨a, n, c, w1, h1, h2, h3, h4⟩ := bl_append hd.inv (partA f) (by show o.bytes.size + _ ≤ _; omega) hid0 (by show o.bytes.size + _ ≤ _; omega)
    exact ⟨hd.inv, a, n, c, w1, h1, h2, h3, hd.trans h4.out⟩
  obtain ⟨a, c, rfl, hcap⟩ := h.held.slice
  have HB := hid h
  have hm1 := h.bound.2
  have hfit := h.fits
  have hlt := h.lt
  generalize hP : (fun (v' : Value) (W : World) => Did (blT g (.slice a o.bytes.size c) most o) (blT g v' most ⟨f.id, endB f.flags, o.bytes ++ partA f⟩) w W) = P
  have HP : Hid (∀ W v' W', Keeps nobody w W → Did (blT g (.slice a o.bytes.size c) most o) (blT g v' most ⟨f.id, endB f.flags, o.bytes ++ partA f⟩) W W' → P v' W') := fun W v' W' hk hd => by
    rw [← hP]; exact Did.before hk hd
  have HQ : Hid (∀ v' W, P v' W → Did (blT g (.slice a o.bytes.size c) most o) (blT g v' most ⟨f.id, endB f.flags, o.bytes ++ partA f⟩) w W) := fun v' W hp => by rw [← hP] at hp; exact hp
  refine Calls.mono (R := fun e w' => e = .returned (.int .i64 0) ∧ ∃ v', P v' w') ?_ fun e w' ⟨he, v', hv⟩ => ⟨he, v', HQ.out _ _ hv⟩
  clear HQ hP
  generalize hn : o.bytes.size = n at *
  unfold partA at hb hp
  clear h hf hn hid0
  obtain ⟨k, fl, id, b⟩ := f
  simp only at hk hb hp hs
  subst hk
  generalize hss : stripA 1 (padB fl) (weighB fl) b = s at *
  obtain ⟨sb, sn, se⟩ := s
  have hpp : partA ⟨1, fl, id, b⟩ = sb := by unfold partA; rw [hss]
  rw [hpp] at HA HP
  clear hpp hss
  generalize checkA ⟨1, fl, id, b⟩ = c at *
  obtain ⟨c1, c2⟩ := c
  obtain rfl : c2 = 0 := hc
  simp only at hb hp
  have hbx := bx_new w ⟨1, fl, id, b⟩
  have hsub : (most : Int) - (n : Int) = ((most - n : Nat) : Int) := by omega
  have hgt : ¬ ((most - n : Nat) : Int) < (sb.size : Int) := by omega
  have hz : sb.size ≤ 140737488355328 := by omega
  go_enter Try.func23, Try.ntmps23
  go_wp2_with fail
  refine Calls.mono (HC.out _) ?_
  rintro e w1 ⟨rfl, k1⟩
  have HX := hid (hbx.keeps (S := nobody) k1 (fun h => h))
  obtain ⟨b0, b1, b2, b3, _⟩ := HX.out
  simp only at b0 b1 b2 b3
  have kw := (keeps_alloc w _).then k1
  clear k1 HC
  go_wp2_with fail
  refine Calls.mono (HF.out _ kw) ?_
  rintro e w2 ⟨rfl, k2⟩
  have HX := hid (HX.out.keeps (S := nobody) k2 (fun h => h))
  obtain ⟨b0, b1, b2, b3, _⟩ := HX.out
  simp only at b0 b1 b2 b3
  have kw2 := kw.then k2
  clear k2 kw HF
  go_wp2_with fail
  refine Calls.mono (HS.out _) ?_
  rintro e w3 ⟨rfl, k3⟩
  have HX := hid (HX.out.keeps (S := nobody) k3 (fun h => h))
  have kw3 := kw2.then k3
  obtain ⟨d0, d1, d2, d3, df⟩ := (HB.out.quiet kw3).cells
  clear k3 kw2 HS b0 b1 b2 b3
  obtain ⟨b0, b1, b2, b3, _⟩ := HX.out
  simp only at b0 b1 b2 b3
  go_wp2_with fail
  go_quiet (fail)
  have kw4 := kw3.drewN nq
  obtain ⟨hbl, a2, n2, c2, w5, hr, hc5, hf5, HD⟩ := HA.out _ kw4.drew
  obtain ⟨_, _, _, e3, _⟩ := hbl.cells
  have HR := hid hr
  clear hr HA hbl
  generalize bits .and .i64 fl 1 = fe at *
  go_wp2_with fail
  go_region
  go_wp2_with (at_builtin; refine wpList_append_run rfl _ _ 59 9 rfl _ (.string sb) rfl rfl HR.out ?_)
  go_ret
  exact ⟨rfl, _, HP.out _ _ _ kw4.drew HD.out⟩
theorem add_ok {w : World} {g : Nat} {v : Value} {most : Nat} {o : Opn} (h : Bl w g v most o) (f : Frm) (hs : o.bytes.size + f.body.size ≤ 140737488355328) : Calls Try.prog 23 #[.pointer (some ⟨g, 0, none⟩), frval f] w fun e w' => e = .returned (.int .i64 (addE most o f)) ∧ ∃ v' o', Did (blT g v most o) (blT g v' most o') w w' ∧ (addE most o f = 0 → o' = addO o f) := by
  by_cases hc : (checkA f).2 = 0
  · cases hf : followA o.id f with
    | false =>
      have e : addE most o f = 11 := by rw [addE, if_neg (fun h => h hc), if_pos hf]
      rw [e]
      exact (add_lost h f (by omega) hc hf).mono fun e w' ⟨he, hk⟩ => ⟨he, v, o, h.did hk, fun e0 => by cases e0⟩
    | true =>
      by_cases hk : f.kind = 1 ∨ f.kind = 9
      · by_cases hb : most < o.bytes.size + (partA f).size
        · have e : addE most o f = 5 := by rw [addE, if_neg (fun h => h hc), if_neg (by simp [hf]), if_pos hk, if_pos hb]
          rw [e]
          exact (add_big h f (by omega) hc hf hk hb).mono fun e w' ⟨he, hk⟩ => ⟨he, v, o, h.did hk, fun e0 => by cases e0⟩
        · have e : addE most o f = 0 := by rw [addE, if_neg (fun h => h hc), if_neg (by simp [hf]), if_pos hk, if_neg hb]
          rw [e]
          rcases hk with hk | hk
          · refine (add_head h f hs hc hf hk hb).mono fun e w' ⟨he, v', hd⟩ => ⟨he, v', _, hd, fun _ => ?_⟩
            rw [addO, if_pos hk]
          · have hi : o.id ≠ 0 := fun e0 => by
              rw [followA, if_pos e0] at hf
              simp [hk] at hf
            refine (add_more h f hs hc hf hk hi hb).mono fun e w' ⟨he, v', hd⟩ => ⟨he, v', _, hd, fun _ => ?_⟩
            rw [addO, if_neg (by omega), if_pos hk]
      · have e : addE most o f = 0 := by rw [addE, if_neg (fun h => h hc), if_neg (by simp [hf]), if_neg hk]
        rw [e]
        refine (add_other h f (by omega) hc hf (fun e => hk (.inl e)) (fun e => hk (.inr e))).mono fun e w' ⟨he, hk2⟩ => ⟨he, v, o, h.did hk2, fun _ => ?_⟩
        rw [addO, if_neg (fun e => hk (.inl e)), if_neg (fun e => hk (.inr e))]
  · have e : addE most o f = 1 := by rw [addE, if_pos hc]
    rw [e]
    exact (add_bad f (by omega) hc).mono fun e w' ⟨he, hk⟩ => ⟨he, v, o, h.did hk, fun e0 => by cases e0⟩
end Go.Proofs.Ytdpbnlamdgdljaa
