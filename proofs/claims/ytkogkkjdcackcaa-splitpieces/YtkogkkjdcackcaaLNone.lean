/-
  Package split: Next, where no frame is whole; where one is.
-/
import Derived.Test.YtkogkkjdcackcaaLNext
namespace Go.Proofs.Ytkogkkjdcackcaa
open Go.RowKit
attribute [local irreducible] numL byteAt endOf idOf nums str num3 great whole firstA

set_option maxRecDepth 100000 in
theorem next_empty {w : World} {g : Nat} {most : Nat} (h : Sp w g (.slice none 0 0) most false ⟨#[]⟩) : Calls Try.prog 11 #[.pointer (some ⟨g, 0, none⟩)] w fun e w' => e = .returned (nextV (noF, false, 0)) ∧ Keeps nobody w w' := by
  have hk := keeps_alloc w (frobj 0 0 0 ⟨#[]⟩)
  have h1 := h.quiet hk
  have HM : Hid (Calls Try.prog 19 #[.pointer (some ⟨g, 0, none⟩)] (w.alloc (frobj 0 0 0 ⟨#[]⟩)) fun e w' => e = .returned (.bool true) ∧ w.alloc (frobj 0 0 0 ⟨#[]⟩) = w') := made_ok h1
  have HL : Hid (Calls Try.prog 20 #[.pointer (some ⟨g, 0, none⟩)] (w.alloc (frobj 0 0 0 ⟨#[]⟩)) fun e w' => e = .returned (.bool false) ∧ Sp w' g (.slice none 0 0) most false ⟨#[]⟩ ∧ Keeps nobody w w' ∧ Bx w' w.heap.size noF) := by
    refine (long_few h1 (by decide)).mono ?_
    rintro e w' ⟨he, kk⟩
    exact ⟨he, h1.quiet kk, hk.then kk, (bx_new w noF).keeps kk fun h => h⟩
  have hm := h.most.2
  have hadd : (9 : Int) + (most : Int) = ((9 + most : Nat) : Int) := by omega
  have hQ : 9 + most ≤ 521 := by omega
  generalize 9 + most = Q at *
  have hmin : ∀ (ts : Array TypeId) (t : TypeId) (W : World), (Builtin.min_ ts t #[.int .i64 0, .int .i64 (Q : Int)]).run Try.prog W = .ok (.int .i64 0) W := fun ts t W => by
    have := min_nat 0 Q ts t W
    simpa using this
  have hsl := slice_none
  have hcv := conv_none
  have HG : Hid (∀ W, Calls Try.prog 21 #[.string ⟨#[]⟩] W fun e w' => e = .returned (.tuple #[.agg #[.int .i64 0, .int .i64 0, .int .i64 0, .string ⟨#[]⟩], .int .i64 0, .int .i64 2]) ∧ Keeps nobody W w') := fun W => by
    have := get_ok ⟨#[]⟩ W (by decide)
    rwa [getA, if_neg (by unfold whole; exact fun h => absurd h.1 (by decide))] at this
  clear h h1 hk
  go_enter Try.func11, Try.ntmps11
  go_wp2_with fail
  refine Calls.mono HM.out ?_
  rintro e w1 ⟨rfl, rfl⟩
  go_wp2_with fail
  refine Calls.mono HL.out ?_
  rintro e w1 ⟨rfl, hs, kk, hz⟩
  obtain ⟨c0, c1, c2, c3⟩ := hs.cells
  have HK := hid kk
  have HZ := hid hz
  clear kk HM HL hs hz
  go_wp2_with fail
  go_quiet (fail)
  go_wp2_with fail
  refine Calls.mono (HG.out _) ?_
  rintro e w2 ⟨rfl, k2⟩
  obtain ⟨z0, z1, z2, z3, z4⟩ := (HZ.out.keeps (S := nobody) ((Keeps.refl _ _).drewN nq) (fun h => h)).keeps k2 (fun h => h)
  have hlt := World.block_lt_of_cell? w2 _ z0
  have KK := hid ((HK.out.drewN nq).then k2)
  clear k2 HG
  go_wp2
  exact bodyPost_ret (v := nextV (noF, false, 0)) (by simp [results, Try.results11, go_sem, nextV, noF, *]) rfl ⟨rfl, by repeat (first | exact KK.out | refine Keeps.alloc ?_ _ | refine Keeps.setCell ?_ (.inr (Nat.le_refl _)) _)⟩

set_option maxRecDepth 100000 in
theorem next_none {w : World} {g rb off cap : Nat} {most : Nat} {B : ByteArray} (h : Sp w g (.slice (some ⟨rb, off, none⟩) B.size cap) most false B) (hg : ¬ great most B) (hw : ¬ whole B) : Calls Try.prog 11 #[.pointer (some ⟨g, 0, none⟩)] w fun e w' => e = .returned (nextV (noF, false, 0)) ∧ Keeps nobody w w' := by
  have hk := keeps_alloc w (frobj 0 0 0 ⟨#[]⟩)
  have h1 := h.quiet hk
  have HM : Hid (Calls Try.prog 19 #[.pointer (some ⟨g, 0, none⟩)] (w.alloc (frobj 0 0 0 ⟨#[]⟩)) fun e w' => e = .returned (.bool true) ∧ w.alloc (frobj 0 0 0 ⟨#[]⟩) = w') := made_ok h1
  have HL : Hid (Calls Try.prog 20 #[.pointer (some ⟨g, 0, none⟩)] (w.alloc (frobj 0 0 0 ⟨#[]⟩)) fun e w' => e = .returned (.bool false) ∧ Sp w' g (.slice (some ⟨rb, off, none⟩) B.size cap) most false B ∧ Keeps nobody w w' ∧ Bx w' w.heap.size noF) := by
    have := long_ok h1
    rw [decide_eq_false hg] at this
    refine this.mono ?_
    rintro e w' ⟨he, kk⟩
    exact ⟨he, h1.quiet kk, hk.then kk, (bx_new w noF).keeps kk fun h => h⟩
  have hm := h.most.2
  have hsm := h.small
  have hglt := h.lt
  have hrbg : rb ≠ g := fun e => h.apart (by rw [e]; rfl)
  have hx := h.held
  rcases hx with ⟨hx, _⟩ | ⟨rb', off', cap', hx, hcap, hr, ht, hlt⟩
  · cases hx
  cases hx
  have hcut := get_cut most B hg
  have hadd : (9 : Int) + (most : Int) = ((9 + most : Nat) : Int) := by omega
  have hQ : 9 + most ≤ 521 := by omega
  generalize 9 + most = Q at *
  have hmin := min_nat B.size Q
  have hq : min B.size Q ≤ B.size := Nat.min_le_left _ _
  have hq2 : min B.size Q ≤ Q := Nat.min_le_right _ _
  generalize min B.size Q = q at *
  have hsl := slice_to rb off B.size cap q (by omega)
  have HC : Hid (∀ W, Keeps nobody w W → (convert 46 9 (.slice (some ⟨rb, off, none⟩) q cap)).run Try.prog W = .ok (.string (B.extract 0 q)) W) := fun W hW => conv_to hr hlt q hq W hW
  have HF : Hid (∀ W, Calls Try.prog 21 #[.string (B.extract 0 q)] W fun e w' => e = .returned (getV (getA B)) ∧ Keeps nobody W w') := fun W => by
    have := get_ok (B.extract 0 q) W (by rw [extract_size _ _ _ hq]; omega)
    rwa [hcut] at this
  generalize B.extract 0 q = FB at *
  have HG : Hid (∀ W, Calls Try.prog 21 #[.string FB] W fun e w' => e = .returned (.tuple #[.agg #[.int .i64 0, .int .i64 0, .int .i64 0, .string ⟨#[]⟩], .int .i64 0, .int .i64 2]) ∧ Keeps nobody W w') := fun W => by
    have := HF.out W
    rwa [getA, if_neg hw] at this
  clear h h1 hk hg hw hcut HF
  go_enter Try.func11, Try.ntmps11
  go_wp2_with fail
  refine Calls.mono HM.out ?_
  rintro e w1 ⟨rfl, rfl⟩
  go_wp2_with fail
  refine Calls.mono HL.out ?_
  rintro e w1 ⟨rfl, hs, kk, hz⟩
  obtain ⟨c0, c1, c2, c3⟩ := hs.cells
  have HK := hid kk
  have HZ := hid hz
  have HS := hid hs
  clear kk HM HL hs hz
  go_wp2_with fail
  go_quiet (fail)
  have hcv := HC.out (w1.drewN nq) (HK.out.drewN nq)
  clear HC
  go_wp2_with fail
  refine Calls.mono (HG.out _) ?_
  rintro e w2 ⟨rfl, k2⟩
  obtain ⟨z0, z1, z2, z3, z4⟩ := (HZ.out.keeps (S := nobody) ((Keeps.refl _ _).drewN nq) (fun h => h)).keeps k2 (fun h => h)
  have hltz := World.block_lt_of_cell? w2 _ z0
  have KK := hid ((HK.out.drewN nq).then k2)
  clear k2 HG
  go_wp2
  exact bodyPost_ret (v := nextV (noF, false, 0)) (by simp [results, Try.results11, go_sem, nextV, noF, *]) rfl ⟨rfl, by repeat (first | exact KK.out | refine Keeps.alloc ?_ _ | refine Keeps.setCell ?_ (.inr (Nat.le_refl _)) _)⟩

set_option maxRecDepth 100000 in
set_option maxHeartbeats 1000000 in
theorem next_some {w : World} {g rb off cap : Nat} {most : Nat} {B : ByteArray} (h : Sp w g (.slice (some ⟨rb, off, none⟩) B.size cap) most false B) (hg : ¬ great most B) (hw : whole B) : Calls Try.prog 11 #[.pointer (some ⟨g, 0, none⟩)] w fun e w' => e = .returned (nextV (firstA B, true, 0)) ∧ ∃ v', Did (spT g (.slice (some ⟨rb, off, none⟩) B.size cap) most false B) (spT g v' most false (restA B)) w w' := by
  have hk := keeps_alloc w (frobj 0 0 0 ⟨#[]⟩)
  have h1 := h.quiet hk
  have HM : Hid (Calls Try.prog 19 #[.pointer (some ⟨g, 0, none⟩)] (w.alloc (frobj 0 0 0 ⟨#[]⟩)) fun e w' => e = .returned (.bool true) ∧ w.alloc (frobj 0 0 0 ⟨#[]⟩) = w') := made_ok h1
  have HL : Hid (Calls Try.prog 20 #[.pointer (some ⟨g, 0, none⟩)] (w.alloc (frobj 0 0 0 ⟨#[]⟩)) fun e w' => e = .returned (.bool false) ∧ Sp w' g (.slice (some ⟨rb, off, none⟩) B.size cap) most false B ∧ Keeps nobody w w' ∧ Bx w' w.heap.size noF) := by
    have := long_ok h1
    rw [decide_eq_false hg] at this
    refine this.mono ?_
    rintro e w' ⟨he, kk⟩
    exact ⟨he, h1.quiet kk, hk.then kk, (bx_new w noF).keeps kk fun h => h⟩
  have hm := h.most.2
  have hsm := h.small
  have hglt := h.lt
  have hrbg : rb ≠ g := fun e => h.apart (by rw [e]; rfl)
  have hx := h.held
  rcases hx with ⟨hx, _⟩ | ⟨rb', off', cap', hx, hcap, hr, ht, hlt⟩
  · cases hx
  cases hx
  have hcut := get_cut most B hg
  have hadd : (9 : Int) + (most : Int) = ((9 + most : Nat) : Int) := by omega
  have hQ : 9 + most ≤ 521 := by omega
  generalize 9 + most = Q at *
  have hmin := min_nat B.size Q
  have hq : min B.size Q ≤ B.size := Nat.min_le_left _ _
  have hq2 : min B.size Q ≤ Q := Nat.min_le_right _ _
  generalize min B.size Q = q at *
  have hsl := slice_to rb off B.size cap q (by omega)
  have HC : Hid (∀ W, Keeps nobody w W → (convert 46 9 (.slice (some ⟨rb, off, none⟩) q cap)).run Try.prog W = .ok (.string (B.extract 0 q)) W) := fun W hW => conv_to hr hlt q hq W hW
  have HF : Hid (∀ W, Calls Try.prog 21 #[.string (B.extract 0 q)] W fun e w' => e = .returned (getV (getA B)) ∧ Keeps nobody W w') := fun W => by
    have := get_ok (B.extract 0 q) W (by rw [extract_size _ _ _ hq]; omega)
    rwa [hcut] at this
  generalize B.extract 0 q = FB at *
  have he : endOf B ≤ B.size := by unfold whole at hw; exact hw.2
  have HG : Hid (∀ W, Calls Try.prog 21 #[.string FB] W fun e w' => e = .returned (.tuple #[frval (firstA B), .int .i64 (endOf B : Int), .int .i64 0]) ∧ Keeps nobody W w') := fun W => by
    have := HF.out W
    rwa [getA, if_pos hw] at this
  obtain ⟨off2, hsd, hbd⟩ := hb_drop hcap hr ht hlt (endOf B) he
  have HD : Hid (∀ W, W.heap[g]? = some (.cells #[.int .i64 (most : Int), .bool false, .slice (some ⟨rb, off2, none⟩) (B.size - endOf B) (cap - endOf B)] 49 (0, 0)) → Keeps (fun k => k = g) w W → ∃ v', Did (spT g (.slice (some ⟨rb, off, none⟩) B.size cap) most false B) (spT g v' most false (restA B)) w W) := fun W hb hW => by
    refine ⟨_, h.relay (w1 := w) (World.grownBy.refl _ _) hb hW hbd (fun k e => .inl e) (fun e => by cases e) ?_⟩
    rw [restA, extract_size _ _ _ (Nat.le_refl _)]
    omega
  clear h h1 hk hg hw hcut HF hbd hr ht
  generalize firstA B = f at *
  generalize endOf B = E at *
  obtain ⟨fk, ff, fi, fb⟩ := f
  generalize B.size - E = n2 at *
  generalize cap - E = cap2 at *
  go_enter Try.func11, Try.ntmps11
  go_wp2_with fail
  refine Calls.mono HM.out ?_
  rintro e w1 ⟨rfl, rfl⟩
  go_wp2_with fail
  refine Calls.mono HL.out ?_
  rintro e w1 ⟨rfl, hs, kk, hz⟩
  obtain ⟨c0, c1, c2, c3⟩ := hs.cells
  have HK := hid kk
  have HZ := hid hz
  have HS := hid hs
  clear kk HM HL hs hz
  go_wp2_with fail
  go_quiet (fail)
  have hcv := HC.out (w1.drewN nq) (HK.out.drewN nq)
  clear HC
  go_wp2_with fail
  refine Calls.mono (HG.out _) ?_
  rintro e w2 ⟨rfl, k2⟩
  have hs2 := (HS.out.quiet ((Keeps.refl _ _).drewN nq)).quiet k2
  obtain ⟨d0, d1, d2, d3⟩ := hs2.cells
  obtain ⟨z0, z1, z2, z3, z4⟩ := (HZ.out.keeps (S := nobody) ((Keeps.refl _ _).drewN nq) (fun h => h)).keeps k2 (fun h => h)
  have hltz := World.block_lt_of_cell? w2 _ z0
  have hlt2 := hs2.lt
  have hne : w.heap.size ≠ g := by omega
  have hne2 : g ≠ w.heap.size := by omega
  have HB := hid hs2.blk
  have KK := hid (((HK.out.drewN nq).then k2).mono (T := fun k => k = g) fun _ _ h => h.elim)
  clear k2 HG hs2 c0 c1 c2 c3
  go_wp2
  refine bodyPost_ret (v := nextV (⟨fk, ff, fi, fb⟩, true, 0)) (by simp [results, Try.results11, go_sem, nextV, *]) rfl ⟨rfl, ?_⟩
  have hb := HB.out
  have kz := ((((KK.out.setCell (p := ⟨g, 2, none⟩) (.inl rfl) (.slice (some ⟨rb, off2, none⟩) n2 cap2)).setCell (p := ⟨w.heap.size, 0, none⟩) (.inr (Nat.le_refl _)) (.int .i64 fk)).setCell (p := ⟨w.heap.size, 1, none⟩) (.inr (Nat.le_refl _)) (.int .i64 ff)).setCell (p := ⟨w.heap.size, 2, none⟩) (.inr (Nat.le_refl _)) (.int .i64 fi)).setCell (p := ⟨w.heap.size, 3, none⟩) (.inr (Nat.le_refl _)) (.string fb)
  refine HD.out _ ?_ (kz.alloc _)
  rw [Below.heap_alloc _ _ _ (by simpa [World.setCell] using hlt2)]
  simp [World.setCell, hb, Array.getElem?_modify, hne]

/-- Next, whatever is held. -/
theorem next_ok {w : World} {g : Nat} {v : Value} {most : Nat} {o : Bool} {B : ByteArray} (h : Sp w g v most o B) : Calls Try.prog 11 #[.pointer (some ⟨g, 0, none⟩)] w fun e w' => e = .returned (nextV (nextR most o B).1) ∧ ∃ v', Did (spT g v most o B) (spT g v' most (nextR most o B).2.1 (nextR most o B).2.2) w w' := by
  cases o with
  | true =>
    obtain rfl := h.over rfl
    rw [nextR_over]
    exact (next_over h).mono fun e w' ⟨he, hk⟩ => ⟨he, v, h.did hk⟩
  | false =>
    by_cases hg : great most B
    · rw [nextR_great most B hg]
      exact next_great h hg
    · by_cases hw : whole B
      · rw [nextR_some most B hg hw]
        rcases h.held with ⟨_, rfl⟩ | ⟨rb, off, cap, rfl, _⟩
        · unfold whole at hw
          exact absurd hw.1 (by decide)
        · exact next_some h hg hw
      · rw [nextR_none most B hg hw]
        rcases h.held with ⟨rfl, rfl⟩ | ⟨rb, off, cap, rfl, _⟩
        · exact (next_empty h).mono fun e w' ⟨he, hk⟩ => ⟨he, _, h.did hk⟩
        · exact (next_none h hg hw).mono fun e w' ⟨he, hk⟩ => ⟨he, _, h.did hk⟩
end Go.Proofs.Ytkogkkjdcackcaa
