/-
  The reference's Splitter: its Next says the same.
-/
import Derived.Test.YtkogkkjdcackcaaLAlive
import Derived.Deep.RegionHeld3
namespace Go.Proofs.Ytkogkkjdcackcaa
open Go.RowKit
attribute [local irreducible] numL byteAt endOf idOf nums str num3 great whole firstA

/-- The reference's Splitter lies there. -/
structure Rp (w : World) (g : Nat) (most : Nat) (o : Bool) (B : ByteArray) : Prop where
  blk : w.heap[g]? = some (.cells #[.int .i64 (most : Int), .string B, .bool o] 36 (0, 0))
  over : o = true → B = ⟨#[]⟩
  small : B.size ≤ 140737488355328
def rpT (g : Nat) (most : Nat) (o : Bool) (B : ByteArray) : Thing := ⟨fun k => k = g, fun w => Rp w g most o B⟩
section
variable {w w' : World} {g : Nat} {most : Nat} {o : Bool} {B : ByteArray}
theorem Rp.lt (h : Rp w g most o B) : g < w.heap.size := (Array.getElem?_eq_some_iff.1 h.blk).1
theorem Rp.cells (h : Rp w g most o B) : w.cell? ⟨g, 0, none⟩ = some (.int .i64 (most : Int)) ∧ w.cell? ⟨g, 1, none⟩ = some (.string B) ∧ w.cell? ⟨g, 2, none⟩ = some (.bool o) ∧ ∀ n, w.frozen? ⟨g, n, none⟩ = false := by
  refine ⟨?_, ?_, ?_, fun n => ?_⟩ <;> simp [World.cell?, World.frozen?, h.blk]
theorem Rp.keeps {S : Nat → Prop} (h : Rp w g most o B) (hk : Keeps S w w') (hS : ¬ S g) : Rp w' g most o B :=
  ⟨by rw [hk.block g h.lt hS]; exact h.blk, h.over, h.small⟩
theorem Rp.quiet (h : Rp w g most o B) (hk : Keeps nobody w w') : Rp w' g most o B := h.keeps hk id
theorem rpT_ok : (rpT g most o B).Ok := ⟨fun h hk hS => Rp.keeps h hk (hS g rfl), fun {w} h k hk => by
  have h' : Rp w g most o B := h
  have hk' : k = g := hk
  rw [hk']
  exact h'.lt⟩
theorem Rp.did (h : Rp w g most o B) (hk : Keeps nobody w w') : Did (rpT g most o B) (rpT g most o B) w w' := Did.quiet rpT_ok h hk
theorem Rp.relay {o' : Bool} {B' : ByteArray} (_h : Rp w g most o B) (hb : w'.heap[g]? = some (.cells #[.int .i64 (most : Int), .string B', .bool o'] 36 (0, 0)))
    (hk : Keeps (fun k => k = g) w w') (ho : o' = true → B' = ⟨#[]⟩) (hs : B'.size ≤ 140737488355328) : Did (rpT g most o B) (rpT g most o' B') w w' :=
  ⟨rpT_ok, ⟨hb, ho, hs⟩, hk, fun _ e => .inl e⟩
end

set_option maxRecDepth 100000 in
theorem rnext_over {w : World} {g : Nat} {most : Nat} {B : ByteArray} (h : Rp w g most true B) : Calls Try.prog 15 #[.pointer (some ⟨g, 0, none⟩)] w fun e w' => e = .returned (nextV (noF, false, 5)) ∧ Keeps nobody w w' := by
  obtain ⟨c0, c1, c2, c3⟩ := h.cells
  have hlt := h.lt
  clear h
  go_enter Try.func15, Try.ntmps15
  go_wp2
  exact bodyPost_ret (v := nextV (noF, false, 5)) (by simp [results, Try.results15, go_sem, nextV, noF, *]) rfl ⟨rfl, (Keeps.refl _ _).alloc _⟩

set_option maxRecDepth 100000 in
theorem rnext_few {w : World} {g : Nat} {most : Nat} {B : ByteArray} (h : Rp w g most false B) (hB : B.size < 3) : Calls Try.prog 15 #[.pointer (some ⟨g, 0, none⟩)] w fun e w' => e = .returned (nextV (noF, false, 0)) ∧ Keeps nobody w w' := by
  have hk := keeps_alloc w (frobj 0 0 0 ⟨#[]⟩)
  obtain ⟨c0, c1, c2, c3⟩ := (h.quiet hk).cells
  have hbx := bx_new w noF
  have HG : Hid (∀ W, Calls Try.prog 23 #[.string B] W fun e w' => e = .returned (.tuple #[.agg #[.int .i64 0, .int .i64 0, .int .i64 0, .string ⟨#[]⟩], .int .i64 0, .int .i64 2]) ∧ Keeps nobody W w') := fun W => by
    have := fget_ok B W h.small
    rwa [getA, if_neg (by unfold whole; omega)] at this
  clear h
  have H3 : ((3 : Int) ≤ (B.size : Int)) = False := by simp only [eq_iff_iff, iff_false]; omega
  go_enter Try.func15, Try.ntmps15
  go_wp2_with fail
  go_quiet (fail)
  go_wp2_with fail
  refine Calls.mono (HG.out _) ?_
  rintro e w2 ⟨rfl, k2⟩
  obtain ⟨z0, z1, z2, z3, z4⟩ := (hbx.keeps (S := nobody) ((Keeps.refl _ _).drewN nq) (fun h => h)).keeps k2 (fun h => h)
  have hlt := World.block_lt_of_cell? w2 _ z0
  have KK := hid ((hk.drewN nq).then k2)
  clear k2 HG hbx hk
  go_wp2
  exact bodyPost_ret (v := nextV (noF, false, 0)) (by simp [results, Try.results15, go_sem, nextV, noF, *]) rfl ⟨rfl, by repeat (first | exact KK.out | refine Keeps.alloc ?_ _ | refine Keeps.setCell ?_ (.inr (Nat.le_refl _)) _)⟩

set_option maxRecDepth 100000 in
set_option maxHeartbeats 1000000 in
theorem rnext_great {w : World} {g : Nat} {most : Nat} {B : ByteArray} (h : Rp w g most false B) (hB : 3 ≤ B.size) (hg : most < num3 B) : Calls Try.prog 15 #[.pointer (some ⟨g, 0, none⟩)] w fun e w' => e = .returned (nextV (noF, false, 5)) ∧ Did (rpT g most false B) (rpT g most true ⟨#[]⟩) w w' := by
  have hk := keeps_alloc w (frobj 0 0 0 ⟨#[]⟩)
  have hr1 := h.quiet hk
  obtain ⟨c0, c1, c2, c3⟩ := hr1.cells
  have hbx := bx_new w noF
  have hs := h.small
  have hglt := h.lt
  have HO : Hid (∀ W, Calls Try.prog 22 #[.string (B.extract 0 3)] W fun e w' => e = .returned (.int .i64 (num3 B : Int)) ∧ W = w') := fun W => by
    have := of_ok (B.extract 0 3) W (by rw [extract_size _ _ _ (by omega)]; omega)
    unfold num3
    exact this
  have HH := hid h
  have HR := hid hr1
  have hne : w.heap.size ≠ g := by omega
  have hne2 : g ≠ w.heap.size := by omega
  generalize hE : B.extract 0 3 = B3 at *
  have s3 : ∀ W, (Instr.slice 9 (.string B) none (some (.int .i64 3)) none).run Try.prog W = .ok (.string B3) W := fun W => by
    rw [run_slice_string_h W 9 B Try.underlying9 .i64 3 (by decide) (by omega), ← hE]
    rfl
  have t1 : ((3 : Int) ≤ (B.size : Int)) = True := by simp only [eq_iff_iff, iff_true]; omega
  have t2 : ((most : Int) < (num3 B : Int)) = True := by simp only [eq_iff_iff, iff_true]; omega
  clear h hr1 hE
  generalize num3 B = N at *
  have HJ : Hid (∀ W, Keeps nobody (w.alloc (frobj 0 0 0 ⟨#[]⟩)) W → Calls Try.prog 22 #[.string B3] W fun e w' => e = .returned (.int .i64 (N : Int)) ∧ Keeps nobody (w.alloc (frobj 0 0 0 ⟨#[]⟩)) w') := fun W hW => (HO.out W).mono fun e w' h => ⟨h.1, h.2 ▸ hW⟩
  have HK : Hid (∀ W, Keeps nobody (w.alloc (frobj 0 0 0 ⟨#[]⟩)) W → W.cell? ⟨g, 0, none⟩ = some (.int .i64 (most : Int)) ∧ W.cell? ⟨g, 1, none⟩ = some (.string B)) := fun W hW => ⟨(hW.cell (p := ⟨g, 0, none⟩) (by simp; omega) (fun h => h)).trans c0, (hW.cell (p := ⟨g, 1, none⟩) (by simp; omega) (fun h => h)).trans c1⟩
  go_enter Try.func15, Try.ntmps15
  go_wp2_with fail
  go_region_held3 (fun w' => w'.cell? ⟨g, 0, none⟩ = some (.int .i64 (most : Int)) ∧ w'.cell? ⟨g, 1, none⟩ = some (.string B)) (first | go_keep | exact HK.out _ (by assumption)) ((first
    | (go_at_call 22; refine Calls.mono (HJ.out _ (by first | assumption | exact (Keeps.refl _ _).drew)) ?_; rintro e wq ⟨rfl, kq⟩)))
  have kq2 := (show Keeps nobody (w.alloc (frobj 0 0 0 ⟨#[]⟩)) wq by assumption)
  obtain ⟨z0, z1, z2, z3, z4⟩ := hbx.keeps kq2 (fun h => h)
  obtain ⟨d0, d1, d2, d3⟩ := (HR.out.quiet kq2).cells
  have KK := hid ((hk.then kq2).mono (T := fun k => k = g) fun _ _ h => h.elim)
  have HB := hid (HR.out.quiet kq2).blk
  clear kq kq2 hbx HK HJ HO c0 c1 c2 c3
  go_wp2
  refine bodyPost_ret (v := nextV (noF, false, 5)) (by simp [results, Try.results15, go_sem, nextV, noF, *]) rfl ⟨rfl, ?_⟩
  have hb := HB.out
  have kz := (((((KK.out.setCell (p := ⟨g, 2, none⟩) (.inl rfl) (.bool true)).setCell (p := ⟨g, 1, none⟩) (.inl rfl) (.string ⟨#[]⟩)).setCell (p := ⟨w.heap.size, 0, none⟩) (.inr (Nat.le_refl _)) (.int .i64 0)).setCell (p := ⟨w.heap.size, 1, none⟩) (.inr (Nat.le_refl _)) (.int .i64 0)).setCell (p := ⟨w.heap.size, 2, none⟩) (.inr (Nat.le_refl _)) (.int .i64 0)).setCell (p := ⟨w.heap.size, 3, none⟩) (.inr (Nat.le_refl _)) (.string ⟨#[]⟩)
  refine HH.out.relay ?_ kz (fun _ => rfl) (by decide)
  simp [World.setCell, hb, Array.getElem?_modify, hne]

set_option maxRecDepth 100000 in
set_option maxHeartbeats 1000000 in
theorem rnext_none {w : World} {g : Nat} {most : Nat} {B : ByteArray} (h : Rp w g most false B) (hB : 3 ≤ B.size) (hg : ¬ most < num3 B) (hw : ¬ whole B) : Calls Try.prog 15 #[.pointer (some ⟨g, 0, none⟩)] w fun e w' => e = .returned (nextV (noF, false, 0)) ∧ Keeps nobody w w' := by
  have hk := keeps_alloc w (frobj 0 0 0 ⟨#[]⟩)
  have hr1 := h.quiet hk
  obtain ⟨c0, c1, c2, c3⟩ := hr1.cells
  have hbx := bx_new w noF
  have hs := h.small
  have hglt := h.lt
  have HO : Hid (∀ W, Calls Try.prog 22 #[.string (B.extract 0 3)] W fun e w' => e = .returned (.int .i64 (num3 B : Int)) ∧ W = w') := fun W => by
    have := of_ok (B.extract 0 3) W (by rw [extract_size _ _ _ (by omega)]; omega)
    unfold num3
    exact this
  have HH := hid h
  have HR := hid hr1
  have hne : w.heap.size ≠ g := by omega
  have hne2 : g ≠ w.heap.size := by omega
  generalize hE : B.extract 0 3 = B3 at *
  have s3 : ∀ W, (Instr.slice 9 (.string B) none (some (.int .i64 3)) none).run Try.prog W = .ok (.string B3) W := fun W => by
    rw [run_slice_string_h W 9 B Try.underlying9 .i64 3 (by decide) (by omega), ← hE]
    rfl
  have t1 : ((3 : Int) ≤ (B.size : Int)) = True := by simp only [eq_iff_iff, iff_true]; omega
  have t2 : ((most : Int) < (num3 B : Int)) = False := by simp only [eq_iff_iff, iff_false]; omega
  have HG : Hid (∀ W, Calls Try.prog 23 #[.string B] W fun e w' => e = .returned (.tuple #[.agg #[.int .i64 0, .int .i64 0, .int .i64 0, .string ⟨#[]⟩], .int .i64 0, .int .i64 2]) ∧ Keeps nobody W w') := fun W => by
    have := fget_ok B W h.small
    rwa [getA, if_neg hw] at this
  clear h hr1 hE hw
  generalize num3 B = N at *
  have HJ : Hid (∀ W, Keeps nobody (w.alloc (frobj 0 0 0 ⟨#[]⟩)) W → Calls Try.prog 22 #[.string B3] W fun e w' => e = .returned (.int .i64 (N : Int)) ∧ Keeps nobody (w.alloc (frobj 0 0 0 ⟨#[]⟩)) w') := fun W hW => (HO.out W).mono fun e w' h => ⟨h.1, h.2 ▸ hW⟩
  have HK : Hid (∀ W, Keeps nobody (w.alloc (frobj 0 0 0 ⟨#[]⟩)) W → W.cell? ⟨g, 0, none⟩ = some (.int .i64 (most : Int)) ∧ W.cell? ⟨g, 1, none⟩ = some (.string B)) := fun W hW => ⟨(hW.cell (p := ⟨g, 0, none⟩) (by simp; omega) (fun h => h)).trans c0, (hW.cell (p := ⟨g, 1, none⟩) (by simp; omega) (fun h => h)).trans c1⟩
  go_enter Try.func15, Try.ntmps15
  go_wp2_with fail
  go_region_held3 (fun w' => w'.cell? ⟨g, 0, none⟩ = some (.int .i64 (most : Int)) ∧ w'.cell? ⟨g, 1, none⟩ = some (.string B)) (first | go_keep | exact HK.out _ (by assumption)) ((first
    | (go_at_call 22; refine Calls.mono (HJ.out _ (by first | assumption | exact (Keeps.refl _ _).drew)) ?_; rintro e wq ⟨rfl, kq⟩)))
  have kq2 := (show Keeps nobody (w.alloc (frobj 0 0 0 ⟨#[]⟩)) wq by assumption)
  obtain ⟨z0, z1, z2, z3, z4⟩ := hbx.keeps kq2 (fun h => h)
  obtain ⟨d0, d1, d2, d3⟩ := (HR.out.quiet kq2).cells
  have KK0 := hid (hk.then kq2)
  have HX := hid (hbx.keeps kq2 (fun h => h))
  clear kq kq2 hbx HK HJ HO c0 c1 c2 c3 z0 z1 z2 z3 z4
  go_wp2_with fail
  refine Calls.mono (HG.out _) ?_
  rintro e w2 ⟨rfl, k2⟩
  obtain ⟨z0, z1, z2, z3, z4⟩ := HX.out.keeps k2 (fun h => h)
  have hlt := World.block_lt_of_cell? w2 _ z0
  have KK := hid (KK0.out.then k2)
  clear k2 HG d0 d1 d2 d3 HX KK0
  go_wp2
  exact bodyPost_ret (v := nextV (noF, false, 0)) (by simp [results, Try.results15, go_sem, nextV, noF, *]) rfl ⟨rfl, by repeat (first | exact KK.out | refine Keeps.alloc ?_ _ | refine Keeps.setCell ?_ (.inr (Nat.le_refl _)) _)⟩

set_option maxRecDepth 100000 in
set_option maxHeartbeats 1000000 in
theorem rnext_some {w : World} {g : Nat} {most : Nat} {B : ByteArray} (h : Rp w g most false B) (hB : 3 ≤ B.size) (hg : ¬ most < num3 B) (hw : whole B) : Calls Try.prog 15 #[.pointer (some ⟨g, 0, none⟩)] w fun e w' => e = .returned (nextV (firstA B, true, 0)) ∧ Did (rpT g most false B) (rpT g most false (restA B)) w w' := by
  have hk := keeps_alloc w (frobj 0 0 0 ⟨#[]⟩)
  have hr1 := h.quiet hk
  obtain ⟨c0, c1, c2, c3⟩ := hr1.cells
  have hbx := bx_new w noF
  have hs := h.small
  have hglt := h.lt
  have HO : Hid (∀ W, Calls Try.prog 22 #[.string (B.extract 0 3)] W fun e w' => e = .returned (.int .i64 (num3 B : Int)) ∧ W = w') := fun W => by
    have := of_ok (B.extract 0 3) W (by rw [extract_size _ _ _ (by omega)]; omega)
    unfold num3
    exact this
  have HH := hid h
  have HR := hid hr1
  have hne : w.heap.size ≠ g := by omega
  have hne2 : g ≠ w.heap.size := by omega
  generalize hE : B.extract 0 3 = B3 at *
  have s3 : ∀ W, (Instr.slice 9 (.string B) none (some (.int .i64 3)) none).run Try.prog W = .ok (.string B3) W := fun W => by
    rw [run_slice_string_h W 9 B Try.underlying9 .i64 3 (by decide) (by omega), ← hE]
    rfl
  have t1 : ((3 : Int) ≤ (B.size : Int)) = True := by simp only [eq_iff_iff, iff_true]; omega
  have t2 : ((most : Int) < (num3 B : Int)) = False := by simp only [eq_iff_iff, iff_false]; omega
  have he : endOf B ≤ B.size := by unfold whole at hw; exact hw.2
  have HG : Hid (∀ W, Calls Try.prog 23 #[.string B] W fun e w' => e = .returned (.tuple #[frval (firstA B), .int .i64 (endOf B : Int), .int .i64 0]) ∧ Keeps nobody W w') := fun W => by
    have := fget_ok B W h.small
    rwa [getA, if_pos hw] at this
  have hsd := slice_from B (endOf B) he
  have hrs : (restA B).size ≤ 140737488355328 := by
    rw [restA, extract_size _ _ _ (Nat.le_refl _)]
    omega
  have hrd : B.extract (endOf B) B.size = restA B := rfl
  rw [hrd] at hsd
  clear h hr1 hE hw hrd
  generalize restA B = RB at *
  generalize firstA B = f at *
  generalize endOf B = E at *
  obtain ⟨fk, ff, fi, fb⟩ := f
  generalize num3 B = N at *
  have HJ : Hid (∀ W, Keeps nobody (w.alloc (frobj 0 0 0 ⟨#[]⟩)) W → Calls Try.prog 22 #[.string B3] W fun e w' => e = .returned (.int .i64 (N : Int)) ∧ Keeps nobody (w.alloc (frobj 0 0 0 ⟨#[]⟩)) w') := fun W hW => (HO.out W).mono fun e w' h => ⟨h.1, h.2 ▸ hW⟩
  have HK : Hid (∀ W, Keeps nobody (w.alloc (frobj 0 0 0 ⟨#[]⟩)) W → W.cell? ⟨g, 0, none⟩ = some (.int .i64 (most : Int)) ∧ W.cell? ⟨g, 1, none⟩ = some (.string B)) := fun W hW => ⟨(hW.cell (p := ⟨g, 0, none⟩) (by simp; omega) (fun h => h)).trans c0, (hW.cell (p := ⟨g, 1, none⟩) (by simp; omega) (fun h => h)).trans c1⟩
  go_enter Try.func15, Try.ntmps15
  go_wp2_with fail
  go_region_held3 (fun w' => w'.cell? ⟨g, 0, none⟩ = some (.int .i64 (most : Int)) ∧ w'.cell? ⟨g, 1, none⟩ = some (.string B)) (first | go_keep | exact HK.out _ (by assumption)) ((first
    | (go_at_call 22; refine Calls.mono (HJ.out _ (by first | assumption | exact (Keeps.refl _ _).drew)) ?_; rintro e wq ⟨rfl, kq⟩)))
  have kq2 := (show Keeps nobody (w.alloc (frobj 0 0 0 ⟨#[]⟩)) wq by assumption)
  obtain ⟨z0, z1, z2, z3, z4⟩ := hbx.keeps kq2 (fun h => h)
  obtain ⟨d0, d1, d2, d3⟩ := (HR.out.quiet kq2).cells
  have KK0 := hid (hk.then kq2)
  have HX := hid (hbx.keeps kq2 (fun h => h))
  have HR2 := hid (HR.out.quiet kq2)
  clear kq kq2 hbx HK HJ HO c0 c1 c2 c3 z0 z1 z2 z3 z4
  go_wp2_with fail
  refine Calls.mono (HG.out _) ?_
  rintro e w2 ⟨rfl, k2⟩
  obtain ⟨z0, z1, z2, z3, z4⟩ := HX.out.keeps k2 (fun h => h)
  have hlt := World.block_lt_of_cell? w2 _ z0
  have hr2 := HR2.out.quiet k2
  have hlt2 := hr2.lt
  have HB := hid hr2.blk
  clear d0 d1 d2 d3
  obtain ⟨d0, d1, d2, d3⟩ := hr2.cells
  have KK := hid ((KK0.out.then k2).mono (T := fun k => k = g) fun _ _ h => h.elim)
  clear k2 HG HX KK0 hr2
  go_wp2
  refine bodyPost_ret (v := nextV (⟨fk, ff, fi, fb⟩, true, 0)) (by simp [results, Try.results15, go_sem, nextV, *]) rfl ⟨rfl, ?_⟩
  have hb := HB.out
  have kz := ((((KK.out.setCell (p := ⟨g, 1, none⟩) (.inl rfl) (.string RB)).setCell (p := ⟨w.heap.size, 0, none⟩) (.inr (Nat.le_refl _)) (.int .i64 fk)).setCell (p := ⟨w.heap.size, 1, none⟩) (.inr (Nat.le_refl _)) (.int .i64 ff)).setCell (p := ⟨w.heap.size, 2, none⟩) (.inr (Nat.le_refl _)) (.int .i64 fi)).setCell (p := ⟨w.heap.size, 3, none⟩) (.inr (Nat.le_refl _)) (.string fb)
  refine HH.out.relay ?_ (kz.alloc _) (fun e => by cases e) hrs
  rw [Below.heap_alloc _ _ _ (by simpa [World.setCell] using hlt2)]
  simp [World.setCell, hb, Array.getElem?_modify, hne]

/-- Next, whatever is held. -/
theorem rnext_ok {w : World} {g : Nat} {most : Nat} {o : Bool} {B : ByteArray} (h : Rp w g most o B) : Calls Try.prog 15 #[.pointer (some ⟨g, 0, none⟩)] w fun e w' => e = .returned (nextV (nextR most o B).1) ∧ Did (rpT g most o B) (rpT g most (nextR most o B).2.1 (nextR most o B).2.2) w w' := by
  cases o with
  | true =>
    obtain rfl := h.over rfl
    rw [nextR_over]
    exact (rnext_over h).mono fun e w' ⟨he, hk⟩ => ⟨he, h.did hk⟩
  | false =>
    by_cases hB : 3 ≤ B.size
    · by_cases hn : most < num3 B
      · rw [nextR_great most B (by unfold great; exact ⟨hB, hn⟩)]
        exact rnext_great h hB hn
      · have hg : ¬ great most B := by unfold great; exact fun h => hn h.2
        by_cases hw : whole B
        · rw [nextR_some most B hg hw]
          exact rnext_some h hB hn hw
        · rw [nextR_none most B hg hw]
          exact (rnext_none h hB hn hw).mono fun e w' ⟨he, hk⟩ => ⟨he, h.did hk⟩
    · rw [nextR_none most B (by unfold great; exact fun h => hB h.1) (by unfold whole; omega)]
      exact (rnext_few h (by omega)).mono fun e w' ⟨he, hk⟩ => ⟨he, h.did hk⟩
end Go.Proofs.Ytkogkkjdcackcaa
