/-
  The law FrameCuts as a walk.
-/
import Derived.Test.YtgfcllabhpioiaaDoorRShortW
import Derived.Test.YtgfcllabhpioiaaDoorRCutsS
import Derived.Deep.DeepCutAuto
namespace Go.Proofs.YtgfcllabhpioiaaDoor
open Go.RowKit

theorem conv_in (W : World) (g y : Nat) (h : W.cell? ⟨g, 0, none⟩ = some (.int .u8 (y : Int))) : (convert 35 9 (.slice (some ⟨g, 0, none⟩) 1 1)).run Tryd.prog W = .ok (.string (str [y])) W := by
  refine run_convert_bytes_arg W 35 5 Tryd.underlying35 Tryd.underlying5 g 0 1 1 [Int.ofNat y] rfl (fun i hi => ?_) 9 Tryd.underlying9
  obtain rfl : i = 0 := by omega
  simpa using h
attribute [local irreducible] putA right numL byteAt endOf idOf nums str getA bitB
abbrev oneByte (x : Nat) : Obj := .cells #[.int .u8 (x : Int)] 5
theorem cell_one (w : World) (x : Nat) : (w.alloc (oneByte x)).cell? ⟨w.heap.size, 0, none⟩ = some (.int .u8 (x : Int)) := by simp
theorem cell_one_drew (w : World) (x : Nat) : (w.alloc (oneByte x)).drew.cell? ⟨w.heap.size, 0, none⟩ = some (.int .u8 (x : Int)) := cell_one w x
theorem cell_two_b (w : World) (x : Nat) (o : Obj) : ((w.alloc o).alloc (oneByte x)).drew.cell? ⟨w.heap.size + 1, 0, none⟩ = some (.int .u8 (x : Int)) := by simp
theorem cell_two_a (w : World) (x : Nat) (o : Obj) : ((w.alloc (oneByte x)).alloc o).drew.cell? ⟨w.heap.size, 0, none⟩ = some (.int .u8 (x : Int)) :=
  ((keeps_alloc (w.alloc (oneByte x)) o).cell (p := ⟨w.heap.size, 0, none⟩) (by simp) (fun h => h)).trans (cell_one w x)
/-- An empty frame's box, ready to be filled. -/
def Zero (w : World) (g : Nat) : Prop := (w.cell? ⟨g, 0, none⟩ = some (.int .i64 0) ∧ w.cell? ⟨g, 1, none⟩ = some (.int .i64 0) ∧ w.cell? ⟨g, 2, none⟩ = some (.int .i64 0) ∧ w.cell? ⟨g, 3, none⟩ = some (.string ⟨#[]⟩)) ∧ ∀ o, w.frozen? ⟨g, o, none⟩ = false
theorem zero_new (w : World) : Zero (w.alloc (frobj 0 0 0 ⟨#[]⟩)) w.heap.size := by
  refine ⟨⟨by simp, by simp, by simp, by simp⟩, fun o => ?_⟩
  have h := heap_alloc_new w (frobj 0 0 0 ⟨#[]⟩)
  unfold World.frozen?
  simp only [h]
  simp
theorem Zero.keeps {w w' : World} {g : Nat} (h : Zero w g) (k : Keeps nobody w w') : Zero w' g := by
  have hb := World.block_lt_of_cell? w ⟨g, 0, none⟩ h.1.1
  have hc : ∀ o, w'.cell? ⟨g, o, none⟩ = w.cell? ⟨g, o, none⟩ := fun o => k.cell (p := ⟨g, o, none⟩) hb (fun h => h)
  have hf : ∀ o, w'.frozen? ⟨g, o, none⟩ = w.frozen? ⟨g, o, none⟩ := fun o => k.frozen (p := ⟨g, o, none⟩) hb (fun h => h)
  exact ⟨⟨(hc _).trans h.1.1, (hc _).trans h.1.2.1, (hc _).trans h.1.2.2.1, (hc _).trans h.1.2.2.2⟩, fun o => (hf o).trans (h.2 o)⟩
theorem zero_a {w wd : World} {o : Obj} (k : Keeps nobody ((w.alloc o).alloc (frobj 0 0 0 ⟨#[]⟩)).drew wd) : Zero wd (w.heap.size + 1) := by
  have h := zero_new (w.alloc o)
  have e : (w.alloc o).heap.size = w.heap.size + 1 := by simp
  rw [e] at h
  exact h.keeps ((Keeps.refl nobody _).drew.then k)
theorem zero_b {w wd : World} {o : Obj} (k : Keeps nobody ((w.alloc (frobj 0 0 0 ⟨#[]⟩)).alloc o).drew wd) : Zero wd w.heap.size :=
  (zero_new w).keeps (((keeps_alloc _ o).drew).then k)
theorem cuts_off (f : Frm) (k : Int) (W : World) (HA : Hid (∀ w, Keeps nobody W w → Calls Tryd.prog 9 #[] w fun e w' => e = .returned (.bool true) ∧ Keeps nobody w w')) (h : 2000 < f.body.size) :
    Calls Tryd.prog 4 #[frval f, .int .i64 k] W (Fine W) := by
  have hk := keeps_alloc W (frobj f.kind f.flags f.id f.body)
  obtain ⟨fk, ff, fi, fb⟩ := f
  simp only at h hk
  go_enter Tryd.func4, Tryd.ntmps4
  go_wp2_with fail
  refine Calls.mono (HA.out _ hk) ?_
  rintro e w1 ⟨rfl, k1⟩
  go_wp2
  go_ret
  exact ⟨rfl, below_of_keeps (hk.then k1)⟩
theorem cuts_no (f : Frm) (k : Int) (W : World) (HA : Hid (∀ w, Keeps nobody W w → Calls Tryd.prog 9 #[] w fun e w' => e = .returned (.bool true) ∧ Keeps nobody w w')) (h : f.body.size ≤ 2000) (hr : ¬ right f) :
    Calls Tryd.prog 4 #[frval f, .int .i64 k] W (Fine W) := by
  have hk := keeps_alloc W (frobj f.kind f.flags f.id f.body)
  have HP : Hid (∀ w, Calls Tryd.prog 10 #[.agg #[.int .i64 f.kind, .int .i64 f.flags, .int .i64 f.id, .string f.body]] w fun e w' => e = .returned (.tuple #[.string ⟨#[]⟩, .bool false]) ∧ Keeps nobody w w') := fun w => by
    have := put_ok f w
    unfold putA at this
    rwa [if_neg hr, decide_eq_false hr] at this
  obtain ⟨fk, ff, fi, fb⟩ := f
  simp only at h hk
  go_enter Tryd.func4, Tryd.ntmps4
  go_wp2_with fail
  refine Calls.mono (HA.out _ hk) ?_
  rintro e w1 ⟨rfl, k1⟩
  obtain ⟨d0, d1, d2, d3⟩ := k1.four
  go_wp2_with fail
  refine Calls.mono (HP.out _) ?_
  rintro e w2 ⟨rfl, k2⟩
  go_wp2
  go_ret
  exact ⟨rfl, below_of_keeps ((hk.then k1).then k2)⟩

/-- A frame lies in a box. -/
def Box (w : World) (g : Nat) (f : Frm) : Prop := w.cell? ⟨g, 0, none⟩ = some (.int .i64 f.kind) ∧ w.cell? ⟨g, 1, none⟩ = some (.int .i64 f.flags) ∧ w.cell? ⟨g, 2, none⟩ = some (.int .i64 f.id) ∧ w.cell? ⟨g, 3, none⟩ = some (.string f.body)
theorem Box.keeps {w w' : World} {g : Nat} {f : Frm} (h : Box w g f) (k : Keeps nobody w w') : Box w' g f := by
  have hb := World.block_lt_of_cell? w ⟨g, 0, none⟩ h.1
  have hc : ∀ o, w'.cell? ⟨g, o, none⟩ = w.cell? ⟨g, o, none⟩ := fun o => k.cell (p := ⟨g, o, none⟩) hb (fun h => h)
  exact ⟨(hc _).trans h.1, (hc _).trans h.2.1, (hc _).trans h.2.2.1, (hc _).trans h.2.2.2⟩

abbrev set4 (w : World) (g : Nat) (f : Frm) : World := (((w.setCell ⟨g, 0, none⟩ (.int .i64 f.kind)).setCell ⟨g, 1, none⟩ (.int .i64 f.flags)).setCell ⟨g, 2, none⟩ (.int .i64 f.id)).setCell ⟨g, 3, none⟩ (.string f.body)
theorem fill {W w : World} {g bb : Nat} {f : Frm} (hz : Zero w g) (hg : W.heap.size ≤ g) (hne : bb ≠ g) (hb : Box w bb f) (hk : Keeps nobody W w) : Box (set4 w g f) g f ∧ Box (set4 w g f) bb f ∧ Keeps nobody W (set4 w g f) := by
  obtain ⟨⟨z0, z1, z2, z3⟩, _⟩ := hz
  refine ⟨⟨?_, ?_, ?_, ?_⟩, ⟨?_, ?_, ?_, ?_⟩, ?_⟩
  · simp [set4, go_sem, z0]
  · simp [set4, go_sem, z1]
  · simp [set4, go_sem, z2]
  · simp [set4, go_sem, z3]
  · simp [set4, go_sem, hb.1]
  · simp [set4, go_sem, hb.2.1]
  · simp [set4, go_sem, hb.2.2.1]
  · simp [set4, go_sem, hb.2.2.2]
  · exact (((hk.setCell (.inr hg) _).setCell (.inr hg) _).setCell (.inr hg) _).setCell (.inr hg) _
theorem box_new (w : World) (f : Frm) : Box (w.alloc (frobj f.kind f.flags f.id f.body)) w.heap.size f := ⟨by simp, by simp, by simp, by simp⟩
theorem after1 {w wd : World} {o : Obj} (k : Keeps nobody (w.alloc o).drew wd) : Keeps nobody w wd := (keeps_alloc w o).drew.then k
theorem after2 {w wd : World} {o o' : Obj} (k : Keeps nobody ((w.alloc o).alloc o').drew wd) : Keeps nobody w wd := ((keeps_alloc w o).alloc o').drew.then k

set_option maxRecDepth 100000 in
set_option maxHeartbeats 2000000 in
theorem cuts_yes (f : Frm) (k : Int) (W : World) (HA : Hid (∀ w, Keeps nobody W w → Calls Tryd.prog 9 #[] w fun e w' => e = .returned (.bool true) ∧ Keeps nobody w w')) (h : f.body.size ≤ 2000) (hr : right f) :
    Calls Tryd.prog 4 #[frval f, .int .i64 k] W (Fine W) := by
  have hk := keeps_alloc W (frobj f.kind f.flags f.id f.body)
  have hps := put_size f hr
  have HP : Hid (∀ w, Calls Tryd.prog 10 #[.agg #[.int .i64 f.kind, .int .i64 f.flags, .int .i64 f.id, .string f.body]] w fun e w' => e = .returned (.tuple #[.string (putA f), .bool true]) ∧ Keeps nobody w w') := fun w => by
    have := put_ok f w
    rwa [decide_eq_true hr] at this
  have hG : Hid (∀ j, j < (putA f).size → ∀ w, Calls Tryd.prog 12 #[.string ((putA f).extract 0 j)] w fun e w' => e = .returned (.tuple #[.agg #[.int .i64 0, .int .i64 0, .int .i64 0, .string ⟨#[]⟩], .int .i64 0, .int .i64 2]) ∧ Keeps nobody w w') := fun j hj w => by
    have := get_ok ((putA f).extract 0 j) w (by simp; omega)
    rw [whole_cut f hr j hj] at this
    exact this
  have hG2 : Hid (∀ w, Calls Tryd.prog 12 #[.string (bitB f)] w fun e w' => e = .returned (.tuple #[.agg #[.int .i64 f.kind, .int .i64 f.flags, .int .i64 f.id, .string f.body], .int .i64 ((putA f).size : Int), .int .i64 0]) ∧ Keeps nobody w w') := fun w => by
    have := get_ok (bitB f) w (by rw [bit_size f hr]; omega)
    rw [get_bit f hr, ← hps] at this
    exact this
  have hy := byteAt5 f hr
  have hi5 : ∀ w, (Instr.index 9 (.string (putA f)) (.int .i64 5)).run Tryd.prog w = .ok (.int .u8 (byteAt (putA f) 5 : Int)) w := fun w => by rw [← byteAt_get (putA f) 5 (by omega)]; exact index_at (putA f) 5 (by omega) w
  have hor := u8_or_128 _ hy
  have hX : (putA f).extract 0 5 ++ str [byteAt (putA f) 5 + 128] ++ (putA f).extract 6 (putA f).size = bitB f := by unfold bitB; rfl
  have hs5 : ((putA f).extract 0 5).size = 5 := by simp; omega
  have hs6 : ((putA f).extract 6 (putA f).size).size = (putA f).size - 6 := by simp
  have hs1 : (str [byteAt (putA f) 5 + 128]).size = 1 := str_size _
  have hconv := fun W g => conv_in W g (byteAt (putA f) 5 + 128)
  generalize byteAt (putA f) 5 + 128 = z at *
  generalize byteAt (putA f) 5 = y at *
  generalize str [z] = S at *
  generalize bitB f = X at *
  generalize putA f = B at *
  have HC : Hid (∀ (W : World) (g : Nat), W.cell? ⟨g, 0, none⟩ = some (.int .u8 (z : Int)) → (convert 35 9 (.slice (some ⟨g, 0, none⟩) 1 1)).run Tryd.prog W = .ok (.string S) W) := hconv
  clear hconv
  obtain ⟨fk, ff, fi, fb⟩ := f
  simp only at h hk hps
  have hB1 : 9 ≤ B.size := by omega
  have hB6 : B.size ≤ 2009 := by omega
  have hL0 : ((B.size : Int) == 0) = false := beq_eq_false_iff_ne.2 (by omega)
  clear hr hps
  have ht1 := Int.lt_tmod_of_pos k (show (0 : Int) < B.size by omega)
  have ht2 := Int.tmod_lt_of_pos k (show (0 : Int) < B.size by omega)
  generalize hkt : k.tmod (B.size : Int) = t at *
  obtain ⟨j, hj⟩ : ∃ j : Nat, (t + (B.size : Int)) % (B.size : Int) = (j : Int) := Int.eq_ofNat_of_zero_le (Int.emod_nonneg _ (by omega))
  have hjl : j < B.size := by have := Int.emod_lt_of_pos (t + (B.size : Int)) (show (0 : Int) < B.size by omega); omega
  go_enter Tryd.func4, Tryd.ntmps4
  go_wp2_with fail
  refine Calls.mono (HA.out _ hk) ?_
  rintro e w1 ⟨rfl, k1⟩
  obtain ⟨d0, d1, d2, d3⟩ := k1.four
  go_wp2_with fail
  refine Calls.mono (HP.out _) ?_
  rintro e w2 ⟨rfl, k2⟩
  go_wp2_with fail
  refine Calls.mono (hG.out j hjl _) ?_
  rintro e w3 ⟨rfl, k3⟩
  have HB : Hid (Box w3 W.heap.size ⟨fk, ff, fi, fb⟩) := ((show Box w1 W.heap.size ⟨fk, ff, fi, fb⟩ from ⟨d0, d1, d2, d3⟩).keeps k2).keeps k3
  have hk3 := ((hk.then k1).then k2).then k3
  clear k1 k2 k3 hG HP HA d0 d1 d2 d3 ht1 ht2 hkt hj hk
  go_wp2_with fail
  have HB2 := hid (HB.out.keeps (keeps_alloc w3 (frobj 0 0 0 ⟨#[]⟩)))
  have hk4 := hk3.alloc (frobj 0 0 0 ⟨#[]⟩)
  clear HB hk3
  generalize w3.alloc (frobj 0 0 0 ⟨#[]⟩) = wa at *
  go_cut [10, 11, 12] (fun x y z wx => ∃ g : Nat, x = .pointer (some ⟨g, 0, none⟩) ∧ y = .int .i64 (B.size : Int) ∧ z = .int .i64 0 ∧ Box wx g ⟨fk, ff, fi, fb⟩ ∧ Box wx W.heap.size ⟨fk, ff, fi, fb⟩ ∧ Keeps nobody W wx)
  case first =>
    have h5 : (5 : Int) ≤ (B.size : Int) := by omega
    have h6 : (6 : Int) ≤ (B.size : Int) := by omega
    have hbig : (9223372036854775807 < 6 + (B.size - 6)) = False := by simp only [eq_iff_iff, iff_false]; omega
    have e1 := HC.out _ _ (cell_one wa z)
    have e2 := HC.out _ _ (cell_one_drew wa z)
    have e3 := HC.out _ _ (cell_two_a wa z (frobj 0 0 0 ⟨#[]⟩))
    have e4 := HC.out _ _ (cell_two_b wa z (frobj 0 0 0 ⟨#[]⟩))
    have hlt := World.block_lt_of_cell? wa ⟨W.heap.size, 0, none⟩ HB2.out.1
    simp only at hlt
    go_region_law (go_simp; go_at_call 12; refine Calls.mono (hG2.out _) ?_; rintro e wd ⟨rfl, kd⟩; (first | (have hz := zero_a kd; have hz2 := hid hz; obtain ⟨⟨z0, z1, z2, z3⟩, z4⟩ := hz; have ka := after2 kd) | (have hz := zero_b kd; have hz2 := hid hz; obtain ⟨⟨z0, z1, z2, z3⟩, z4⟩ := hz; have ka := after2 kd) | have ka := after1 kd); clear kd)
    all_goals
      go_wp2_with fail
      go_meet
    · exact ⟨_, rfl, rfl, rfl, box_new wd ⟨fk, ff, fi, fb⟩, (HB2.out.keeps ka).keeps (keeps_alloc _ _), (hk4.then ka).alloc _⟩
    all_goals
      have hff := fill hz2.out (show W.heap.size ≤ _ by omega) (show W.heap.size ≠ _ by omega) (HB2.out.keeps ka) (hk4.then ka)
      exact ⟨_, rfl, rfl, rfl, hff.1, hff.2.1, hff.2.2⟩
  case rest =>
    obtain ⟨g, rfl, rfl, rfl, ⟨a0, a1, a2, a3⟩, ⟨b0, b1, b2, b3⟩, kx⟩ := hcut
    clear HB2 hk4 HC hG2
    go_wp2
    go_ret
    exact ⟨rfl, below_of_keeps kx⟩

theorem cuts_true (f : Frm) (k : Int) (W : World) (hE : Env W) (_ : f.body.size ≤ 140737488355328) : Calls Tryd.prog 4 #[frval f, .int .i64 k] W (Fine W) := by
  have HA : Hid (∀ w, Keeps nobody W w → Calls Tryd.prog 9 #[] w fun e w' => e = .returned (.bool true) ∧ Keeps nobody w w') := fun w hw => alive_ok w (hE.quiet hw)
  by_cases h : f.body.size ≤ 2000
  · by_cases hr : right f
    · exact cuts_yes f k W HA h hr
    · exact cuts_no f k W HA h hr
  · exact cuts_off f k W HA (by omega)
end Go.Proofs.YtgfcllabhpioiaaDoor
