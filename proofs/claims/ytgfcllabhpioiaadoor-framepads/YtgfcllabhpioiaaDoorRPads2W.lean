/-
  The law FramePads as a walk.
-/
import Derived.Test.YtgfcllabhpioiaaDoorRPadsW
namespace Go.Proofs.YtgfcllabhpioiaaDoor
open Go.RowKit
attribute [local irreducible] putA right numL byteAt endOf idOf nums str getA bitB zeros unpadA behind stripA

theorem or0_32 : bits .or .i64 0 32 = 32 := by decide +kernel
theorem or0_8 : bits .or .i64 0 8 = 8 := by decide +kernel
theorem or32_8 : bits .or .i64 32 8 = 40 := by decide +kernel
theorem pad0 : padB 0 = false := by decide +kernel
theorem weigh0 : weighB 0 = false := by decide +kernel
theorem pad40 : padB 40 = true := by decide +kernel
theorem weigh40 : weighB 40 = true := by decide +kernel
/-- A frame in a box that may be written. -/
def Mine (w : World) (g : Nat) (f : Frm) : Prop := Box w g f ∧ ∀ o, w.frozen? ⟨g, o, none⟩ = false
theorem mine_new (w : World) (f : Frm) : Mine (w.alloc (frobj f.kind f.flags f.id f.body)) w.heap.size f := by
  refine ⟨box_new w f, fun o => ?_⟩
  have h := heap_alloc_new w (frobj f.kind f.flags f.id f.body)
  unfold World.frozen?
  simp only [h]
  simp
theorem Mine.keeps {w w' : World} {g : Nat} {f : Frm} (h : Mine w g f) (k : Keeps nobody w w') : Mine w' g f :=
  ⟨h.1.keeps k, fun o => (k.frozen (p := ⟨g, o, none⟩) (World.block_lt_of_cell? w ⟨g, 0, none⟩ h.1.1) (fun h => h)).trans (h.2 o)⟩
theorem Mine.body {w : World} {g : Nat} {f : Frm} (h : Mine w g f) (X : ByteArray) : Mine (w.setCell ⟨g, 3, none⟩ (.string X)) g ⟨f.kind, f.flags, f.id, X⟩ := by
  obtain ⟨⟨z0, z1, z2, z3⟩, zf⟩ := h
  refine ⟨⟨?_, ?_, ?_, ?_⟩, fun o => ?_⟩
  · simp [go_sem, z0]
  · simp [go_sem, z1]
  · simp [go_sem, z2]
  · simp [go_sem, z3]
  · simp [go_sem, zf]
theorem Mine.toKind {w : World} {g : Nat} {f : Frm} (h : Mine w g f) (k : Int) : Mine (w.setCell ⟨g, 0, none⟩ (.int .i64 k)) g ⟨k, f.flags, f.id, f.body⟩ := by
  obtain ⟨⟨z0, z1, z2, z3⟩, zf⟩ := h
  refine ⟨⟨?_, ?_, ?_, ?_⟩, fun o => ?_⟩
  · simp [go_sem, z0]
  · simp [go_sem, z1]
  · simp [go_sem, z2]
  · simp [go_sem, z3]
  · simp [go_sem, zf]

theorem pads_off0 (b : ByteArray) (pad : Int) (q p : Bool) (W : World) (HA : Hid (∀ w, Keeps nobody W w → Calls Tryd.prog 9 #[] w fun e w' => e = .returned (.bool true) ∧ Keeps nobody w w')) (h : 300 < b.size) : Calls Tryd.prog 6 #[.string b, .int .i64 pad, .bool q, .bool p] W (Fine W) := by
  go_enter Tryd.func6, Tryd.ntmps6
  go_wp2_with fail
  refine Calls.mono (HA.out _ (Keeps.refl _ _)) ?_
  rintro e w1 ⟨rfl, k1⟩
  go_wp2
  go_ret
  exact ⟨rfl, below_of_keeps k1⟩

theorem pads_off1 (b : ByteArray) (pad : Int) (q p : Bool) (W : World) (HA : Hid (∀ w, Keeps nobody W w → Calls Tryd.prog 9 #[] w fun e w' => e = .returned (.bool true) ∧ Keeps nobody w w')) (h0 : b.size ≤ 300) (h : pad < 0) : Calls Tryd.prog 6 #[.string b, .int .i64 pad, .bool q, .bool p] W (Fine W) := by
  go_enter Tryd.func6, Tryd.ntmps6
  go_wp2_with fail
  refine Calls.mono (HA.out _ (Keeps.refl _ _)) ?_
  rintro e w1 ⟨rfl, k1⟩
  go_wp2
  go_ret
  exact ⟨rfl, below_of_keeps k1⟩

theorem pads_off2 (b : ByteArray) (pad : Int) (q p : Bool) (W : World) (HA : Hid (∀ w, Keeps nobody W w → Calls Tryd.prog 9 #[] w fun e w' => e = .returned (.bool true) ∧ Keeps nobody w w')) (h0 : b.size ≤ 300) (h1 : 0 ≤ pad) (h : 255 < pad) : Calls Tryd.prog 6 #[.string b, .int .i64 pad, .bool q, .bool p] W (Fine W) := by
  go_enter Tryd.func6, Tryd.ntmps6
  go_wp2_with fail
  refine Calls.mono (HA.out _ (Keeps.refl _ _)) ?_
  rintro e w1 ⟨rfl, k1⟩
  go_wp2
  go_ret
  exact ⟨rfl, below_of_keeps k1⟩

set_option maxRecDepth 100000 in
set_option maxHeartbeats 2000000 in
theorem pads_00 (b : ByteArray) (y : Nat) (W : World) (HA : Hid (∀ w, Keeps nobody W w → Calls Tryd.prog 9 #[] w fun e w' => e = .returned (.bool true) ∧ Keeps nobody w w')) (h0 : b.size ≤ 300) (h1 : y ≤ 255)  
    (H1 : Hid (∀ w, Calls Tryd.prog 14 #[.agg #[.int .i64 1, .int .i64 0, .int .i64 1, .string b]] w fun e w' => e = .returned (.tuple #[.string b, .int .i64 (0), .int .i64 0]) ∧ Keeps nobody w w'))
    (H2 : Hid (∀ w, Calls Tryd.prog 14 #[.agg #[.int .i64 9, .int .i64 0, .int .i64 1, .string b]] w fun e w' => e = .returned (.tuple #[.string b, .int .i64 0, .int .i64 0]) ∧ Keeps nobody w w')) :
    Calls Tryd.prog 6 #[.string b, .int .i64 (y : Int), .bool false, .bool false] W (Fine W) := by
  have o1 := or0_32
  have o2 := or0_8
  have o3 := or32_8
  go_enter Tryd.func6, Tryd.ntmps6
  go_wp2_with fail
  refine Calls.mono (HA.out _ (Keeps.refl _ _)) ?_
  rintro e w1 ⟨rfl, k1⟩
  go_wp2_with fail
  have m1 := hid (mine_new w1 ⟨1, 0, 1, b⟩)
  have kx := k1.alloc (frobj 1 0 1 b)
  simp only at m1
  refine Calls.mono (H1.out _) ?_
  rintro e w2 ⟨rfl, k2⟩
  have m2 := hid (m1.out.keeps k2)
  have m3 := hid (m2.out.toKind 9)
  have kk := (kx.then k2).setCell (p := ⟨w1.heap.size, 0, none⟩) (.inr k1.size) (.int .i64 9)
  clear k2 kx
  obtain ⟨⟨a0, a1, a2, a3⟩, af⟩ := m2.out
  go_wp2_with fail
  refine Calls.mono (H2.out _) ?_
  rintro e w3 ⟨rfl, k3⟩
  have e3 := (m3.out.keeps k3).1.2.2.2
  have kf := kk.then k3
  clear k3 kk a0 a1 a2 a3 af m1 m2 m3
  simp only at e3
  go_wp2
  go_ret
  exact ⟨rfl, below_of_keeps kf⟩

set_option maxRecDepth 100000 in
set_option maxHeartbeats 2000000 in
theorem pads_01 (b : ByteArray) (y : Nat) (W : World) (HA : Hid (∀ w, Keeps nobody W w → Calls Tryd.prog 9 #[] w fun e w' => e = .returned (.bool true) ∧ Keeps nobody w w')) (h0 : b.size ≤ 300) (h1 : y ≤ 255)  (S Z X : ByteArray) (hS : S.size = 1) (hZ : Z.size = y) (hX : S ++ b ++ Z = X) (hconv : ∀ (W : World) (g : Nat), W.cell? ⟨g, 0, none⟩ = some (.int .u8 (y : Int)) → (convert 35 9 (.slice (some ⟨g, 0, none⟩) 1 1)).run Tryd.prog W = .ok (.string S) W) (hzero : ∀ (w W : World), Keeps nobody (w.alloc (.cells (madeCells #[.int .u8 0] y) 5)) W → (convert 35 9 (.slice (some ⟨w.heap.size, 0, none⟩) y y)).run Tryd.prog W = .ok (.string Z) W)
    (H1 : Hid (∀ w, Calls Tryd.prog 14 #[.agg #[.int .i64 1, .int .i64 8, .int .i64 1, .string X]] w fun e w' => e = .returned (.tuple #[.string b, .int .i64 (1 + (y : Int)), .int .i64 0]) ∧ Keeps nobody w w'))
    (H2 : Hid (∀ w, Calls Tryd.prog 14 #[.agg #[.int .i64 9, .int .i64 8, .int .i64 1, .string X]] w fun e w' => e = .returned (.tuple #[.string X, .int .i64 0, .int .i64 0]) ∧ Keeps nobody w w')) :
    Calls Tryd.prog 6 #[.string b, .int .i64 (y : Int), .bool false, .bool true] W (Fine W) := by
  have o1 := or0_32
  have o2 := or0_8
  have o3 := or32_8
  go_enter Tryd.func6, Tryd.ntmps6
  go_wp2_with fail
  refine Calls.mono (HA.out _ (Keeps.refl _ _)) ?_
  rintro e w1 ⟨rfl, k1⟩
  go_wp2_with fail
  have m0 := hid (mine_new w1 ⟨1, 8, 1, b⟩)
  have k0 := k1.alloc (frobj 1 8 1 b)
  have hg : w1.heap.size < (w1.alloc (frobj 1 8 1 b)).heap.size := by simp
  simp only at m0
  generalize w1.alloc (frobj 1 8 1 b) = wa at *
  go_cut [10] (fun x wx => x = .int .i64 (1 + (y : Int)) ∧ Hid (Mine wx w1.heap.size ⟨1, 8, 1, X⟩) ∧ Keeps nobody W wx)
  case first =>
    have c1 := hconv _ _ (cell_one_drew wa y)
    have c2 := hconv _ _ (cell_two_a wa y (.cells (madeCells #[.int .u8 0] y) 5))
    have c3 := hconv _ _ (cell_two_b wa y (.cells (madeCells #[.int .u8 0] y) 5))
    have z1 := hzero wa _ (Keeps.refl nobody _).drew
    have z2 := hzero wa _ (((Keeps.refl nobody _).alloc (oneByte y)).drew)
    have z3 := hzero (wa.alloc (oneByte y)) _ (Keeps.refl nobody _).drew
    have hz3 : (wa.alloc (oneByte y)).heap.size = wa.heap.size + 1 := by simp
    rw [hz3] at z3
    have hmk := run_make_row' (P := Tryd.prog) 35 5 (.int .u8 0) 1 Tryd.underlying35 info5 rfl .i64 .i64 y (by omega) (by omega)
    have l0 := m0.out.1.2.2.2
    have l1 := fun o => (m0.out.keeps (keeps_alloc wa o)).1.2.2.2
    have l2 := fun o o' => (m0.out.keeps ((keeps_alloc wa o).alloc o')).1.2.2.2
    have f2 := fun o o' => (m0.out.keeps ((keeps_alloc wa o).alloc o')).2 3
    have KA := hid (fun o o' => (m0.out.body X).keeps ((keeps_alloc (wa.setCell ⟨w1.heap.size, 3, none⟩ (.string X)) o).alloc o').drew)
    have KB := hid (fun o o' => (k0.setCell (p := ⟨w1.heap.size, 3, none⟩) (.inr k1.size) (.string X)).then ((keeps_alloc (wa.setCell ⟨w1.heap.size, 3, none⟩ (.string X)) o).alloc o').drew)
    simp only at l0 l1 l2
    clear hconv hzero H1 H2 HA hz3 m0 k0
    go_region
    all_goals
      go_wp2_with fail
      go_meet
      exact ⟨rfl, KA.out _ _, KB.out _ _⟩
  case rest =>
    obtain ⟨rfl, m1, kx⟩ := hcut
    clear m0 k0 hconv hzero HA hg
    obtain ⟨⟨a0, a1, a2, a3⟩, af⟩ := m1.out
    go_wp2_with fail
    refine Calls.mono (H1.out _) ?_
    rintro e w2 ⟨rfl, k2⟩
    have m2 := hid (m1.out.keeps k2)
    have m3 := hid (m2.out.toKind 9)
    have kk := (kx.then k2).setCell (p := ⟨w1.heap.size, 0, none⟩) (.inr k1.size) (.int .i64 9)
    clear a0 a1 a2 a3 af k2 kx
    obtain ⟨⟨a0, a1, a2, a3⟩, af⟩ := m2.out
    go_wp2_with fail
    refine Calls.mono (H2.out _) ?_
    rintro e w3 ⟨rfl, k3⟩
    have e3 := (m3.out.keeps k3).1.2.2.2
    have kf := kk.then k3
    clear k3 kk a0 a1 a2 a3 af m1 m2 m3
    simp only at e3
    go_wp2
    go_ret
    exact ⟨rfl, below_of_keeps kf⟩

set_option maxRecDepth 100000 in
set_option maxHeartbeats 2000000 in
theorem pads_10 (b : ByteArray) (y : Nat) (W : World) (HA : Hid (∀ w, Keeps nobody W w → Calls Tryd.prog 9 #[] w fun e w' => e = .returned (.bool true) ∧ Keeps nobody w w')) (h0 : b.size ≤ 300) (h1 : y ≤ 255) (M : ByteArray) (hM : ⟨#[49, 50, 51, 52, 53]⟩ ++ b = M) (hMs : M.size = 5 + b.size) 
    (H1 : Hid (∀ w, Calls Tryd.prog 14 #[.agg #[.int .i64 1, .int .i64 32, .int .i64 1, .string M]] w fun e w' => e = .returned (.tuple #[.string b, .int .i64 (5), .int .i64 0]) ∧ Keeps nobody w w'))
    (H2 : Hid (∀ w, Calls Tryd.prog 14 #[.agg #[.int .i64 9, .int .i64 32, .int .i64 1, .string M]] w fun e w' => e = .returned (.tuple #[.string M, .int .i64 0, .int .i64 0]) ∧ Keeps nobody w w')) :
    Calls Tryd.prog 6 #[.string b, .int .i64 (y : Int), .bool true, .bool false] W (Fine W) := by
  have o1 := or0_32
  have o2 := or0_8
  have o3 := or32_8
  go_enter Tryd.func6, Tryd.ntmps6
  go_wp2_with fail
  refine Calls.mono (HA.out _ (Keeps.refl _ _)) ?_
  rintro e w1 ⟨rfl, k1⟩
  go_wp2_with fail
  have m1 := hid (mine_new w1 ⟨1, 32, 1, M⟩)
  have kx := k1.alloc (frobj 1 32 1 M)
  simp only at m1
  refine Calls.mono (H1.out _) ?_
  rintro e w2 ⟨rfl, k2⟩
  have m2 := hid (m1.out.keeps k2)
  have m3 := hid (m2.out.toKind 9)
  have kk := (kx.then k2).setCell (p := ⟨w1.heap.size, 0, none⟩) (.inr k1.size) (.int .i64 9)
  clear k2 kx
  obtain ⟨⟨a0, a1, a2, a3⟩, af⟩ := m2.out
  go_wp2_with fail
  refine Calls.mono (H2.out _) ?_
  rintro e w3 ⟨rfl, k3⟩
  have e3 := (m3.out.keeps k3).1.2.2.2
  have kf := kk.then k3
  clear k3 kk a0 a1 a2 a3 af m1 m2 m3
  simp only at e3
  go_wp2
  go_ret
  exact ⟨rfl, below_of_keeps kf⟩

set_option maxRecDepth 100000 in
set_option maxHeartbeats 2000000 in
theorem pads_11 (b : ByteArray) (y : Nat) (W : World) (HA : Hid (∀ w, Keeps nobody W w → Calls Tryd.prog 9 #[] w fun e w' => e = .returned (.bool true) ∧ Keeps nobody w w')) (h0 : b.size ≤ 300) (h1 : y ≤ 255) (M : ByteArray) (hM : ⟨#[49, 50, 51, 52, 53]⟩ ++ b = M) (hMs : M.size = 5 + b.size) (S Z X : ByteArray) (hS : S.size = 1) (hZ : Z.size = y) (hX : S ++ M ++ Z = X) (hconv : ∀ (W : World) (g : Nat), W.cell? ⟨g, 0, none⟩ = some (.int .u8 (y : Int)) → (convert 35 9 (.slice (some ⟨g, 0, none⟩) 1 1)).run Tryd.prog W = .ok (.string S) W) (hzero : ∀ (w W : World), Keeps nobody (w.alloc (.cells (madeCells #[.int .u8 0] y) 5)) W → (convert 35 9 (.slice (some ⟨w.heap.size, 0, none⟩) y y)).run Tryd.prog W = .ok (.string Z) W)
    (H1 : Hid (∀ w, Calls Tryd.prog 14 #[.agg #[.int .i64 1, .int .i64 40, .int .i64 1, .string X]] w fun e w' => e = .returned (.tuple #[.string b, .int .i64 (6 + (y : Int)), .int .i64 0]) ∧ Keeps nobody w w'))
    (H2 : Hid (∀ w, Calls Tryd.prog 14 #[.agg #[.int .i64 9, .int .i64 40, .int .i64 1, .string X]] w fun e w' => e = .returned (.tuple #[.string X, .int .i64 0, .int .i64 0]) ∧ Keeps nobody w w')) :
    Calls Tryd.prog 6 #[.string b, .int .i64 (y : Int), .bool true, .bool true] W (Fine W) := by
  have o1 := or0_32
  have o2 := or0_8
  have o3 := or32_8
  go_enter Tryd.func6, Tryd.ntmps6
  go_wp2_with fail
  refine Calls.mono (HA.out _ (Keeps.refl _ _)) ?_
  rintro e w1 ⟨rfl, k1⟩
  go_wp2_with fail
  have m0 := hid (mine_new w1 ⟨1, 40, 1, M⟩)
  have k0 := k1.alloc (frobj 1 40 1 M)
  have hg : w1.heap.size < (w1.alloc (frobj 1 40 1 M)).heap.size := by simp
  simp only at m0
  generalize w1.alloc (frobj 1 40 1 M) = wa at *
  go_cut [10] (fun x wx => x = .int .i64 (6 + (y : Int)) ∧ Hid (Mine wx w1.heap.size ⟨1, 40, 1, X⟩) ∧ Keeps nobody W wx)
  case first =>
    have c1 := hconv _ _ (cell_one_drew wa y)
    have c2 := hconv _ _ (cell_two_a wa y (.cells (madeCells #[.int .u8 0] y) 5))
    have c3 := hconv _ _ (cell_two_b wa y (.cells (madeCells #[.int .u8 0] y) 5))
    have z1 := hzero wa _ (Keeps.refl nobody _).drew
    have z2 := hzero wa _ (((Keeps.refl nobody _).alloc (oneByte y)).drew)
    have z3 := hzero (wa.alloc (oneByte y)) _ (Keeps.refl nobody _).drew
    have hz3 : (wa.alloc (oneByte y)).heap.size = wa.heap.size + 1 := by simp
    rw [hz3] at z3
    have hmk := run_make_row' (P := Tryd.prog) 35 5 (.int .u8 0) 1 Tryd.underlying35 info5 rfl .i64 .i64 y (by omega) (by omega)
    have l0 := m0.out.1.2.2.2
    have l1 := fun o => (m0.out.keeps (keeps_alloc wa o)).1.2.2.2
    have l2 := fun o o' => (m0.out.keeps ((keeps_alloc wa o).alloc o')).1.2.2.2
    have f2 := fun o o' => (m0.out.keeps ((keeps_alloc wa o).alloc o')).2 3
    have KA := hid (fun o o' => (m0.out.body X).keeps ((keeps_alloc (wa.setCell ⟨w1.heap.size, 3, none⟩ (.string X)) o).alloc o').drew)
    have KB := hid (fun o o' => (k0.setCell (p := ⟨w1.heap.size, 3, none⟩) (.inr k1.size) (.string X)).then ((keeps_alloc (wa.setCell ⟨w1.heap.size, 3, none⟩ (.string X)) o).alloc o').drew)
    simp only at l0 l1 l2
    clear hconv hzero H1 H2 HA hz3 m0 k0
    go_region
    all_goals
      go_wp2_with fail
      go_meet
      exact ⟨rfl, KA.out _ _, KB.out _ _⟩
  case rest =>
    obtain ⟨rfl, m1, kx⟩ := hcut
    clear m0 k0 hconv hzero HA hg
    obtain ⟨⟨a0, a1, a2, a3⟩, af⟩ := m1.out
    go_wp2_with fail
    refine Calls.mono (H1.out _) ?_
    rintro e w2 ⟨rfl, k2⟩
    have m2 := hid (m1.out.keeps k2)
    have m3 := hid (m2.out.toKind 9)
    have kk := (kx.then k2).setCell (p := ⟨w1.heap.size, 0, none⟩) (.inr k1.size) (.int .i64 9)
    clear a0 a1 a2 a3 af k2 kx
    obtain ⟨⟨a0, a1, a2, a3⟩, af⟩ := m2.out
    go_wp2_with fail
    refine Calls.mono (H2.out _) ?_
    rintro e w3 ⟨rfl, k3⟩
    have e3 := (m3.out.keeps k3).1.2.2.2
    have kf := kk.then k3
    clear k3 kk a0 a1 a2 a3 af m1 m2 m3
    simp only at e3
    go_wp2
    go_ret
    exact ⟨rfl, below_of_keeps kf⟩
end Go.Proofs.YtgfcllabhpioiaaDoor
