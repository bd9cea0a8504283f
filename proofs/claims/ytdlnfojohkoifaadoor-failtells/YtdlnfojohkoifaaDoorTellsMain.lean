/-
  The law FailTells as a walk: all its ways.
-/
import Derived.Test.YtdlnfojohkoifaaDoorTellsLaw
namespace Go.Proofs.YtdlnfojohkoifaaDoor
open Go.RowKit Go.Extern.Stop Go.Stop Go.Extern

set_option maxRecDepth 100000 in
set_option maxHeartbeats 2000000 in
theorem failTells_short (a b : Int) (op : ByteArray) (w : World) (hE : Env w) (hop : op.size ≤ maxLen) (h3 : 60 < op.size) :
    Calls Tryd.prog 3 #[.int .i64 a, .int .i64 b, .string op] w fun e w' => e = .returned (.bool true) ∧ Below w.heap.size w w' := by
  unfold maxLen at hop
  have HA : Hid (Calls Tryd.prog 8 #[] w fun e w' => e = .returned (.bool true) ∧ Below w.heap.size w w') := alive_true w hE
  go_enter Tryd.func3, Tryd.ntmps3
  go_wp2_with fail
  refine Calls.mono HA.out ?_
  rintro e w1 ⟨rfl, hB⟩
  go_wp2_with fail
  go_ret
  exact ⟨rfl, hB⟩

theorem same_code {a b : Int} (hb : (b == 0) = false) : (b == a && a != 0) = (a == b) := by
  rw [Bool.eq_iff_iff]
  simp at hb ⊢
  constructor
  · rintro ⟨rfl, _⟩; rfl
  · rintro rfl; exact ⟨rfl, hb⟩
theorem new_any (c : Int) (w : World) : Calls Tryd.prog 9 #[.int .i64 c] w fun e w' => ∃ v, e = .returned v ∧ (v = .nilIface ∧ (c == 0) = true ∨ ∃ x, v = .iface 24 x ∧ (c == 0) = false) ∧ Below w.heap.size w w' := by
  cases hc : (c == 0)
  · exact (new_some c w hc).mono (by rintro e w' ⟨rfl, rfl⟩; exact ⟨_, rfl, .inr ⟨_, rfl, rfl⟩, (Below.refl _ _).alloc (Nat.le_refl _) _⟩)
  · obtain rfl : c = 0 := eq_of_beq hc
    exact (new_ok w).mono (by rintro e w' ⟨rfl, rfl⟩; exact ⟨_, rfl, .inl ⟨rfl, rfl⟩, Below.refl _ _⟩)

set_option maxRecDepth 100000 in
set_option maxHeartbeats 4000000 in
theorem failTells_nil (a : Int) (op : ByteArray) (w : World) (hE : Env w) (h60 : (op.size : Int) ≤ 60) :
    Calls Tryd.prog 3 #[.int .i64 a, .int .i64 0, .string op] w fun e w' => e = .returned (.bool true) ∧ Below w.heap.size w w' := by
  go_enter Tryd.func3, Tryd.ntmps3
  go_wp2_with fail
  refine (alive_true w hE).mono ?_
  rintro e w1 ⟨rfl, hB1⟩
  have hE1 := hE.grown hB1
  go_wp2_with fail
  refine (new_ok _).mono ?_
  rintro e w2 ⟨rfl, rfl⟩
  have hB2 : Below w1.heap.size w1 (w1.alloc (.cells #[.string op, .int .i64 a, .nilIface] 28)) := (Below.refl _ _).alloc (Nat.le_refl _) _
  have hE2 := hE1.grown hB2
  have htwo := hE2.two
  have hz1 := hB1.size
  have hs2 : w1.heap.size < (w1.alloc (.cells #[.string op, .int .i64 a, .nilIface] 28)).heap.size := by simp
  generalize (w1.alloc (.cells #[.string op, .int .i64 a, .nilIface] 28)) = w2 at *
  have hg : Errish .nilIface := .inl rfl
  have HI : Hid (∀ w' : World, Below w2.heap.size w2 w' → Calls Tryd.prog 15 #[.pointer (some ⟨w1.heap.size, 0, none⟩), .nilIface] w' fun e w'' => e = .returned (.bool false) ∧ Below w'.heap.size w' w'') := fun w' _ => (isM_nil _ w').mono (by rintro e w'' ⟨rfl, rfl⟩; exact ⟨rfl, Below.refl _ _⟩)
  go_wp2_with fail
  have hzj : w2.heap.size ≤ (w2.alloc (.cells #[.pointer none] 24)).heap.size := by simp
  refine (join_any op a _ _ hg).mono ?_
  rintro e w3 ⟨rfl, rfl⟩
  have hB3 : Below w2.heap.size w2 ((w2.alloc (.cells #[.pointer none] 24)).alloc (.cells #[.string op, .int .i64 a, .nilIface] 28)) := ((Below.refl _ _).alloc (Nat.le_refl _) _).alloc (by simp) _
  have hj3 : ((w2.alloc (.cells #[.pointer none] 24)).alloc (.cells #[.string op, .int .i64 a, .nilIface] 28)).heap[w2.heap.size + 1]? = some (.cells #[.string op, .int .i64 a, .nilIface] 28 (0, 0)) := by
    have := heap_alloc_new (w2.alloc (.cells #[.pointer none] 24)) (.cells #[.string op, .int .i64 a, .nilIface] 28); simpa using this
  have ht3 : ((w2.alloc (.cells #[.pointer none] 24)).alloc (.cells #[.string op, .int .i64 a, .nilIface] 28)).heap[w2.heap.size]? = some (.cells #[.pointer none] 24 (0, 0)) := by
    rw [Below.heap_alloc _ _ _ (by simp)]; exact heap_alloc_new w2 _
  rw [show (w2.alloc (.cells #[.pointer none] 24)).heap.size = w2.heap.size + 1 by simp]
  generalize ((w2.alloc (.cells #[.pointer none] 24)).alloc (.cells #[.string op, .int .i64 a, .nilIface] 28)) = w3 at *
  have hE3 := hE2.grown hB3
  clear hzj
  go_wp2_with fail
  refine (name_any a w3 hE3).mono ?_
  rintro e w4 ⟨rfl, rfl⟩
  go_wp2_with fail
  refine (ref_code a _).mono ?_
  rintro e w5 ⟨rfl, hB5⟩
  go_wp2_with fail
  refine (error_nil _).mono ?_
  rintro e w6 ⟨rfl, rfl⟩
  go_wp2_with fail
  refine (unwrap_nil _).mono ?_
  rintro e w7 ⟨rfl, rfl⟩
  go_wp2_with fail
  refine (isM_recv _ _).mono ?_
  rintro e w8 ⟨rfl, rfl⟩
  go_wp2_with fail
  have hz2 := hB3.size
  refine Calls.mono (HI.out _ (hB3.trans (hB5.mono hz2))) ?_
  rintro e w9 ⟨rfl, hB9⟩
  go_wp2_with fail
  refine (errorsNew _ _).mono ?_
  rintro e w10 ⟨rfl, hB10⟩
  go_wp2_with fail
  refine (isM_other _ _ _).mono ?_
  rintro e w11 ⟨rfl, rfl⟩
  have hz5 := hB5.size
  have hz9 := hB9.size
  have hz10 := hB10.size
  have hB11 : Below w4.heap.size w4 w11 := (hB5.trans (hB9.mono hz5)).trans (hB10.mono (by omega))
  have hz11 := hB11.size
  clear hB5 hB9 hB10 HI
  go_wp2_with fail
  refine (new_any a _).mono ?_
  rintro e w12 ⟨v, rfl, hv, hB12⟩
  have hB13 : Below w4.heap.size w4 w12 := hB11.trans (hB12.mono hz11)
  have hE12 := hE3.grown hB13
  have hj12 := (hB13.block _ (lt_of_heap hj3)).trans hj3
  have ht12 := (hB13.block _ (lt_of_heap ht3)).trans ht3
  have hz13 := hB13.size
  have hall0 : Below w.heap.size w w12 := ((hB1.trans (hB2.mono hz1)).trans (hB3.mono (by omega))).trans (hB13.mono (by omega))
  have HJ : Hid (w12.heap[w2.heap.size + 1]? = some (.cells #[.string op, .int .i64 a, .nilIface] 28 (0, 0))) := hj12
  have HT : Hid (w12.heap[w2.heap.size]? = some (.cells #[.pointer none] 24 (0, 0))) := ht12
  have hz14 : w.heap.size ≤ w2.heap.size := by omega
  have hz15 := lt_of_heap hj12
  clear hj12 ht12 hj3 ht3 hB11 hB12 hB13 hB1 hB2 hB3 hE1 hE2 hE3 hE hz1 hz2 hz11 hz13 hz5 hz9 hz10 hg
  rcases hv with ⟨rfl, h0⟩ | ⟨x, rfl, h0⟩
  all_goals
    go_wp2_with fail
    refine (as_hit ⟨w2.heap.size + 1, 0, none⟩ w2.heap.size (.pointer none) w12 hE12.etype HT.out).mono ?_
    rintro e w13 ⟨rfl, h13, k13⟩
    have hj13 : w13.heap[w2.heap.size + 1]? = some (.cells #[.string op, .int .i64 a, .nilIface] 28 (0, 0)) := (k13.block _ hz15 (by omega)).trans HJ.out
    have ct : w13.cell? ⟨w2.heap.size, 0, none⟩ = some (.pointer (some ⟨w2.heap.size + 1, 0, none⟩)) := by simp [World.cell?, h13]
    have c0 : w13.cell? ⟨w2.heap.size + 1, 0, none⟩ = some (.string op) := by simp [World.cell?, hj13]
    have c1 : w13.cell? ⟨w2.heap.size + 1, 1, none⟩ = some (.int .i64 a) := by simp [World.cell?, hj13]
    have hall : Below w.heap.size w w13 := k13.below hall0 hz14 (by omega)
    have hE13 : Env w13 := Env.below hE12 (k13.below (Below.refl 2 w12) (by have := htwo; omega) hE12.two) (Nat.le_refl _)
    have hsz13 := k13.size
    clear k13 h13 hj13 HJ HT hE12 hall0
    go_wp2_with fail
    refine (errorsNew _ _).mono ?_
    rintro e w14 ⟨rfl, hB14⟩
    have hE14 := hE13.grown hB14
    clear ct c0 c1
    go_wp2_with fail
    refine (code_other _ _ hE14).mono ?_
    rintro e w15 ⟨rfl, hB15⟩
    go_wp2_with fail
    refine (wrap_nil op _).mono ?_
    rintro e w16 ⟨rfl, rfl⟩
    go_wp2_with fail
    go_ret
    have := hB14.size
    exact ⟨rfl, (hall.trans (hB14.mono (by omega))).trans (hB15.mono (by omega))⟩

set_option maxRecDepth 100000 in
set_option maxHeartbeats 4000000 in
theorem failTells_some (a : Int) (b : Int) (hb : (b == 0) = false) (op : ByteArray) (w : World) (hE : Env w) (h60 : (op.size : Int) ≤ 60) :
    Calls Tryd.prog 3 #[.int .i64 a, .int .i64 b, .string op] w fun e w' => e = .returned (.bool true) ∧ Below w.heap.size w w' := by
  go_enter Tryd.func3, Tryd.ntmps3
  go_wp2_with fail
  refine (alive_true w hE).mono ?_
  rintro e w1 ⟨rfl, hB1⟩
  have hE1 := hE.grown hB1
  go_wp2_with fail
  refine (new_some b _ hb).mono ?_
  rintro e w2 ⟨rfl, rfl⟩
  rw [show (w1.alloc (.cells #[.string op, .int .i64 a, .nilIface] 28)).heap.size = w1.heap.size + 1 by simp]
  have hB2 : Below w1.heap.size w1 ((w1.alloc (.cells #[.string op, .int .i64 a, .nilIface] 28)).alloc (.cells #[.string ⟨#[]⟩, .int .i64 b, .nilIface] 28)) := ((Below.refl _ _).alloc (Nat.le_refl _) _).alloc (by simp) _
  have hE2 := hE1.grown hB2
  have htwo := hE2.two
  have hz1 := hB1.size
  have hs2 : w1.heap.size < ((w1.alloc (.cells #[.string op, .int .i64 a, .nilIface] 28)).alloc (.cells #[.string ⟨#[]⟩, .int .i64 b, .nilIface] 28)).heap.size := by simp; omega
  have hf2 : ((w1.alloc (.cells #[.string op, .int .i64 a, .nilIface] 28)).alloc (.cells #[.string ⟨#[]⟩, .int .i64 b, .nilIface] 28)).heap[w1.heap.size]? = some (.cells #[.string op, .int .i64 a, .nilIface] 28 (0, 0)) := by
    rw [Below.heap_alloc _ _ _ (by simp)]; exact heap_alloc_new w1 _
  have hg2 : ((w1.alloc (.cells #[.string op, .int .i64 a, .nilIface] 28)).alloc (.cells #[.string ⟨#[]⟩, .int .i64 b, .nilIface] 28)).heap[w1.heap.size + 1]? = some (.cells #[.string ⟨#[]⟩, .int .i64 b, .nilIface] 28 (0, 0)) := by
    have := heap_alloc_new (w1.alloc (.cells #[.string op, .int .i64 a, .nilIface] 28)) (.cells #[.string ⟨#[]⟩, .int .i64 b, .nilIface] 28); simpa using this
  generalize ((w1.alloc (.cells #[.string op, .int .i64 a, .nilIface] 28)).alloc (.cells #[.string ⟨#[]⟩, .int .i64 b, .nilIface] 28)) = w2 at *
  have hg : Errish (.iface 24 (.pointer (some ⟨w1.heap.size + 1, 0, none⟩))) := .inr ⟨_, _, rfl⟩
  have HI : Hid (∀ w' : World, Below w2.heap.size w2 w' → Calls Tryd.prog 15 #[.pointer (some ⟨w1.heap.size, 0, none⟩), .iface 24 (.pointer (some ⟨w1.heap.size + 1, 0, none⟩))] w' fun e w'' => e = .returned (.bool (a == b)) ∧ Below w'.heap.size w' w'') := fun w' hw' => by
    have := isM_any w1.heap.size (w1.heap.size + 1) op a b .nilIface w' ((hw'.block _ (lt_of_heap hf2)).trans hf2) ((hw'.block _ (lt_of_heap hg2)).trans hg2)
    rw [same_code hb] at this
    exact this.mono (by rintro e w'' ⟨rfl, n, rfl⟩; exact ⟨rfl, below_drewN (Below.refl _ _) n⟩)
  clear hf2 hg2
  go_wp2_with fail
  have hzj : w2.heap.size ≤ (w2.alloc (.cells #[.pointer none] 24)).heap.size := by simp
  refine (join_any op a _ _ hg).mono ?_
  rintro e w3 ⟨rfl, rfl⟩
  have hB3 : Below w2.heap.size w2 ((w2.alloc (.cells #[.pointer none] 24)).alloc (.cells #[.string op, .int .i64 a, (.iface 24 (.pointer (some ⟨w1.heap.size + 1, 0, none⟩)))] 28)) := ((Below.refl _ _).alloc (Nat.le_refl _) _).alloc (by simp) _
  have hj3 : ((w2.alloc (.cells #[.pointer none] 24)).alloc (.cells #[.string op, .int .i64 a, (.iface 24 (.pointer (some ⟨w1.heap.size + 1, 0, none⟩)))] 28)).heap[w2.heap.size + 1]? = some (.cells #[.string op, .int .i64 a, (.iface 24 (.pointer (some ⟨w1.heap.size + 1, 0, none⟩)))] 28 (0, 0)) := by
    have := heap_alloc_new (w2.alloc (.cells #[.pointer none] 24)) (.cells #[.string op, .int .i64 a, (.iface 24 (.pointer (some ⟨w1.heap.size + 1, 0, none⟩)))] 28); simpa using this
  have ht3 : ((w2.alloc (.cells #[.pointer none] 24)).alloc (.cells #[.string op, .int .i64 a, (.iface 24 (.pointer (some ⟨w1.heap.size + 1, 0, none⟩)))] 28)).heap[w2.heap.size]? = some (.cells #[.pointer none] 24 (0, 0)) := by
    rw [Below.heap_alloc _ _ _ (by simp)]; exact heap_alloc_new w2 _
  rw [show (w2.alloc (.cells #[.pointer none] 24)).heap.size = w2.heap.size + 1 by simp]
  generalize ((w2.alloc (.cells #[.pointer none] 24)).alloc (.cells #[.string op, .int .i64 a, (.iface 24 (.pointer (some ⟨w1.heap.size + 1, 0, none⟩)))] 28)) = w3 at *
  have hE3 := hE2.grown hB3
  clear hzj
  go_wp2_with fail
  refine (name_any a w3 hE3).mono ?_
  rintro e w4 ⟨rfl, rfl⟩
  go_wp2_with fail
  refine (ref_code a _).mono ?_
  rintro e w5 ⟨rfl, hB5⟩
  go_wp2_with fail
  refine (error_nil _).mono ?_
  rintro e w6 ⟨rfl, rfl⟩
  go_wp2_with fail
  refine (unwrap_nil _).mono ?_
  rintro e w7 ⟨rfl, rfl⟩
  go_wp2_with fail
  refine (isM_recv _ _).mono ?_
  rintro e w8 ⟨rfl, rfl⟩
  go_wp2_with fail
  have hz2 := hB3.size
  refine Calls.mono (HI.out _ (hB3.trans (hB5.mono hz2))) ?_
  rintro e w9 ⟨rfl, hB9⟩
  go_wp2_with fail
  refine (errorsNew _ _).mono ?_
  rintro e w10 ⟨rfl, hB10⟩
  go_wp2_with fail
  refine (isM_other _ _ _).mono ?_
  rintro e w11 ⟨rfl, rfl⟩
  have hz5 := hB5.size
  have hz9 := hB9.size
  have hz10 := hB10.size
  have hB11 : Below w4.heap.size w4 w11 := (hB5.trans (hB9.mono hz5)).trans (hB10.mono (by omega))
  have hz11 := hB11.size
  clear hB5 hB9 hB10 HI
  go_wp2_with fail
  refine (new_any a _).mono ?_
  rintro e w12 ⟨v, rfl, hv, hB12⟩
  have hB13 : Below w4.heap.size w4 w12 := hB11.trans (hB12.mono hz11)
  have hE12 := hE3.grown hB13
  have hj12 := (hB13.block _ (lt_of_heap hj3)).trans hj3
  have ht12 := (hB13.block _ (lt_of_heap ht3)).trans ht3
  have hz13 := hB13.size
  have hall0 : Below w.heap.size w w12 := ((hB1.trans (hB2.mono hz1)).trans (hB3.mono (by omega))).trans (hB13.mono (by omega))
  have HJ : Hid (w12.heap[w2.heap.size + 1]? = some (.cells #[.string op, .int .i64 a, (.iface 24 (.pointer (some ⟨w1.heap.size + 1, 0, none⟩)))] 28 (0, 0))) := hj12
  have HT : Hid (w12.heap[w2.heap.size]? = some (.cells #[.pointer none] 24 (0, 0))) := ht12
  have hz14 : w.heap.size ≤ w2.heap.size := by omega
  have hz15 := lt_of_heap hj12
  clear hj12 ht12 hj3 ht3 hB11 hB12 hB13 hB1 hB2 hB3 hE1 hE2 hE3 hE hz1 hz2 hz11 hz13 hz5 hz9 hz10 hg
  rcases hv with ⟨rfl, h0⟩ | ⟨x, rfl, h0⟩
  all_goals
    go_wp2_with fail
    refine (as_hit ⟨w2.heap.size + 1, 0, none⟩ w2.heap.size (.pointer none) w12 hE12.etype HT.out).mono ?_
    rintro e w13 ⟨rfl, h13, k13⟩
    have hj13 : w13.heap[w2.heap.size + 1]? = some (.cells #[.string op, .int .i64 a, (.iface 24 (.pointer (some ⟨w1.heap.size + 1, 0, none⟩)))] 28 (0, 0)) := (k13.block _ hz15 (by omega)).trans HJ.out
    have ct : w13.cell? ⟨w2.heap.size, 0, none⟩ = some (.pointer (some ⟨w2.heap.size + 1, 0, none⟩)) := by simp [World.cell?, h13]
    have c0 : w13.cell? ⟨w2.heap.size + 1, 0, none⟩ = some (.string op) := by simp [World.cell?, hj13]
    have c1 : w13.cell? ⟨w2.heap.size + 1, 1, none⟩ = some (.int .i64 a) := by simp [World.cell?, hj13]
    have hall : Below w.heap.size w w13 := k13.below hall0 hz14 (by omega)
    have hE13 : Env w13 := Env.below hE12 (k13.below (Below.refl 2 w12) (by have := htwo; omega) hE12.two) (Nat.le_refl _)
    have hsz13 := k13.size
    clear k13 h13 hj13 HJ HT hE12 hall0
    go_wp2_with fail
    refine (errorsNew _ _).mono ?_
    rintro e w14 ⟨rfl, hB14⟩
    have hE14 := hE13.grown hB14
    clear ct c0 c1
    go_wp2_with fail
    refine (code_other _ _ hE14).mono ?_
    rintro e w15 ⟨rfl, hB15⟩
    go_wp2_with fail
    refine (wrap_nil op _).mono ?_
    rintro e w16 ⟨rfl, rfl⟩
    go_wp2_with fail
    go_ret
    have := hB14.size
    exact ⟨rfl, (hall.trans (hB14.mono (by omega))).trans (hB15.mono (by omega))⟩

theorem failTells_true (a b : Int) (op : ByteArray) (w : World) (hE : Env w) (hop : op.size ≤ maxLen) :
    Calls Tryd.prog 3 #[.int .i64 a, .int .i64 b, .string op] w fun e w' => e = .returned (.bool true) ∧ Below w.heap.size w w' := by
  by_cases h60 : 60 < op.size
  · exact failTells_short a b op w hE hop h60
  · cases hb : (b == 0)
    · exact failTells_some a b hb op w hE (by omega)
    · obtain rfl : b = 0 := eq_of_beq hb
      exact failTells_nil a op w hE (by omega)
end Go.Proofs.YtdlnfojohkoifaaDoor
