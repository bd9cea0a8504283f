/-
  What the walk asks of the variables of package retry; message.Safe, against; errors.Is over them; Again, Final, Err.
-/
import Derived.Test.YtekjnicgffeghaaDoorEHas
import Derived.Test.YtekjnicgffeghaaDoorRSpec
import Derived.Test.YtekjnicgffeghaaDoorGDoor
namespace Go.Proofs.YtekjnicgffeghaaDoor
open Go.RowKit Go.Extern.Stop Go.Stop Go.Extern

abbrev svV (a : Addr) : Value := .iface 67 (.pointer (some a))
/-- The two errors of package retry lie in boxes of their own. -/
structure Sent (w : World) (a0 a1 : Addr) : Prop where
  fin : w.cell? ⟨0, 0, none⟩ = some (svV a0)
  twi : w.cell? ⟨3, 0, none⟩ = some (svV a1)
  ne : a1 ≠ a0
  b0 : ∃ c t, w.heap[a0.block]? = some (.cells c t (0, 0))
  b1 : ∃ c t, w.heap[a1.block]? = some (.cells c t (0, 0))
theorem Sent.quiet {w w' : World} {a0 a1 : Addr} (h : Sent w a0 a1) (hk : Keeps nobody w w') : Sent w' a0 a1 := by
  obtain ⟨c0, t0, e0⟩ := h.b0
  obtain ⟨c1, t1, e1⟩ := h.b1
  exact ⟨(hk.cell (p := ⟨0, 0, none⟩) (lt_of_cell h.fin) id).trans h.fin, (hk.cell (p := ⟨3, 0, none⟩) (lt_of_cell h.twi) id).trans h.twi, h.ne,
    ⟨c0, t0, (hk.block _ (lt_of_heap e0) id).trans e0⟩, ⟨c1, t1, (hk.block _ (lt_of_heap e1) id).trans e1⟩⟩
/-- There are two such errors. -/
def EnvS (w : World) : Prop := ∃ a0 a1, Sent w a0 a1
/-- What against tells. -/
def agV (a0 a1 : Addr) : Nat → Value
  | 0 => .nilIface
  | 1 => svV a1
  | _ => svV a0

theorem safe_ok (m : ByteArray) (w : World) : Calls Tryd.prog 34 #[.string m] w fun e w' => e = .returned (.bool (safeB m)) ∧ w = w' := by
  unfold safeB
  cases h1 : (m.toList == [71, 69, 84])
  · cases h2 : (m.toList == [72, 69, 65, 68])
    · cases h3 : (m.toList == [80, 85, 84])
      · cases h4 : (m.toList == [68, 69, 76, 69, 84, 69])
        · cases h5 : (m.toList == [79, 80, 84, 73, 79, 78, 83])
          · go_enter Tryd.func34, Tryd.ntmps34
            go_wp2
            go_ret
            exact ⟨rfl, rfl⟩
          · go_enter Tryd.func34, Tryd.ntmps34
            go_wp2
            go_ret
            exact ⟨rfl, rfl⟩
        · go_enter Tryd.func34, Tryd.ntmps34
          go_wp2
          go_ret
          exact ⟨rfl, rfl⟩
      · go_enter Tryd.func34, Tryd.ntmps34
        go_wp2
        go_ret
        exact ⟨rfl, rfl⟩
    · go_enter Tryd.func34, Tryd.ntmps34
      go_wp2
      go_ret
      exact ⟨rfl, rfl⟩
  · go_enter Tryd.func34, Tryd.ntmps34
    go_wp2
    go_ret
    exact ⟨rfl, rfl⟩

theorem against_dr (m : ByteArray) (c : Int) (hc : drB c = true) (wr : Bool) (a0 a1 : Addr) (w : World) (h : Sent w a0 a1) :
    Calls Tryd.prog 22 #[.string m, .int .i64 c, .bool wr] w fun e w' => e = .returned (agV a0 a1 (if wr && !safeB m then 1 else 0)) ∧ w = w' := by
  have hS := hid (safe_ok m w)
  have h1 := h.twi
  simp only [drB, Bool.or_eq_true, beq_iff_eq] at hc
  cases wr
  · rcases hc with rfl | rfl | rfl | rfl
    all_goals
      go_enter Tryd.func22, Tryd.ntmps22
      go_wp2_with fail
      go_ret
      exact ⟨rfl, rfl⟩
  · generalize safeB m = s at *
    cases s
    all_goals
      rcases hc with rfl | rfl | rfl | rfl
      all_goals
        go_enter Tryd.func22, Tryd.ntmps22
        go_wp2_with fail
        refine Calls.mono hS.out ?_
        rintro e w1 ⟨rfl, rfl⟩
        go_wp2_with fail
        go_ret
        exact ⟨rfl, rfl⟩
theorem against_ok (m : ByteArray) (c : Int) (wr : Bool) (a0 a1 : Addr) (w : World) (h : Sent w a0 a1) :
    Calls Tryd.prog 22 #[.string m, .int .i64 c, .bool wr] w fun e w' => e = .returned (agV a0 a1 (stands m c wr)) ∧ w = w' := by
  cases hr : rgB c with
  | true =>
    rw [stands_rg hr]
    simp only [rgB, Bool.or_eq_true, beq_iff_eq] at hr
    rcases hr with rfl | rfl
    all_goals
      go_enter Tryd.func22, Tryd.ntmps22
      go_wp2_with fail
      go_ret
      exact ⟨rfl, rfl⟩
  | false =>
    cases hd : drB c with
    | true => rw [stands_dr hd]; exact against_dr m c hd wr a0 a1 w h
    | false =>
      rw [stands_none hr hd]
      simp only [rgB, drB, Bool.or_eq_false_iff] at hr hd
      obtain ⟨q1, q2⟩ := hr
      obtain ⟨q3, q4, q5, q6⟩ := hd
      have h0 := h.fin
      clear h
      go_enter Tryd.func22, Tryd.ntmps22
      go_wp2_with fail
      go_ret
      exact ⟨rfl, rfl⟩

theorem compS : (Tryd.prog.info? 67).map (·.comparable) = some true := by kernel_rfl
theorem sizeS : (Tryd.prog.info? 69).map (·.size) = some 1 := by kernel_rfl
theorem comparableS (w : World) : (callFunc 71 #[.agg #[.pointer (some ⟨4, 67, none⟩)]]).run Tryd.prog w = .ok (Next.value (.bool true)) w := by kernel_rfl
/-- errors.is, errors.Is over the two errors, at the one. -/
abbrev IsTells (F : Nat) (args : Array Value) (w : World) (b : Bool) : Prop := Calls Tryd.prog F args w fun e w' => e = .returned (.bool b) ∧ w = w'
set_option maxRecDepth 100000 in
theorem isS_two (a0 a1 : Addr) (w : World) (h : Sent w a0 a1) : IsTells 32 #[svV a1, svV a0, .bool true] w false := by
  obtain ⟨i, hi, hcmp⟩ := Option.map_eq_some_iff.1 compS
  obtain ⟨j, hj, hjs⟩ := Option.map_eq_some_iff.1 sizeS
  obtain ⟨c0, t0, e0⟩ := h.b0
  obtain ⟨c1, t1, e1⟩ := h.b1
  have heql := run_eql_iface_ptr_other (P := Tryd.prog) w Tryd.underlying27 Tryd.underlying67 hi hcmp hj (by rw [hjs]; decide) h.ne e1 e0
  have z1 := pl_Is
  have z2 := pl_U1
  have z3 := pl_U2
  clear hi hcmp hj hjs e0 e1 h
  go_enter Tryd.func32, Tryd.ntmps32
  go_wp2_with fail
  refine wp_loop_rounds 1 ?_
  rw [rounds_succ]
  go_wp2_with fail
  go_ret
  exact ⟨rfl, rfl⟩
set_option maxRecDepth 100000 in
theorem isS_same (a0 : Addr) (w : World) : IsTells 32 #[svV a0, svV a0, .bool true] w true := by
  obtain ⟨i, hi, hcmp⟩ := Option.map_eq_some_iff.1 compS
  obtain ⟨j, hj, hjs⟩ := Option.map_eq_some_iff.1 sizeS
  have heql := run_eql_iface_ptr_same (P := Tryd.prog) w a0 Tryd.underlying27 Tryd.underlying67 hi hcmp hj
  clear hi hcmp hj hjs
  go_enter Tryd.func32, Tryd.ntmps32
  go_wp2_with fail
  refine wp_loop_rounds 1 ?_
  rw [rounds_succ]
  go_wp2_with fail
  go_ret
  exact ⟨rfl, rfl⟩
theorem errorsIsS_nil (a : Addr) (w : World) : IsTells 17 #[.nilIface, svV a] w false := by
  have hn := run_eql_iface_nil_left (P := Tryd.prog) w 67 (.pointer (some a)) Tryd.underlying27
  go_enter Tryd.func17, Tryd.ntmps17
  go_wp2
  go_ret
  exact ⟨rfl, rfl⟩
theorem errorsIsS_some (x a : Addr) (b : Bool) (w : World) (h : IsTells 32 #[svV x, svV a, .bool true] w b) : IsTells 17 #[svV x, svV a] w b := by
  have HC := hid h
  have h8 := hTO
  have tT := typeOfPl
  have cT := comparableS
  have mR := methodComparable
  clear h
  go_enter Tryd.func17, Tryd.ntmps17
  go_wp2_with fail
  refine Calls.mono HC.out ?_
  rintro e w' ⟨rfl, rfl⟩
  go_wp2
  go_ret
  exact ⟨rfl, rfl⟩
theorem errorsIsS_ok (k : Nat) (a0 a1 : Addr) (w : World) (h : Sent w a0 a1) (hk : k ≤ 2) : IsTells 17 #[agV a0 a1 k, svV a0] w (k == 2) := by
  match k, hk with
  | 0, _ => exact errorsIsS_nil a0 w
  | 1, _ => exact errorsIsS_some a1 a0 false w (isS_two a0 a1 w h)
  | 2, _ => exact errorsIsS_some a0 a0 true w (isS_same a0 w)

theorem again_no (m : ByteArray) (c : Int) (wr : Bool) (tries most : Int) (w : World) (ht : ¬ tries < most) :
    Calls Tryd.prog 9 #[.string m, .int .i64 c, .bool wr, .int .i64 tries, .int .i64 most] w fun e w' => e = .returned (.bool false) ∧ w = w' := by
  go_enter Tryd.func9, Tryd.ntmps9
  go_wp2_with fail
  go_ret
  exact ⟨rfl, rfl⟩
theorem again_yes (m : ByteArray) (c : Int) (wr : Bool) (tries most : Int) (a0 a1 : Addr) (w : World) (h : Sent w a0 a1) (ht : tries < most) :
    Calls Tryd.prog 9 #[.string m, .int .i64 c, .bool wr, .int .i64 tries, .int .i64 most] w fun e w' => e = .returned (.bool (stands m c wr == 0)) ∧ w = w' := by
  have HC := against_ok m c wr a0 a1 w h
  have hk := stands_le m c wr
  clear h
  generalize stands m c wr = k at *
  match k, hk with
  | 0, _ =>
    have HC : Hid (Calls Tryd.prog 22 #[.string m, .int .i64 c, .bool wr] w fun e w' => e = .returned .nilIface ∧ w = w') := HC
    go_enter Tryd.func9, Tryd.ntmps9
    go_wp2_with fail
    refine Calls.mono HC.out ?_
    rintro e w1 ⟨rfl, rfl⟩
    go_wp2_with fail
    go_ret
    exact ⟨rfl, rfl⟩
  | 1, _ =>
    have HC : Hid (Calls Tryd.prog 22 #[.string m, .int .i64 c, .bool wr] w fun e w' => e = .returned (svV a1) ∧ w = w') := HC
    go_enter Tryd.func9, Tryd.ntmps9
    go_wp2_with fail
    refine Calls.mono HC.out ?_
    rintro e w1 ⟨rfl, rfl⟩
    go_wp2_with fail
    go_ret
    exact ⟨rfl, rfl⟩
  | 2, _ =>
    have HC : Hid (Calls Tryd.prog 22 #[.string m, .int .i64 c, .bool wr] w fun e w' => e = .returned (svV a0) ∧ w = w') := HC
    go_enter Tryd.func9, Tryd.ntmps9
    go_wp2_with fail
    refine Calls.mono HC.out ?_
    rintro e w1 ⟨rfl, rfl⟩
    go_wp2_with fail
    go_ret
    exact ⟨rfl, rfl⟩
theorem again_ok (m : ByteArray) (c : Int) (wr : Bool) (tries most : Int) (a0 a1 : Addr) (w : World) (h : Sent w a0 a1) :
    Calls Tryd.prog 9 #[.string m, .int .i64 c, .bool wr, .int .i64 tries, .int .i64 most] w fun e w' => e = .returned (.bool (againB m c wr tries most)) ∧ w = w' := by
  unfold againB
  by_cases ht : tries < most
  · rw [decide_eq_true ht, Bool.true_and]; exact again_yes m c wr tries most a0 a1 w h ht
  · rw [decide_eq_false ht, Bool.false_and]; exact again_no m c wr tries most w ht
theorem final_ok (c : Int) (a0 a1 : Addr) (w : World) (h : Sent w a0 a1) :
    Calls Tryd.prog 11 #[.int .i64 c] w fun e w' => e = .returned (.bool (finalB c)) ∧ Keeps nobody w w' := by
  have hk : ∀ n, Keeps nobody w (w.drewN n) := fun n => (Keeps.refl _ _).drewN n
  have HC : Hid (∀ w1, Keeps nobody w w1 → Calls Tryd.prog 22 #[.string ⟨#[]⟩, .int .i64 c, .bool true] w1 fun e w' => e = .returned (agV a0 a1 (stands ⟨#[]⟩ c true)) ∧ w1 = w') := fun w1 h1 => against_ok _ c true a0 a1 w1 (h.quiet h1)
  have HI : Hid (∀ w1, Keeps nobody w w1 → Calls Tryd.prog 17 #[agV a0 a1 (stands ⟨#[]⟩ c true), svV a0] w1 fun e w' => e = .returned (.bool (finalB c)) ∧ w1 = w') := fun w1 h1 => by
    rw [final_stands]; exact errorsIsS_ok _ a0 a1 w1 (h.quiet h1) (stands_le _ _ _)
  have h0 := h.fin
  clear h
  generalize agV a0 a1 (stands ⟨#[]⟩ c true) = V at *
  go_enter Tryd.func11, Tryd.ntmps11
  go_wp2_with fail
  go_region_law (first
    | (go_simp; go_at_call 22; refine Calls.mono (HC.out _ (by first | exact Keeps.refl _ _ | exact (Keeps.refl _ _).drewN _)) ?_; rintro e w1 ⟨rfl, rfl⟩)
    | (go_simp; go_at_call 17; refine Calls.mono (HI.out _ (by first | exact Keeps.refl _ _ | exact (Keeps.refl _ _).drewN _)) ?_; rintro e w1 ⟨rfl, rfl⟩))
  all_goals
    go_wp2_with fail
    go_ret
    exact ⟨rfl, (Keeps.refl _ _).drewN _⟩
theorem err_nil (tries : Int) (w : World) : Calls Tryd.prog 12 #[.int .i64 0, .int .i64 tries] w fun e w' => e = .returned .nilIface ∧ w = w' := by
  go_enter Tryd.func12, Tryd.ntmps12
  go_wp2_with fail
  go_ret
  exact ⟨rfl, rfl⟩
theorem err_ok (c tries : Int) (w : World) (hc : (c == 0) = false) :
    Calls Tryd.prog 12 #[.int .i64 c, .int .i64 tries] w fun e w' => ∃ b, e = .returned (flV b) ∧ Err w' (flV b) (errE c tries) ∧ Keeps nobody w w' := by
  have HN := hid (new_some c w hc)
  have HJ : Hid (∀ op c v w, Errish v → Calls Tryd.prog 24 #[.string op, .int .i64 c, v] w fun e w' => e = .returned (flV w.heap.size) ∧ w' = w.alloc (flObj op c v)) := fun op c v w hv => join_any op c v w hv
  have k1 : Keeps nobody w (w.alloc (flObj ⟨#[]⟩ c .nilIface)) := keeps_alloc _ _
  have e1 : Err (w.alloc (flObj ⟨#[]⟩ c .nilIface)) (flV w.heap.size) (.fl ⟨#[]⟩ c .nil) := .fl (heap_alloc_new w _) .nil
  have k2 := keeps_alloc (w.alloc (flObj ⟨#[]⟩ c .nilIface)) (flObj callS c (flV w.heap.size))
  have z1 : (w.alloc (flObj ⟨#[]⟩ c .nilIface)).heap.size = w.heap.size + 1 := by simp
  have z2 : ((w.alloc (flObj ⟨#[]⟩ c .nilIface)).alloc (flObj callS c (flV w.heap.size))).heap.size = w.heap.size + 1 + 1 := by simp
  have e2 : Err ((w.alloc (flObj ⟨#[]⟩ c .nilIface)).alloc (flObj callS c (flV w.heap.size))) (flV (w.alloc (flObj ⟨#[]⟩ c .nilIface)).heap.size) (callE c) := .fl (heap_alloc_new _ _) (e1.quiet k2)
  rw [z1] at e2
  have k3 := keeps_alloc ((w.alloc (flObj ⟨#[]⟩ c .nilIface)).alloc (flObj callS c (flV w.heap.size))) (flObj againS 23 (flV (w.heap.size + 1)))
  have e3 : Err (((w.alloc (flObj ⟨#[]⟩ c .nilIface)).alloc (flObj callS c (flV w.heap.size))).alloc (flObj againS 23 (flV (w.heap.size + 1)))) (flV ((w.alloc (flObj ⟨#[]⟩ c .nilIface)).alloc (flObj callS c (flV w.heap.size))).heap.size) (.fl againS 23 (callE c)) := .fl (heap_alloc_new _ _) (e2.quiet k3)
  rw [z2] at e3
  have K2 := hid (k1.then k2)
  have E2 := hid e2
  have E3 := hid e3
  have K3 := hid ((k1.then k2).then k3)
  clear k1 e1 k2 e2 k3 e3 z1 z2
  unfold errE
  by_cases ht : 1 < tries
  · rw [if_pos ht]
    go_enter Tryd.func12, Tryd.ntmps12
    go_wp2_with fail
    refine Calls.mono HN.out ?_
    rintro e w1 ⟨rfl, rfl⟩
    go_wp2_with fail
    refine Calls.mono (HJ.out _ _ _ _ (.inr ⟨_, _, rfl⟩)) ?_
    rintro e w1 ⟨rfl, rfl⟩
    go_wp2_with fail
    refine Calls.mono (HJ.out _ _ _ _ (.inr ⟨_, _, rfl⟩)) ?_
    rintro e w1 ⟨rfl, rfl⟩
    go_wp2_with fail
    go_ret
    exact ⟨_, rfl, E3.out, K3.out⟩
  · rw [if_neg ht]
    go_enter Tryd.func12, Tryd.ntmps12
    go_wp2_with fail
    refine Calls.mono HN.out ?_
    rintro e w1 ⟨rfl, rfl⟩
    go_wp2_with fail
    refine Calls.mono (HJ.out _ _ _ _ (.inr ⟨_, _, rfl⟩)) ?_
    rintro e w1 ⟨rfl, rfl⟩
    go_wp2_with fail
    go_ret
    exact ⟨_, rfl, E2.out, K2.out⟩
end Go.Proofs.YtekjnicgffeghaaDoor
