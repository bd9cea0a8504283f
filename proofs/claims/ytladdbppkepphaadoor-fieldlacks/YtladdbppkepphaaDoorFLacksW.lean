/-
  FieldLacks: the walk.
-/
import Derived.Test.YtladdbppkepphaaDoorFMoreW
namespace Go.Proofs.YtladdbppkepphaaDoor
open Go.RowKit

theorem lk_twice0 : requestE (reqL ++ [(sMethod, ⟨#[71, 69, 84]⟩)]) = 7 := by decide +kernel
theorem lk_empty0 : requestE [(sMethod, ⟨#[]⟩), (sScheme, ⟨#[104, 116, 116, 112]⟩), (sAuthority, ⟨#[97]⟩), (sPath, ⟨#[47]⟩)] = 3 := by decide +kernel
theorem lk_cut0 : requestE (reqL.take 0 ++ reqL.drop 1) = 3 := by decide +kernel
theorem lk_twice1 : requestE (reqL ++ [(sScheme, ⟨#[104, 116, 116, 112]⟩)]) = 7 := by decide +kernel
theorem lk_empty1 : requestE [(sMethod, ⟨#[71, 69, 84]⟩), (sScheme, ⟨#[]⟩), (sAuthority, ⟨#[97]⟩), (sPath, ⟨#[47]⟩)] = 3 := by decide +kernel
theorem lk_cut1 : requestE (reqL.take 1 ++ reqL.drop 2) = 3 := by decide +kernel
theorem lk_twice2 : requestE (reqL ++ [(sAuthority, ⟨#[97]⟩)]) = 7 := by decide +kernel
theorem lk_empty2 : requestE [(sMethod, ⟨#[71, 69, 84]⟩), (sScheme, ⟨#[104, 116, 116, 112]⟩), (sAuthority, ⟨#[]⟩), (sPath, ⟨#[47]⟩)] = 3 := by decide +kernel
theorem lk_cut2 : requestE (reqL.take 2 ++ reqL.drop 3) = 3 := by decide +kernel
theorem lk_twice3 : requestE (reqL ++ [(sPath, ⟨#[47]⟩)]) = 7 := by decide +kernel
theorem lk_empty3 : requestE [(sMethod, ⟨#[71, 69, 84]⟩), (sScheme, ⟨#[104, 116, 116, 112]⟩), (sAuthority, ⟨#[97]⟩), (sPath, ⟨#[]⟩)] = 3 := by decide +kernel
theorem lk_cut3 : requestE (reqL.take 3 ++ reqL.drop 4) = 3 := by decide +kernel
theorem Sized.append {l m : List Fld} (h : Sized l) (k : ∀ f ∈ m, f.1.size ≤ 140737488355328 ∧ f.2.size ≤ 140737488355328) : Sized (l ++ m) := by
  intro f hf
  rcases List.mem_append.1 hf with hf | hf
  · exact h f hf
  · exact k f hf
theorem step_append_run_g {P : Program} {ops : Array Oper} {o : Oper} {a : Act} {w : World} {K : Act → World → Prop} {Q : Exit → Act → World → Prop} {E : Prop}
    (hw : Region.wanted o (yielded ops a.tmps) = true) (d x : Operand) (dT sT : TypeId) (hop : o.op = Op.call { callee := Callee.builtin Builtin.append, args := #[d, x], argTypes := #[dT, sT] })
    (v u : Value) (hd : a.eval d = v) (hx : a.eval x = u) {v' : Value} {w' : World} (hr : (Builtin.append_ #[dT, sT] o.type #[v, u]).run P w = .ok v' w') (hK : K (a.put o.dst v') w') :
    if Region.wanted o (yielded ops a.tmps) = true then Oper.wp P o a w K Q else E := by
  rw [if_pos hw]
  unfold Oper.wp execOp
  simp only [hop, resolve, invoke, builtin, Sem.run_bind, Sem.run_pure, Result.andThen_ok, List.map_toArray, List.map_cons, List.map_nil, hd, hx, hr]
  exact hK
attribute [local irreducible] requestE
set_option maxRecDepth 100000 in
set_option maxHeartbeats 2000000 in
theorem lacks_twice0 (which q : Int) (W : World) (hq : which.tmod 4 = q) (q1 : -3 ≤ q) (q2 : q ≤ 3) (hr : (q + 4).tmod 4 = 0)
    (HA : Hid (∀ W, Calls Tryd.prog 10 #[] W fun e w' => e = .returned (.bool true) ∧ Keeps nobody W w'))
    (HQ : Hid (∀ (m : List Fld) (E : Nat), requestE m = E → Sized m → m.length ≤ 1000 → ∀ (w : World) (p : Option Addr) (n c : Nat), Lies w p m nobody → m.length ≤ c → c ≤ maxLen → n = m.length → Calls Tryd.prog 20 #[.slice p n c] w fun e w' => e = .returned (.int .i64 (E : Int)) ∧ Keeps nobody w w')) :
    Calls Tryd.prog 7 #[.int .i64 which, .bool true] W fun e w' => e = .returned (.bool true) ∧ Below W.heap.size W w' := by
  go_enter Tryd.func7, Tryd.ntmps7
  go_wp2_with fail
  refine Calls.mono (HA.out _) ?_
  rintro e w1 ⟨rfl, k1⟩
  have kL := keeps_alloc w1 (.cells #[.string sMethod, .string ⟨#[71, 69, 84]⟩, .string sScheme, .string ⟨#[104, 116, 116, 112]⟩, .string sAuthority, .string ⟨#[97]⟩, .string sPath, .string ⟨#[47]⟩] 39)
  have L0 := lies_alloc w1 reqL #[.string sMethod, .string ⟨#[71, 69, 84]⟩, .string sScheme, .string ⟨#[104, 116, 116, 112]⟩, .string sAuthority, .string ⟨#[97]⟩, .string sPath, .string ⟨#[47]⟩] 39 rfl
  obtain ⟨w2, hw2⟩ : ∃ w2, w2 = w1.alloc (.cells #[.string sMethod, .string ⟨#[71, 69, 84]⟩, .string sScheme, .string ⟨#[104, 116, 116, 112]⟩, .string sAuthority, .string ⟨#[97]⟩, .string sPath, .string ⟨#[47]⟩] 39) := ⟨_, rfl⟩
  rw [← hw2] at kL L0
  go_wp2_with fail
  rw [← hw2]
  obtain ⟨d0, d1⟩ : w2.cell? ⟨w1.heap.size, 0, none⟩ = some (.string sMethod) ∧ w2.cell? ⟨w1.heap.size, 1, none⟩ = some (.string ⟨#[71, 69, 84]⟩) := by
    obtain ⟨b, off, e, _, _, c0, c1⟩ := L0.at 0 (by decide)
    simp only [Option.some.injEq, Addr.mk.injEq] at e
    obtain ⟨rfl, rfl, _⟩ := e
    exact ⟨c0, c1⟩
  have hlt : w1.heap.size < w2.heap.size := by rw [hw2]; simp
  clear hw2
  obtain ⟨p2, c2, w6, r2, R2⟩ := copied_ok L0.drew 4 (by decide) 22
  obtain ⟨p3, c3, w7, r3, R3⟩ := behind_ok R2.out.1 sMethod ⟨#[71, 69, 84]⟩ (by decide) R2.out.2.size 22
  have f0 : w6.cell? ⟨w1.heap.size, 0, none⟩ = some (.string sMethod) := (R2.out.2.undraw.cell (p := ⟨w1.heap.size, 0, none⟩) hlt id).trans d0
  have f1 : w6.cell? ⟨w1.heap.size, 1, none⟩ = some (.string ⟨#[71, 69, 84]⟩) := (R2.out.2.undraw.cell (p := ⟨w1.heap.size, 1, none⟩) hlt id).trans d1
  obtain ⟨p4, c4, w8, r4, R4⟩ := copied_ok (L0.drew.quiet (keeps_alloc w2.drew (.cells #[.string sMethod, .string ⟨#[71, 69, 84]⟩] 39))) 4 (by decide) 22
  have lf := (lies_alloc w2.drew [(sMethod, ⟨#[71, 69, 84]⟩)] #[.string sMethod, .string ⟨#[71, 69, 84]⟩] 39 rfl).quiet R4.out.2
  obtain ⟨p5, c5, w9, r5, R5⟩ := app_lies R4.out.1 lf 1 (by decide) R4.out.2.size 22
  have RR2 := hid r2
  have RR3 := hid r3
  have RR4 := hid r4
  have RR5 := hid r5
  have LA := hid R3.out.1.lies
  have LB := hid R5.out.1.lies
  have CA := hid R3.out.1.cap
  have CB := hid R5.out.1.cap
  have KA := hid (k1.then (kL.then (R2.out.1.fresh R2.out.2 (Nat.le_refl _) R3.out.2).undraw))
  have KB := hid (k1.then (kL.then (R4.out.1.fresh ((keeps_alloc _ _).then R4.out.2) (by simp) R5.out.2).undraw))
  clear r2 r3 r4 r5 lf R2 R3 R4 R5 L0 kL k1
  go_region_law (first | (refine step_append_run rfl (.const (.slice none 0 0)) (.tmp 20) 22 22 rfl (.slice none 0 0) (.slice (some ⟨w1.heap.size, 0, none⟩) 4 4) (by rfl) (by rfl) (by first | exact RR2.out | exact RR4.out) ?_) | (refine step_append_run rfl (.tmp 21) (.tmp 26) 22 22 rfl (.slice p2 4 c2) (.slice (some ⟨w6.heap.size, 0, none⟩) 1 1) (by rfl) (by rfl) RR3.out ?_) | (refine step_append_run rfl (.tmp 21) (.tmp 26) 22 22 rfl (.slice p4 4 c4) (.slice (some ⟨w2.heap.size, 0, none⟩) 1 1) (by rfl) (by rfl) RR5.out ?_) | (go_simp; go_at_call 20; refine Calls.mono (HQ.out (reqL ++ [(sMethod, ⟨#[71, 69, 84]⟩)]) 7 lk_twice0 (reqL_sized.append (by decide +kernel)) (by decide) _ _ _ _ (by first | exact LA.out | exact LB.out) (by first | exact CA.out.1 | exact CB.out.1) (by first | exact CA.out.2 | exact CB.out.2) rfl) ?_; rintro e w10 ⟨rfl, k10⟩))
  all_goals
    go_wp2
    go_ret
    first | exact ⟨rfl, below_of_keeps (KA.out.then k10)⟩ | exact ⟨rfl, below_of_keeps (KB.out.then k10)⟩

set_option maxRecDepth 100000 in
set_option maxHeartbeats 2000000 in
theorem lacks_twice1 (which q : Int) (W : World) (hq : which.tmod 4 = q) (q1 : -3 ≤ q) (q2 : q ≤ 3) (hr : (q + 4).tmod 4 = 1)
    (HA : Hid (∀ W, Calls Tryd.prog 10 #[] W fun e w' => e = .returned (.bool true) ∧ Keeps nobody W w'))
    (HQ : Hid (∀ (m : List Fld) (E : Nat), requestE m = E → Sized m → m.length ≤ 1000 → ∀ (w : World) (p : Option Addr) (n c : Nat), Lies w p m nobody → m.length ≤ c → c ≤ maxLen → n = m.length → Calls Tryd.prog 20 #[.slice p n c] w fun e w' => e = .returned (.int .i64 (E : Int)) ∧ Keeps nobody w w')) :
    Calls Tryd.prog 7 #[.int .i64 which, .bool true] W fun e w' => e = .returned (.bool true) ∧ Below W.heap.size W w' := by
  go_enter Tryd.func7, Tryd.ntmps7
  go_wp2_with fail
  refine Calls.mono (HA.out _) ?_
  rintro e w1 ⟨rfl, k1⟩
  have kL := keeps_alloc w1 (.cells #[.string sMethod, .string ⟨#[71, 69, 84]⟩, .string sScheme, .string ⟨#[104, 116, 116, 112]⟩, .string sAuthority, .string ⟨#[97]⟩, .string sPath, .string ⟨#[47]⟩] 39)
  have L0 := lies_alloc w1 reqL #[.string sMethod, .string ⟨#[71, 69, 84]⟩, .string sScheme, .string ⟨#[104, 116, 116, 112]⟩, .string sAuthority, .string ⟨#[97]⟩, .string sPath, .string ⟨#[47]⟩] 39 rfl
  obtain ⟨w2, hw2⟩ : ∃ w2, w2 = w1.alloc (.cells #[.string sMethod, .string ⟨#[71, 69, 84]⟩, .string sScheme, .string ⟨#[104, 116, 116, 112]⟩, .string sAuthority, .string ⟨#[97]⟩, .string sPath, .string ⟨#[47]⟩] 39) := ⟨_, rfl⟩
  rw [← hw2] at kL L0
  go_wp2_with fail
  rw [← hw2]
  obtain ⟨d0, d1⟩ : w2.cell? ⟨w1.heap.size, 2, none⟩ = some (.string sScheme) ∧ w2.cell? ⟨w1.heap.size, 3, none⟩ = some (.string ⟨#[104, 116, 116, 112]⟩) := by
    obtain ⟨b, off, e, _, _, c0, c1⟩ := L0.at 1 (by decide)
    simp only [Option.some.injEq, Addr.mk.injEq] at e
    obtain ⟨rfl, rfl, _⟩ := e
    exact ⟨c0, c1⟩
  have hlt : w1.heap.size < w2.heap.size := by rw [hw2]; simp
  clear hw2
  obtain ⟨p2, c2, w6, r2, R2⟩ := copied_ok L0.drew 4 (by decide) 22
  obtain ⟨p3, c3, w7, r3, R3⟩ := behind_ok R2.out.1 sScheme ⟨#[104, 116, 116, 112]⟩ (by decide) R2.out.2.size 22
  have f0 : w6.cell? ⟨w1.heap.size, 2, none⟩ = some (.string sScheme) := (R2.out.2.undraw.cell (p := ⟨w1.heap.size, 2, none⟩) hlt id).trans d0
  have f1 : w6.cell? ⟨w1.heap.size, 3, none⟩ = some (.string ⟨#[104, 116, 116, 112]⟩) := (R2.out.2.undraw.cell (p := ⟨w1.heap.size, 3, none⟩) hlt id).trans d1
  obtain ⟨p4, c4, w8, r4, R4⟩ := copied_ok (L0.drew.quiet (keeps_alloc w2.drew (.cells #[.string sScheme, .string ⟨#[104, 116, 116, 112]⟩] 39))) 4 (by decide) 22
  have lf := (lies_alloc w2.drew [(sScheme, ⟨#[104, 116, 116, 112]⟩)] #[.string sScheme, .string ⟨#[104, 116, 116, 112]⟩] 39 rfl).quiet R4.out.2
  obtain ⟨p5, c5, w9, r5, R5⟩ := app_lies R4.out.1 lf 1 (by decide) R4.out.2.size 22
  have RR2 := hid r2
  have RR3 := hid r3
  have RR4 := hid r4
  have RR5 := hid r5
  have LA := hid R3.out.1.lies
  have LB := hid R5.out.1.lies
  have CA := hid R3.out.1.cap
  have CB := hid R5.out.1.cap
  have KA := hid (k1.then (kL.then (R2.out.1.fresh R2.out.2 (Nat.le_refl _) R3.out.2).undraw))
  have KB := hid (k1.then (kL.then (R4.out.1.fresh ((keeps_alloc _ _).then R4.out.2) (by simp) R5.out.2).undraw))
  clear r2 r3 r4 r5 lf R2 R3 R4 R5 L0 kL k1
  go_region_law (first | (refine step_append_run rfl (.const (.slice none 0 0)) (.tmp 20) 22 22 rfl (.slice none 0 0) (.slice (some ⟨w1.heap.size, 0, none⟩) 4 4) (by rfl) (by rfl) (by first | exact RR2.out | exact RR4.out) ?_) | (refine step_append_run rfl (.tmp 21) (.tmp 26) 22 22 rfl (.slice p2 4 c2) (.slice (some ⟨w6.heap.size, 0, none⟩) 1 1) (by rfl) (by rfl) RR3.out ?_) | (refine step_append_run rfl (.tmp 21) (.tmp 26) 22 22 rfl (.slice p4 4 c4) (.slice (some ⟨w2.heap.size, 0, none⟩) 1 1) (by rfl) (by rfl) RR5.out ?_) | (go_simp; go_at_call 20; refine Calls.mono (HQ.out (reqL ++ [(sScheme, ⟨#[104, 116, 116, 112]⟩)]) 7 lk_twice1 (reqL_sized.append (by decide +kernel)) (by decide) _ _ _ _ (by first | exact LA.out | exact LB.out) (by first | exact CA.out.1 | exact CB.out.1) (by first | exact CA.out.2 | exact CB.out.2) rfl) ?_; rintro e w10 ⟨rfl, k10⟩))
  all_goals
    go_wp2
    go_ret
    first | exact ⟨rfl, below_of_keeps (KA.out.then k10)⟩ | exact ⟨rfl, below_of_keeps (KB.out.then k10)⟩

set_option maxRecDepth 100000 in
set_option maxHeartbeats 2000000 in
theorem lacks_twice2 (which q : Int) (W : World) (hq : which.tmod 4 = q) (q1 : -3 ≤ q) (q2 : q ≤ 3) (hr : (q + 4).tmod 4 = 2)
    (HA : Hid (∀ W, Calls Tryd.prog 10 #[] W fun e w' => e = .returned (.bool true) ∧ Keeps nobody W w'))
    (HQ : Hid (∀ (m : List Fld) (E : Nat), requestE m = E → Sized m → m.length ≤ 1000 → ∀ (w : World) (p : Option Addr) (n c : Nat), Lies w p m nobody → m.length ≤ c → c ≤ maxLen → n = m.length → Calls Tryd.prog 20 #[.slice p n c] w fun e w' => e = .returned (.int .i64 (E : Int)) ∧ Keeps nobody w w')) :
    Calls Tryd.prog 7 #[.int .i64 which, .bool true] W fun e w' => e = .returned (.bool true) ∧ Below W.heap.size W w' := by
  go_enter Tryd.func7, Tryd.ntmps7
  go_wp2_with fail
  refine Calls.mono (HA.out _) ?_
  rintro e w1 ⟨rfl, k1⟩
  have kL := keeps_alloc w1 (.cells #[.string sMethod, .string ⟨#[71, 69, 84]⟩, .string sScheme, .string ⟨#[104, 116, 116, 112]⟩, .string sAuthority, .string ⟨#[97]⟩, .string sPath, .string ⟨#[47]⟩] 39)
  have L0 := lies_alloc w1 reqL #[.string sMethod, .string ⟨#[71, 69, 84]⟩, .string sScheme, .string ⟨#[104, 116, 116, 112]⟩, .string sAuthority, .string ⟨#[97]⟩, .string sPath, .string ⟨#[47]⟩] 39 rfl
  obtain ⟨w2, hw2⟩ : ∃ w2, w2 = w1.alloc (.cells #[.string sMethod, .string ⟨#[71, 69, 84]⟩, .string sScheme, .string ⟨#[104, 116, 116, 112]⟩, .string sAuthority, .string ⟨#[97]⟩, .string sPath, .string ⟨#[47]⟩] 39) := ⟨_, rfl⟩
  rw [← hw2] at kL L0
  go_wp2_with fail
  rw [← hw2]
  obtain ⟨d0, d1⟩ : w2.cell? ⟨w1.heap.size, 4, none⟩ = some (.string sAuthority) ∧ w2.cell? ⟨w1.heap.size, 5, none⟩ = some (.string ⟨#[97]⟩) := by
    obtain ⟨b, off, e, _, _, c0, c1⟩ := L0.at 2 (by decide)
    simp only [Option.some.injEq, Addr.mk.injEq] at e
    obtain ⟨rfl, rfl, _⟩ := e
    exact ⟨c0, c1⟩
  have hlt : w1.heap.size < w2.heap.size := by rw [hw2]; simp
  clear hw2
  obtain ⟨p2, c2, w6, r2, R2⟩ := copied_ok L0.drew 4 (by decide) 22
  obtain ⟨p3, c3, w7, r3, R3⟩ := behind_ok R2.out.1 sAuthority ⟨#[97]⟩ (by decide) R2.out.2.size 22
  have f0 : w6.cell? ⟨w1.heap.size, 4, none⟩ = some (.string sAuthority) := (R2.out.2.undraw.cell (p := ⟨w1.heap.size, 4, none⟩) hlt id).trans d0
  have f1 : w6.cell? ⟨w1.heap.size, 5, none⟩ = some (.string ⟨#[97]⟩) := (R2.out.2.undraw.cell (p := ⟨w1.heap.size, 5, none⟩) hlt id).trans d1
  obtain ⟨p4, c4, w8, r4, R4⟩ := copied_ok (L0.drew.quiet (keeps_alloc w2.drew (.cells #[.string sAuthority, .string ⟨#[97]⟩] 39))) 4 (by decide) 22
  have lf := (lies_alloc w2.drew [(sAuthority, ⟨#[97]⟩)] #[.string sAuthority, .string ⟨#[97]⟩] 39 rfl).quiet R4.out.2
  obtain ⟨p5, c5, w9, r5, R5⟩ := app_lies R4.out.1 lf 1 (by decide) R4.out.2.size 22
  have RR2 := hid r2
  have RR3 := hid r3
  have RR4 := hid r4
  have RR5 := hid r5
  have LA := hid R3.out.1.lies
  have LB := hid R5.out.1.lies
  have CA := hid R3.out.1.cap
  have CB := hid R5.out.1.cap
  have KA := hid (k1.then (kL.then (R2.out.1.fresh R2.out.2 (Nat.le_refl _) R3.out.2).undraw))
  have KB := hid (k1.then (kL.then (R4.out.1.fresh ((keeps_alloc _ _).then R4.out.2) (by simp) R5.out.2).undraw))
  clear r2 r3 r4 r5 lf R2 R3 R4 R5 L0 kL k1
  go_region_law (first | (refine step_append_run rfl (.const (.slice none 0 0)) (.tmp 20) 22 22 rfl (.slice none 0 0) (.slice (some ⟨w1.heap.size, 0, none⟩) 4 4) (by rfl) (by rfl) (by first | exact RR2.out | exact RR4.out) ?_) | (refine step_append_run rfl (.tmp 21) (.tmp 26) 22 22 rfl (.slice p2 4 c2) (.slice (some ⟨w6.heap.size, 0, none⟩) 1 1) (by rfl) (by rfl) RR3.out ?_) | (refine step_append_run rfl (.tmp 21) (.tmp 26) 22 22 rfl (.slice p4 4 c4) (.slice (some ⟨w2.heap.size, 0, none⟩) 1 1) (by rfl) (by rfl) RR5.out ?_) | (go_simp; go_at_call 20; refine Calls.mono (HQ.out (reqL ++ [(sAuthority, ⟨#[97]⟩)]) 7 lk_twice2 (reqL_sized.append (by decide +kernel)) (by decide) _ _ _ _ (by first | exact LA.out | exact LB.out) (by first | exact CA.out.1 | exact CB.out.1) (by first | exact CA.out.2 | exact CB.out.2) rfl) ?_; rintro e w10 ⟨rfl, k10⟩))
  all_goals
    go_wp2
    go_ret
    first | exact ⟨rfl, below_of_keeps (KA.out.then k10)⟩ | exact ⟨rfl, below_of_keeps (KB.out.then k10)⟩

set_option maxRecDepth 100000 in
set_option maxHeartbeats 2000000 in
theorem lacks_twice3 (which q : Int) (W : World) (hq : which.tmod 4 = q) (q1 : -3 ≤ q) (q2 : q ≤ 3) (hr : (q + 4).tmod 4 = 3)
    (HA : Hid (∀ W, Calls Tryd.prog 10 #[] W fun e w' => e = .returned (.bool true) ∧ Keeps nobody W w'))
    (HQ : Hid (∀ (m : List Fld) (E : Nat), requestE m = E → Sized m → m.length ≤ 1000 → ∀ (w : World) (p : Option Addr) (n c : Nat), Lies w p m nobody → m.length ≤ c → c ≤ maxLen → n = m.length → Calls Tryd.prog 20 #[.slice p n c] w fun e w' => e = .returned (.int .i64 (E : Int)) ∧ Keeps nobody w w')) :
    Calls Tryd.prog 7 #[.int .i64 which, .bool true] W fun e w' => e = .returned (.bool true) ∧ Below W.heap.size W w' := by
  go_enter Tryd.func7, Tryd.ntmps7
  go_wp2_with fail
  refine Calls.mono (HA.out _) ?_
  rintro e w1 ⟨rfl, k1⟩
  have kL := keeps_alloc w1 (.cells #[.string sMethod, .string ⟨#[71, 69, 84]⟩, .string sScheme, .string ⟨#[104, 116, 116, 112]⟩, .string sAuthority, .string ⟨#[97]⟩, .string sPath, .string ⟨#[47]⟩] 39)
  have L0 := lies_alloc w1 reqL #[.string sMethod, .string ⟨#[71, 69, 84]⟩, .string sScheme, .string ⟨#[104, 116, 116, 112]⟩, .string sAuthority, .string ⟨#[97]⟩, .string sPath, .string ⟨#[47]⟩] 39 rfl
  obtain ⟨w2, hw2⟩ : ∃ w2, w2 = w1.alloc (.cells #[.string sMethod, .string ⟨#[71, 69, 84]⟩, .string sScheme, .string ⟨#[104, 116, 116, 112]⟩, .string sAuthority, .string ⟨#[97]⟩, .string sPath, .string ⟨#[47]⟩] 39) := ⟨_, rfl⟩
  rw [← hw2] at kL L0
  go_wp2_with fail
  rw [← hw2]
  obtain ⟨d0, d1⟩ : w2.cell? ⟨w1.heap.size, 6, none⟩ = some (.string sPath) ∧ w2.cell? ⟨w1.heap.size, 7, none⟩ = some (.string ⟨#[47]⟩) := by
    obtain ⟨b, off, e, _, _, c0, c1⟩ := L0.at 3 (by decide)
    simp only [Option.some.injEq, Addr.mk.injEq] at e
    obtain ⟨rfl, rfl, _⟩ := e
    exact ⟨c0, c1⟩
  have hlt : w1.heap.size < w2.heap.size := by rw [hw2]; simp
  clear hw2
  obtain ⟨p2, c2, w6, r2, R2⟩ := copied_ok L0.drew 4 (by decide) 22
  obtain ⟨p3, c3, w7, r3, R3⟩ := behind_ok R2.out.1 sPath ⟨#[47]⟩ (by decide) R2.out.2.size 22
  have f0 : w6.cell? ⟨w1.heap.size, 6, none⟩ = some (.string sPath) := (R2.out.2.undraw.cell (p := ⟨w1.heap.size, 6, none⟩) hlt id).trans d0
  have f1 : w6.cell? ⟨w1.heap.size, 7, none⟩ = some (.string ⟨#[47]⟩) := (R2.out.2.undraw.cell (p := ⟨w1.heap.size, 7, none⟩) hlt id).trans d1
  obtain ⟨p4, c4, w8, r4, R4⟩ := copied_ok (L0.drew.quiet (keeps_alloc w2.drew (.cells #[.string sPath, .string ⟨#[47]⟩] 39))) 4 (by decide) 22
  have lf := (lies_alloc w2.drew [(sPath, ⟨#[47]⟩)] #[.string sPath, .string ⟨#[47]⟩] 39 rfl).quiet R4.out.2
  obtain ⟨p5, c5, w9, r5, R5⟩ := app_lies R4.out.1 lf 1 (by decide) R4.out.2.size 22
  have RR2 := hid r2
  have RR3 := hid r3
  have RR4 := hid r4
  have RR5 := hid r5
  have LA := hid R3.out.1.lies
  have LB := hid R5.out.1.lies
  have CA := hid R3.out.1.cap
  have CB := hid R5.out.1.cap
  have KA := hid (k1.then (kL.then (R2.out.1.fresh R2.out.2 (Nat.le_refl _) R3.out.2).undraw))
  have KB := hid (k1.then (kL.then (R4.out.1.fresh ((keeps_alloc _ _).then R4.out.2) (by simp) R5.out.2).undraw))
  clear r2 r3 r4 r5 lf R2 R3 R4 R5 L0 kL k1
  go_region_law (first | (refine step_append_run rfl (.const (.slice none 0 0)) (.tmp 20) 22 22 rfl (.slice none 0 0) (.slice (some ⟨w1.heap.size, 0, none⟩) 4 4) (by rfl) (by rfl) (by first | exact RR2.out | exact RR4.out) ?_) | (refine step_append_run rfl (.tmp 21) (.tmp 26) 22 22 rfl (.slice p2 4 c2) (.slice (some ⟨w6.heap.size, 0, none⟩) 1 1) (by rfl) (by rfl) RR3.out ?_) | (refine step_append_run rfl (.tmp 21) (.tmp 26) 22 22 rfl (.slice p4 4 c4) (.slice (some ⟨w2.heap.size, 0, none⟩) 1 1) (by rfl) (by rfl) RR5.out ?_) | (go_simp; go_at_call 20; refine Calls.mono (HQ.out (reqL ++ [(sPath, ⟨#[47]⟩)]) 7 lk_twice3 (reqL_sized.append (by decide +kernel)) (by decide) _ _ _ _ (by first | exact LA.out | exact LB.out) (by first | exact CA.out.1 | exact CB.out.1) (by first | exact CA.out.2 | exact CB.out.2) rfl) ?_; rintro e w10 ⟨rfl, k10⟩))
  all_goals
    go_wp2
    go_ret
    first | exact ⟨rfl, below_of_keeps (KA.out.then k10)⟩ | exact ⟨rfl, below_of_keeps (KB.out.then k10)⟩

set_option maxRecDepth 100000 in
set_option maxHeartbeats 2000000 in
theorem lacks_once0 (which q : Int) (W : World) (hq : which.tmod 4 = q) (q1 : -3 ≤ q) (q2 : q ≤ 3) (hr : (q + 4).tmod 4 = 0)
    (HA : Hid (∀ W, Calls Tryd.prog 10 #[] W fun e w' => e = .returned (.bool true) ∧ Keeps nobody W w'))
    (HQ : Hid (∀ (m : List Fld) (E : Nat), requestE m = E → Sized m → m.length ≤ 1000 → ∀ (w : World) (p : Option Addr) (n c : Nat), Lies w p m nobody → m.length ≤ c → c ≤ maxLen → n = m.length → Calls Tryd.prog 20 #[.slice p n c] w fun e w' => e = .returned (.int .i64 (E : Int)) ∧ Keeps nobody w w')) :
    Calls Tryd.prog 7 #[.int .i64 which, .bool false] W fun e w' => e = .returned (.bool true) ∧ Below W.heap.size W w' := by
  go_enter Tryd.func7, Tryd.ntmps7
  go_wp2_with fail
  refine Calls.mono (HA.out _) ?_
  rintro e w1 ⟨rfl, k1⟩
  have kL := keeps_alloc w1 (.cells #[.string sMethod, .string ⟨#[71, 69, 84]⟩, .string sScheme, .string ⟨#[104, 116, 116, 112]⟩, .string sAuthority, .string ⟨#[97]⟩, .string sPath, .string ⟨#[47]⟩] 39)
  have L0 := lies_alloc w1 reqL #[.string sMethod, .string ⟨#[71, 69, 84]⟩, .string sScheme, .string ⟨#[104, 116, 116, 112]⟩, .string sAuthority, .string ⟨#[97]⟩, .string sPath, .string ⟨#[47]⟩] 39 rfl
  obtain ⟨p2, c2, w6, r2, R2⟩ := copied_ok L0 4 (by decide) 22
  have R2' := hid R2.out.1
  obtain ⟨rb, rfl⟩ : ∃ rb, p2 = some ⟨rb, 0, none⟩ := by
    rcases R2.out.1.2 with ⟨h1, h2⟩ | ⟨rb, cap, cur, h1, _⟩
    · exact absurd h2 (by decide)
    · simp only [Value.slice.injEq] at h1
      exact ⟨rb, h1.1⟩
  have g0 := R2'.out.cellAt 1 (by decide)
  have g0' : w6.cell? ⟨rb, 1, none⟩ = some (.string ⟨#[71, 69, 84]⟩) := g0
  have g1 := R2'.out.frozenAt 1
  have st := R2'.out.stored 1 (.string ⟨#[]⟩)
  have st1 : Owns (w1.alloc (.cells #[.string sMethod, .string ⟨#[71, 69, 84]⟩, .string sScheme, .string ⟨#[104, 116, 116, 112]⟩, .string sAuthority, .string ⟨#[97]⟩, .string sPath, .string ⟨#[47]⟩] 39)).heap.size (w6.setCell ⟨rb, 1, none⟩ (.string ⟨#[]⟩)) (.slice (some ⟨rb, 0, none⟩) 4 c2) [(sMethod, ⟨#[]⟩), (sScheme, ⟨#[104, 116, 116, 112]⟩), (sAuthority, ⟨#[97]⟩), (sPath, ⟨#[47]⟩)] := st.1
  have hrb := (R2'.out.lt rb rfl).1
  have k7 : Keeps nobody (w1.alloc (.cells #[.string sMethod, .string ⟨#[71, 69, 84]⟩, .string sScheme, .string ⟨#[104, 116, 116, 112]⟩, .string sAuthority, .string ⟨#[97]⟩, .string sPath, .string ⟨#[47]⟩] 39)) (w6.setCell ⟨rb, 1, none⟩ (.string ⟨#[]⟩)) := R2.out.2.setCell (.inr hrb) _
  have LM := hid st1.lies
  have CM := hid st1.cap
  have RR2 : Hid ((Builtin.append_ #[22, 22] 22 #[.slice none 0 0, .slice (some ⟨w1.heap.size, 0, none⟩) 4 4]).run Tryd.prog (w1.alloc (.cells #[.string sMethod, .string ⟨#[71, 69, 84]⟩, .string sScheme, .string ⟨#[104, 116, 116, 112]⟩, .string sAuthority, .string ⟨#[97]⟩, .string sPath, .string ⟨#[47]⟩] 39)) = .ok (.slice (some ⟨rb, 0, none⟩) 4 c2) w6) := r2
  have L7 := hid (L0.quiet k7)
  have K7 := hid (And.intro k7 (k1.then (kL.then k7)))
  clear r2 R2 R2' g0 st st1 L0 kL k1 k7 hrb
  go_wp2_with (at_builtin; refine wpList_append_run rfl _ _ 22 22 rfl (.slice none 0 0) (.slice (some ⟨w1.heap.size, 0, none⟩) 4 4) rfl rfl RR2.out ?_)
  obtain ⟨w7, hw7⟩ : ∃ w7, w7 = w6.setCell ⟨rb, 1, none⟩ (.string ⟨#[]⟩) := ⟨_, rfl⟩
  rw [← hw7] at LM L7 K7 ⊢
  clear hw7 g0' g1 RR2
  refine wp_region_any (by kernel_rfl) ?_
  simp only [World.drew_eq]
  refine wpAny_take (i := 0) (v := .slice (some ⟨rb, 0, none⟩) 4 c2) rfl (by kernel_rfl) (by kernel_rfl) (by kernel_rfl) (fun _ _ _ h => h) (Or.inl ⟨by kernel_rfl, ?_⟩) ?_
  · intro w0; go_simp
  simp only [Act.put, List.getElem_toArray, List.getElem_cons_zero, List.setIfInBounds_toArray, List.set_cons_zero, List.set_cons_succ]
  refine wpAny_ready (rs := [1]) (by kernel_rfl) (by simp) ?_
  refine AllReady.cons rfl (fun K' hK => ?_) AllReady.nil
  rw [if_pos (by kernel_rfl)]
  go_simp
  go_at_call 20
  refine Calls.mono (HQ.out [(sMethod, ⟨#[]⟩), (sScheme, ⟨#[104, 116, 116, 112]⟩), (sAuthority, ⟨#[97]⟩), (sPath, ⟨#[47]⟩)] 3 lk_empty0 (by unfold Sized; decide +kernel) (by decide) _ _ _ _ LM.out.drew CM.out.1 CM.out.2 rfl) ?_
  rintro e w10 ⟨rfl, k10⟩
  refine hK _ _ ?_
  clear hK
  obtain ⟨p5, c5, w11, r5, R5⟩ := copied_ok (l := reqL.take 0) (Lies.prefix (m := reqL.drop 0) (by rw [List.take_append_drop]; exact L7.out.quiet k10.undraw)) 4 (by decide) 22
  obtain ⟨p6, c6, w12, r6, R6⟩ := app_lies R5.out.1 (l := reqL.drop 1) (a := (some ⟨w1.heap.size, 2, none⟩)) (S := nobody) (by exact ((L7.out.quiet k10.undraw).quiet R5.out.2).from 1) 3 (by decide) R5.out.2.size 22
  have RR5 : Hid ((Builtin.append_ #[22, 22] 22 #[.slice none 0 0, .slice (some ⟨w1.heap.size, 0, none⟩) 0 4]).run Tryd.prog w10 = .ok (.slice p5 0 c5) w11) := r5
  have RR6 : Hid ((Builtin.append_ #[22, 22] 22 #[.slice p5 0 c5, .slice (some ⟨w1.heap.size, 2, none⟩) 3 3]).run Tryd.prog w11 = .ok (.slice p6 3 c6) w12) := r6
  have K12 := hid (k10.undraw.then (R5.out.1.fresh R5.out.2 (Nat.le_refl _) R6.out.2))
  have L12 := hid R6.out.1.lies
  have C12 := hid R6.out.1.cap
  clear r5 r6 R5 R6
  refine wpAny_take (i := 2) (v := .bool true) rfl (by kernel_rfl) (by kernel_rfl) (by kernel_rfl) (fun _ _ _ h => h) (Or.inl ⟨by kernel_rfl, ?_⟩) ?_
  · intro w0; go_simp
  simp only [Act.put, List.getElem_toArray, List.getElem_cons_succ, List.getElem_cons_zero, List.setIfInBounds_toArray, List.set_cons_zero, List.set_cons_succ]
  refine wpAny_take (i := 3) (v := .bool true) rfl (by kernel_rfl) (by kernel_rfl) (by kernel_rfl) (fun _ _ _ h => h) (Or.inl ⟨by kernel_rfl, ?_⟩) ?_
  · intro w0; go_simp
  simp only [Act.put, List.getElem_toArray, List.getElem_cons_succ, List.getElem_cons_zero, List.setIfInBounds_toArray, List.set_cons_zero, List.set_cons_succ]
  refine wpAny_take (i := 4) (v := .slice (some ⟨w1.heap.size, 0, none⟩) 4 4) rfl (by kernel_rfl) (by kernel_rfl) (by kernel_rfl) (fun _ _ _ h => h) (Or.inl ⟨by kernel_rfl, ?_⟩) ?_
  · intro w0; go_simp
  simp only [Act.put, List.getElem_toArray, List.getElem_cons_succ, List.getElem_cons_zero, List.setIfInBounds_toArray, List.set_cons_zero, List.set_cons_succ]
  refine wpAny_take (i := 5) (v := .int .i64 0) rfl (by kernel_rfl) (by kernel_rfl) (by kernel_rfl) (fun _ _ _ h => h) (Or.inl ⟨by kernel_rfl, ?_⟩) ?_
  · intro w0; go_simp
  simp only [Act.put, List.getElem_toArray, List.getElem_cons_succ, List.getElem_cons_zero, List.setIfInBounds_toArray, List.set_cons_zero, List.set_cons_succ]
  refine wpAny_take (i := 6) (v := .slice (some ⟨w1.heap.size, 0, none⟩) 0 4) rfl (by kernel_rfl) (by kernel_rfl) (by kernel_rfl) (fun _ _ _ h => h) (Or.inl ⟨by kernel_rfl, ?_⟩) ?_
  · intro w0; go_simp
  simp only [Act.put, List.getElem_toArray, List.getElem_cons_succ, List.getElem_cons_zero, List.setIfInBounds_toArray, List.set_cons_zero, List.set_cons_succ]
  refine wpAny_take (i := 8) (v := .slice (some ⟨w1.heap.size, 0, none⟩) 4 4) rfl (by kernel_rfl) (by kernel_rfl) (by kernel_rfl) (fun _ _ _ h => h) (Or.inl ⟨by kernel_rfl, ?_⟩) ?_
  · intro w0; go_simp
  simp only [Act.put, List.getElem_toArray, List.getElem_cons_succ, List.getElem_cons_zero, List.setIfInBounds_toArray, List.set_cons_zero, List.set_cons_succ]
  refine wpAny_take (i := 9) (v := .int .i64 0) rfl (by kernel_rfl) (by kernel_rfl) (by kernel_rfl) (fun _ _ _ h => h) (Or.inl ⟨by kernel_rfl, ?_⟩) ?_
  · intro w0; go_simp
  simp only [Act.put, List.getElem_toArray, List.getElem_cons_succ, List.getElem_cons_zero, List.setIfInBounds_toArray, List.set_cons_zero, List.set_cons_succ]
  refine wpAny_take (i := 10) (v := .int .i64 1) rfl (by kernel_rfl) (by kernel_rfl) (by kernel_rfl) (fun _ _ _ h => h) (Or.inl ⟨by kernel_rfl, ?_⟩) ?_
  · intro w0; go_simp; decide
  simp only [Act.put, List.getElem_toArray, List.getElem_cons_succ, List.getElem_cons_zero, List.setIfInBounds_toArray, List.set_cons_zero, List.set_cons_succ]
  refine wpAny_take (i := 11) (v := .slice (some ⟨w1.heap.size, 2, none⟩) 3 3) rfl (by kernel_rfl) (by kernel_rfl) (by kernel_rfl) (fun _ _ _ h => h) (Or.inl ⟨by kernel_rfl, ?_⟩) ?_
  · intro w0; go_simp
  simp only [Act.put, List.getElem_toArray, List.getElem_cons_succ, List.getElem_cons_zero, List.setIfInBounds_toArray, List.set_cons_zero, List.set_cons_succ]
  refine wpAny_ready (rs := [7]) (by kernel_rfl) (by simp) ?_
  refine AllReady.cons rfl (fun K' hK => ?_) AllReady.nil
  refine step_append_run_g (by kernel_rfl) (.const (.slice none 0 0)) (.tmp 42) 22 22 rfl (.slice none 0 0) (.slice (some ⟨w1.heap.size, 0, none⟩) 0 4) (by rfl) (by rfl) RR5.out ?_
  refine hK _ _ ?_
  clear hK
  simp only [Act.put, List.getElem_toArray, List.getElem_cons_succ, List.getElem_cons_zero, List.setIfInBounds_toArray, List.set_cons_zero, List.set_cons_succ]
  refine wpAny_ready (rs := [12]) (by kernel_rfl) (by simp) ?_
  refine AllReady.cons rfl (fun K' hK => ?_) AllReady.nil
  refine step_append_run_g (by kernel_rfl) (.tmp 43) (.tmp 47) 22 22 rfl (.slice p5 0 c5) (.slice (some ⟨w1.heap.size, 2, none⟩) 3 3) (by rfl) (by rfl) RR6.out ?_
  refine hK _ _ ?_
  clear hK
  simp only [Act.put, List.getElem_toArray, List.getElem_cons_succ, List.getElem_cons_zero, List.setIfInBounds_toArray, List.set_cons_zero, List.set_cons_succ]
  refine wpAny_ready (rs := [13]) (by kernel_rfl) (by simp) ?_
  refine AllReady.cons rfl (fun K' hK => ?_) AllReady.nil
  rw [if_pos (by kernel_rfl)]
  go_simp
  go_at_call 20
  refine Calls.mono (HQ.out (reqL.take 0 ++ reqL.drop 1) 3 lk_cut0 (by unfold Sized; decide +kernel) (by decide) _ _ _ _ L12.out C12.out.1 C12.out.2 rfl) ?_
  rintro e w13 ⟨rfl, k13⟩
  refine hK _ _ ?_
  clear hK
  refine wpAny_take (i := 14) (v := .bool true) rfl (by kernel_rfl) (by kernel_rfl) (by kernel_rfl) (fun _ _ _ h => h) (Or.inl ⟨by kernel_rfl, ?_⟩) ?_
  · intro w0; go_simp
  simp only [Act.put, List.getElem_toArray, List.getElem_cons_succ, List.getElem_cons_zero, List.setIfInBounds_toArray, List.set_cons_zero, List.set_cons_succ]
  refine wpAny_take (i := 15) (v := .bool true) rfl (by kernel_rfl) (by kernel_rfl) (by kernel_rfl) (fun _ _ _ h => h) (Or.inl ⟨by kernel_rfl, ?_⟩) ?_
  · intro w0; go_simp
  simp only [Act.put, List.getElem_toArray, List.getElem_cons_succ, List.getElem_cons_zero, List.setIfInBounds_toArray, List.set_cons_zero, List.set_cons_succ]
  refine wpAny_take (i := 16) (v := .bool true) rfl (by kernel_rfl) (by kernel_rfl) (by kernel_rfl) (fun _ _ _ h => h) (Or.inl ⟨by kernel_rfl, ?_⟩) ?_
  · intro w0; go_simp
  simp only [Act.put, List.getElem_toArray, List.getElem_cons_succ, List.getElem_cons_zero, List.setIfInBounds_toArray, List.set_cons_zero, List.set_cons_succ]
  refine wpAny_take (i := 17) (v := .slice (some ⟨w1.heap.size, 0, none⟩) 4 4) rfl (by kernel_rfl) (by kernel_rfl) (by kernel_rfl) (fun _ _ _ h => h) (Or.inl ⟨by kernel_rfl, ?_⟩) ?_
  · intro w0; go_simp
  simp only [Act.put, List.getElem_toArray, List.getElem_cons_succ, List.getElem_cons_zero, List.setIfInBounds_toArray, List.set_cons_zero, List.set_cons_succ]
  refine wpAny_ready (rs := [18]) (by kernel_rfl) (by simp) ?_
  refine AllReady.cons rfl (fun K' hK => ?_) AllReady.nil
  rw [if_pos (by kernel_rfl)]
  go_simp
  go_at_call 20
  refine Calls.mono (HQ.out reqL 0 req_req reqL_sized (by decide) _ _ _ _ ((L7.out.quiet K12.out).quiet k13) (by decide) (by decide) rfl) ?_
  rintro e w14 ⟨rfl, k14⟩
  refine hK _ _ ?_
  clear hK
  refine wpAny_take (i := 19) (v := .bool true) rfl (by kernel_rfl) (by kernel_rfl) (by kernel_rfl) (fun _ _ _ h => h) (Or.inl ⟨by kernel_rfl, ?_⟩) ?_
  · intro w0; go_simp
  simp only [Act.put, List.getElem_toArray, List.getElem_cons_succ, List.getElem_cons_zero, List.setIfInBounds_toArray, List.set_cons_zero, List.set_cons_succ]
  refine wpAny_take (i := 20) (v := .bool true) rfl (by kernel_rfl) (by kernel_rfl) (by kernel_rfl) (fun _ _ _ h => h) (Or.inl ⟨by kernel_rfl, ?_⟩) ?_
  · intro w0; go_simp
  simp only [Act.put, List.getElem_toArray, List.getElem_cons_succ, List.getElem_cons_zero, List.setIfInBounds_toArray, List.set_cons_zero, List.set_cons_succ]
  refine wpAny_take (i := 21) (v := .bool true) rfl (by kernel_rfl) (by kernel_rfl) (by kernel_rfl) (fun _ _ _ h => h) (Or.inl ⟨by kernel_rfl, ?_⟩) ?_
  · intro w0; go_simp
  simp only [Act.put, List.getElem_toArray, List.getElem_cons_succ, List.getElem_cons_zero, List.setIfInBounds_toArray, List.set_cons_zero, List.set_cons_succ]
  refine wpAny_done (by kernel_rfl) ?_ _
  go_wp2
  go_ret
  exact ⟨rfl, below_of_keeps (((K7.out.2.then K12.out).then k13).then k14)⟩

set_option maxRecDepth 100000 in
set_option maxHeartbeats 2000000 in
theorem lacks_once1 (which q : Int) (W : World) (hq : which.tmod 4 = q) (q1 : -3 ≤ q) (q2 : q ≤ 3) (hr : (q + 4).tmod 4 = 1)
    (HA : Hid (∀ W, Calls Tryd.prog 10 #[] W fun e w' => e = .returned (.bool true) ∧ Keeps nobody W w'))
    (HQ : Hid (∀ (m : List Fld) (E : Nat), requestE m = E → Sized m → m.length ≤ 1000 → ∀ (w : World) (p : Option Addr) (n c : Nat), Lies w p m nobody → m.length ≤ c → c ≤ maxLen → n = m.length → Calls Tryd.prog 20 #[.slice p n c] w fun e w' => e = .returned (.int .i64 (E : Int)) ∧ Keeps nobody w w')) :
    Calls Tryd.prog 7 #[.int .i64 which, .bool false] W fun e w' => e = .returned (.bool true) ∧ Below W.heap.size W w' := by
  go_enter Tryd.func7, Tryd.ntmps7
  go_wp2_with fail
  refine Calls.mono (HA.out _) ?_
  rintro e w1 ⟨rfl, k1⟩
  have kL := keeps_alloc w1 (.cells #[.string sMethod, .string ⟨#[71, 69, 84]⟩, .string sScheme, .string ⟨#[104, 116, 116, 112]⟩, .string sAuthority, .string ⟨#[97]⟩, .string sPath, .string ⟨#[47]⟩] 39)
  have L0 := lies_alloc w1 reqL #[.string sMethod, .string ⟨#[71, 69, 84]⟩, .string sScheme, .string ⟨#[104, 116, 116, 112]⟩, .string sAuthority, .string ⟨#[97]⟩, .string sPath, .string ⟨#[47]⟩] 39 rfl
  obtain ⟨p2, c2, w6, r2, R2⟩ := copied_ok L0 4 (by decide) 22
  have R2' := hid R2.out.1
  obtain ⟨rb, rfl⟩ : ∃ rb, p2 = some ⟨rb, 0, none⟩ := by
    rcases R2.out.1.2 with ⟨h1, h2⟩ | ⟨rb, cap, cur, h1, _⟩
    · exact absurd h2 (by decide)
    · simp only [Value.slice.injEq] at h1
      exact ⟨rb, h1.1⟩
  have g0 := R2'.out.cellAt 3 (by decide)
  have g0' : w6.cell? ⟨rb, 3, none⟩ = some (.string ⟨#[104, 116, 116, 112]⟩) := g0
  have g1 := R2'.out.frozenAt 3
  have st := R2'.out.stored 3 (.string ⟨#[]⟩)
  have st1 : Owns (w1.alloc (.cells #[.string sMethod, .string ⟨#[71, 69, 84]⟩, .string sScheme, .string ⟨#[104, 116, 116, 112]⟩, .string sAuthority, .string ⟨#[97]⟩, .string sPath, .string ⟨#[47]⟩] 39)).heap.size (w6.setCell ⟨rb, 3, none⟩ (.string ⟨#[]⟩)) (.slice (some ⟨rb, 0, none⟩) 4 c2) [(sMethod, ⟨#[71, 69, 84]⟩), (sScheme, ⟨#[]⟩), (sAuthority, ⟨#[97]⟩), (sPath, ⟨#[47]⟩)] := st.1
  have hrb := (R2'.out.lt rb rfl).1
  have k7 : Keeps nobody (w1.alloc (.cells #[.string sMethod, .string ⟨#[71, 69, 84]⟩, .string sScheme, .string ⟨#[104, 116, 116, 112]⟩, .string sAuthority, .string ⟨#[97]⟩, .string sPath, .string ⟨#[47]⟩] 39)) (w6.setCell ⟨rb, 3, none⟩ (.string ⟨#[]⟩)) := R2.out.2.setCell (.inr hrb) _
  have LM := hid st1.lies
  have CM := hid st1.cap
  have RR2 : Hid ((Builtin.append_ #[22, 22] 22 #[.slice none 0 0, .slice (some ⟨w1.heap.size, 0, none⟩) 4 4]).run Tryd.prog (w1.alloc (.cells #[.string sMethod, .string ⟨#[71, 69, 84]⟩, .string sScheme, .string ⟨#[104, 116, 116, 112]⟩, .string sAuthority, .string ⟨#[97]⟩, .string sPath, .string ⟨#[47]⟩] 39)) = .ok (.slice (some ⟨rb, 0, none⟩) 4 c2) w6) := r2
  have L7 := hid (L0.quiet k7)
  have K7 := hid (And.intro k7 (k1.then (kL.then k7)))
  clear r2 R2 R2' g0 st st1 L0 kL k1 k7 hrb
  go_wp2_with (at_builtin; refine wpList_append_run rfl _ _ 22 22 rfl (.slice none 0 0) (.slice (some ⟨w1.heap.size, 0, none⟩) 4 4) rfl rfl RR2.out ?_)
  obtain ⟨w7, hw7⟩ : ∃ w7, w7 = w6.setCell ⟨rb, 3, none⟩ (.string ⟨#[]⟩) := ⟨_, rfl⟩
  rw [← hw7] at LM L7 K7 ⊢
  clear hw7 g0' g1 RR2
  refine wp_region_any (by kernel_rfl) ?_
  simp only [World.drew_eq]
  refine wpAny_take (i := 0) (v := .slice (some ⟨rb, 0, none⟩) 4 c2) rfl (by kernel_rfl) (by kernel_rfl) (by kernel_rfl) (fun _ _ _ h => h) (Or.inl ⟨by kernel_rfl, ?_⟩) ?_
  · intro w0; go_simp
  simp only [Act.put, List.getElem_toArray, List.getElem_cons_zero, List.setIfInBounds_toArray, List.set_cons_zero, List.set_cons_succ]
  refine wpAny_ready (rs := [1]) (by kernel_rfl) (by simp) ?_
  refine AllReady.cons rfl (fun K' hK => ?_) AllReady.nil
  rw [if_pos (by kernel_rfl)]
  go_simp
  go_at_call 20
  refine Calls.mono (HQ.out [(sMethod, ⟨#[71, 69, 84]⟩), (sScheme, ⟨#[]⟩), (sAuthority, ⟨#[97]⟩), (sPath, ⟨#[47]⟩)] 3 lk_empty1 (by unfold Sized; decide +kernel) (by decide) _ _ _ _ LM.out.drew CM.out.1 CM.out.2 rfl) ?_
  rintro e w10 ⟨rfl, k10⟩
  refine hK _ _ ?_
  clear hK
  obtain ⟨p5, c5, w11, r5, R5⟩ := copied_ok (l := reqL.take 1) (Lies.prefix (m := reqL.drop 1) (by rw [List.take_append_drop]; exact L7.out.quiet k10.undraw)) 4 (by decide) 22
  obtain ⟨p6, c6, w12, r6, R6⟩ := app_lies R5.out.1 (l := reqL.drop 2) (a := (some ⟨w1.heap.size, 4, none⟩)) (S := nobody) (by exact ((L7.out.quiet k10.undraw).quiet R5.out.2).from 2) 2 (by decide) R5.out.2.size 22
  have RR5 : Hid ((Builtin.append_ #[22, 22] 22 #[.slice none 0 0, .slice (some ⟨w1.heap.size, 0, none⟩) 1 4]).run Tryd.prog w10 = .ok (.slice p5 1 c5) w11) := r5
  have RR6 : Hid ((Builtin.append_ #[22, 22] 22 #[.slice p5 1 c5, .slice (some ⟨w1.heap.size, 4, none⟩) 2 2]).run Tryd.prog w11 = .ok (.slice p6 3 c6) w12) := r6
  have K12 := hid (k10.undraw.then (R5.out.1.fresh R5.out.2 (Nat.le_refl _) R6.out.2))
  have L12 := hid R6.out.1.lies
  have C12 := hid R6.out.1.cap
  clear r5 r6 R5 R6
  refine wpAny_take (i := 2) (v := .bool true) rfl (by kernel_rfl) (by kernel_rfl) (by kernel_rfl) (fun _ _ _ h => h) (Or.inl ⟨by kernel_rfl, ?_⟩) ?_
  · intro w0; go_simp
  simp only [Act.put, List.getElem_toArray, List.getElem_cons_succ, List.getElem_cons_zero, List.setIfInBounds_toArray, List.set_cons_zero, List.set_cons_succ]
  refine wpAny_take (i := 3) (v := .bool true) rfl (by kernel_rfl) (by kernel_rfl) (by kernel_rfl) (fun _ _ _ h => h) (Or.inl ⟨by kernel_rfl, ?_⟩) ?_
  · intro w0; go_simp
  simp only [Act.put, List.getElem_toArray, List.getElem_cons_succ, List.getElem_cons_zero, List.setIfInBounds_toArray, List.set_cons_zero, List.set_cons_succ]
  refine wpAny_take (i := 4) (v := .slice (some ⟨w1.heap.size, 0, none⟩) 4 4) rfl (by kernel_rfl) (by kernel_rfl) (by kernel_rfl) (fun _ _ _ h => h) (Or.inl ⟨by kernel_rfl, ?_⟩) ?_
  · intro w0; go_simp
  simp only [Act.put, List.getElem_toArray, List.getElem_cons_succ, List.getElem_cons_zero, List.setIfInBounds_toArray, List.set_cons_zero, List.set_cons_succ]
  refine wpAny_take (i := 5) (v := .int .i64 1) rfl (by kernel_rfl) (by kernel_rfl) (by kernel_rfl) (fun _ _ _ h => h) (Or.inl ⟨by kernel_rfl, ?_⟩) ?_
  · intro w0; go_simp
  simp only [Act.put, List.getElem_toArray, List.getElem_cons_succ, List.getElem_cons_zero, List.setIfInBounds_toArray, List.set_cons_zero, List.set_cons_succ]
  refine wpAny_take (i := 6) (v := .slice (some ⟨w1.heap.size, 0, none⟩) 1 4) rfl (by kernel_rfl) (by kernel_rfl) (by kernel_rfl) (fun _ _ _ h => h) (Or.inl ⟨by kernel_rfl, ?_⟩) ?_
  · intro w0; go_simp
  simp only [Act.put, List.getElem_toArray, List.getElem_cons_succ, List.getElem_cons_zero, List.setIfInBounds_toArray, List.set_cons_zero, List.set_cons_succ]
  refine wpAny_take (i := 8) (v := .slice (some ⟨w1.heap.size, 0, none⟩) 4 4) rfl (by kernel_rfl) (by kernel_rfl) (by kernel_rfl) (fun _ _ _ h => h) (Or.inl ⟨by kernel_rfl, ?_⟩) ?_
  · intro w0; go_simp
  simp only [Act.put, List.getElem_toArray, List.getElem_cons_succ, List.getElem_cons_zero, List.setIfInBounds_toArray, List.set_cons_zero, List.set_cons_succ]
  refine wpAny_take (i := 9) (v := .int .i64 1) rfl (by kernel_rfl) (by kernel_rfl) (by kernel_rfl) (fun _ _ _ h => h) (Or.inl ⟨by kernel_rfl, ?_⟩) ?_
  · intro w0; go_simp
  simp only [Act.put, List.getElem_toArray, List.getElem_cons_succ, List.getElem_cons_zero, List.setIfInBounds_toArray, List.set_cons_zero, List.set_cons_succ]
  refine wpAny_take (i := 10) (v := .int .i64 2) rfl (by kernel_rfl) (by kernel_rfl) (by kernel_rfl) (fun _ _ _ h => h) (Or.inl ⟨by kernel_rfl, ?_⟩) ?_
  · intro w0; go_simp; decide
  simp only [Act.put, List.getElem_toArray, List.getElem_cons_succ, List.getElem_cons_zero, List.setIfInBounds_toArray, List.set_cons_zero, List.set_cons_succ]
  refine wpAny_take (i := 11) (v := .slice (some ⟨w1.heap.size, 4, none⟩) 2 2) rfl (by kernel_rfl) (by kernel_rfl) (by kernel_rfl) (fun _ _ _ h => h) (Or.inl ⟨by kernel_rfl, ?_⟩) ?_
  · intro w0; go_simp
  simp only [Act.put, List.getElem_toArray, List.getElem_cons_succ, List.getElem_cons_zero, List.setIfInBounds_toArray, List.set_cons_zero, List.set_cons_succ]
  refine wpAny_ready (rs := [7]) (by kernel_rfl) (by simp) ?_
  refine AllReady.cons rfl (fun K' hK => ?_) AllReady.nil
  refine step_append_run_g (by kernel_rfl) (.const (.slice none 0 0)) (.tmp 42) 22 22 rfl (.slice none 0 0) (.slice (some ⟨w1.heap.size, 0, none⟩) 1 4) (by rfl) (by rfl) RR5.out ?_
  refine hK _ _ ?_
  clear hK
  simp only [Act.put, List.getElem_toArray, List.getElem_cons_succ, List.getElem_cons_zero, List.setIfInBounds_toArray, List.set_cons_zero, List.set_cons_succ]
  refine wpAny_ready (rs := [12]) (by kernel_rfl) (by simp) ?_
  refine AllReady.cons rfl (fun K' hK => ?_) AllReady.nil
  refine step_append_run_g (by kernel_rfl) (.tmp 43) (.tmp 47) 22 22 rfl (.slice p5 1 c5) (.slice (some ⟨w1.heap.size, 4, none⟩) 2 2) (by rfl) (by rfl) RR6.out ?_
  refine hK _ _ ?_
  clear hK
  simp only [Act.put, List.getElem_toArray, List.getElem_cons_succ, List.getElem_cons_zero, List.setIfInBounds_toArray, List.set_cons_zero, List.set_cons_succ]
  refine wpAny_ready (rs := [13]) (by kernel_rfl) (by simp) ?_
  refine AllReady.cons rfl (fun K' hK => ?_) AllReady.nil
  rw [if_pos (by kernel_rfl)]
  go_simp
  go_at_call 20
  refine Calls.mono (HQ.out (reqL.take 1 ++ reqL.drop 2) 3 lk_cut1 (by unfold Sized; decide +kernel) (by decide) _ _ _ _ L12.out C12.out.1 C12.out.2 rfl) ?_
  rintro e w13 ⟨rfl, k13⟩
  refine hK _ _ ?_
  clear hK
  refine wpAny_take (i := 14) (v := .bool true) rfl (by kernel_rfl) (by kernel_rfl) (by kernel_rfl) (fun _ _ _ h => h) (Or.inl ⟨by kernel_rfl, ?_⟩) ?_
  · intro w0; go_simp
  simp only [Act.put, List.getElem_toArray, List.getElem_cons_succ, List.getElem_cons_zero, List.setIfInBounds_toArray, List.set_cons_zero, List.set_cons_succ]
  refine wpAny_take (i := 15) (v := .bool true) rfl (by kernel_rfl) (by kernel_rfl) (by kernel_rfl) (fun _ _ _ h => h) (Or.inl ⟨by kernel_rfl, ?_⟩) ?_
  · intro w0; go_simp
  simp only [Act.put, List.getElem_toArray, List.getElem_cons_succ, List.getElem_cons_zero, List.setIfInBounds_toArray, List.set_cons_zero, List.set_cons_succ]
  refine wpAny_take (i := 16) (v := .bool true) rfl (by kernel_rfl) (by kernel_rfl) (by kernel_rfl) (fun _ _ _ h => h) (Or.inl ⟨by kernel_rfl, ?_⟩) ?_
  · intro w0; go_simp
  simp only [Act.put, List.getElem_toArray, List.getElem_cons_succ, List.getElem_cons_zero, List.setIfInBounds_toArray, List.set_cons_zero, List.set_cons_succ]
  refine wpAny_take (i := 17) (v := .slice (some ⟨w1.heap.size, 0, none⟩) 4 4) rfl (by kernel_rfl) (by kernel_rfl) (by kernel_rfl) (fun _ _ _ h => h) (Or.inl ⟨by kernel_rfl, ?_⟩) ?_
  · intro w0; go_simp
  simp only [Act.put, List.getElem_toArray, List.getElem_cons_succ, List.getElem_cons_zero, List.setIfInBounds_toArray, List.set_cons_zero, List.set_cons_succ]
  refine wpAny_ready (rs := [18]) (by kernel_rfl) (by simp) ?_
  refine AllReady.cons rfl (fun K' hK => ?_) AllReady.nil
  rw [if_pos (by kernel_rfl)]
  go_simp
  go_at_call 20
  refine Calls.mono (HQ.out reqL 0 req_req reqL_sized (by decide) _ _ _ _ ((L7.out.quiet K12.out).quiet k13) (by decide) (by decide) rfl) ?_
  rintro e w14 ⟨rfl, k14⟩
  refine hK _ _ ?_
  clear hK
  refine wpAny_take (i := 19) (v := .bool true) rfl (by kernel_rfl) (by kernel_rfl) (by kernel_rfl) (fun _ _ _ h => h) (Or.inl ⟨by kernel_rfl, ?_⟩) ?_
  · intro w0; go_simp
  simp only [Act.put, List.getElem_toArray, List.getElem_cons_succ, List.getElem_cons_zero, List.setIfInBounds_toArray, List.set_cons_zero, List.set_cons_succ]
  refine wpAny_take (i := 20) (v := .bool true) rfl (by kernel_rfl) (by kernel_rfl) (by kernel_rfl) (fun _ _ _ h => h) (Or.inl ⟨by kernel_rfl, ?_⟩) ?_
  · intro w0; go_simp
  simp only [Act.put, List.getElem_toArray, List.getElem_cons_succ, List.getElem_cons_zero, List.setIfInBounds_toArray, List.set_cons_zero, List.set_cons_succ]
  refine wpAny_take (i := 21) (v := .bool true) rfl (by kernel_rfl) (by kernel_rfl) (by kernel_rfl) (fun _ _ _ h => h) (Or.inl ⟨by kernel_rfl, ?_⟩) ?_
  · intro w0; go_simp
  simp only [Act.put, List.getElem_toArray, List.getElem_cons_succ, List.getElem_cons_zero, List.setIfInBounds_toArray, List.set_cons_zero, List.set_cons_succ]
  refine wpAny_done (by kernel_rfl) ?_ _
  go_wp2
  go_ret
  exact ⟨rfl, below_of_keeps (((K7.out.2.then K12.out).then k13).then k14)⟩

set_option maxRecDepth 100000 in
set_option maxHeartbeats 2000000 in
theorem lacks_once2 (which q : Int) (W : World) (hq : which.tmod 4 = q) (q1 : -3 ≤ q) (q2 : q ≤ 3) (hr : (q + 4).tmod 4 = 2)
    (HA : Hid (∀ W, Calls Tryd.prog 10 #[] W fun e w' => e = .returned (.bool true) ∧ Keeps nobody W w'))
    (HQ : Hid (∀ (m : List Fld) (E : Nat), requestE m = E → Sized m → m.length ≤ 1000 → ∀ (w : World) (p : Option Addr) (n c : Nat), Lies w p m nobody → m.length ≤ c → c ≤ maxLen → n = m.length → Calls Tryd.prog 20 #[.slice p n c] w fun e w' => e = .returned (.int .i64 (E : Int)) ∧ Keeps nobody w w')) :
    Calls Tryd.prog 7 #[.int .i64 which, .bool false] W fun e w' => e = .returned (.bool true) ∧ Below W.heap.size W w' := by
  go_enter Tryd.func7, Tryd.ntmps7
  go_wp2_with fail
  refine Calls.mono (HA.out _) ?_
  rintro e w1 ⟨rfl, k1⟩
  have kL := keeps_alloc w1 (.cells #[.string sMethod, .string ⟨#[71, 69, 84]⟩, .string sScheme, .string ⟨#[104, 116, 116, 112]⟩, .string sAuthority, .string ⟨#[97]⟩, .string sPath, .string ⟨#[47]⟩] 39)
  have L0 := lies_alloc w1 reqL #[.string sMethod, .string ⟨#[71, 69, 84]⟩, .string sScheme, .string ⟨#[104, 116, 116, 112]⟩, .string sAuthority, .string ⟨#[97]⟩, .string sPath, .string ⟨#[47]⟩] 39 rfl
  obtain ⟨p2, c2, w6, r2, R2⟩ := copied_ok L0 4 (by decide) 22
  have R2' := hid R2.out.1
  obtain ⟨rb, rfl⟩ : ∃ rb, p2 = some ⟨rb, 0, none⟩ := by
    rcases R2.out.1.2 with ⟨h1, h2⟩ | ⟨rb, cap, cur, h1, _⟩
    · exact absurd h2 (by decide)
    · simp only [Value.slice.injEq] at h1
      exact ⟨rb, h1.1⟩
  have g0 := R2'.out.cellAt 5 (by decide)
  have g0' : w6.cell? ⟨rb, 5, none⟩ = some (.string ⟨#[97]⟩) := g0
  have g1 := R2'.out.frozenAt 5
  have st := R2'.out.stored 5 (.string ⟨#[]⟩)
  have st1 : Owns (w1.alloc (.cells #[.string sMethod, .string ⟨#[71, 69, 84]⟩, .string sScheme, .string ⟨#[104, 116, 116, 112]⟩, .string sAuthority, .string ⟨#[97]⟩, .string sPath, .string ⟨#[47]⟩] 39)).heap.size (w6.setCell ⟨rb, 5, none⟩ (.string ⟨#[]⟩)) (.slice (some ⟨rb, 0, none⟩) 4 c2) [(sMethod, ⟨#[71, 69, 84]⟩), (sScheme, ⟨#[104, 116, 116, 112]⟩), (sAuthority, ⟨#[]⟩), (sPath, ⟨#[47]⟩)] := st.1
  have hrb := (R2'.out.lt rb rfl).1
  have k7 : Keeps nobody (w1.alloc (.cells #[.string sMethod, .string ⟨#[71, 69, 84]⟩, .string sScheme, .string ⟨#[104, 116, 116, 112]⟩, .string sAuthority, .string ⟨#[97]⟩, .string sPath, .string ⟨#[47]⟩] 39)) (w6.setCell ⟨rb, 5, none⟩ (.string ⟨#[]⟩)) := R2.out.2.setCell (.inr hrb) _
  have LM := hid st1.lies
  have CM := hid st1.cap
  have RR2 : Hid ((Builtin.append_ #[22, 22] 22 #[.slice none 0 0, .slice (some ⟨w1.heap.size, 0, none⟩) 4 4]).run Tryd.prog (w1.alloc (.cells #[.string sMethod, .string ⟨#[71, 69, 84]⟩, .string sScheme, .string ⟨#[104, 116, 116, 112]⟩, .string sAuthority, .string ⟨#[97]⟩, .string sPath, .string ⟨#[47]⟩] 39)) = .ok (.slice (some ⟨rb, 0, none⟩) 4 c2) w6) := r2
  have L7 := hid (L0.quiet k7)
  have K7 := hid (And.intro k7 (k1.then (kL.then k7)))
  clear r2 R2 R2' g0 st st1 L0 kL k1 k7 hrb
  go_wp2_with (at_builtin; refine wpList_append_run rfl _ _ 22 22 rfl (.slice none 0 0) (.slice (some ⟨w1.heap.size, 0, none⟩) 4 4) rfl rfl RR2.out ?_)
  obtain ⟨w7, hw7⟩ : ∃ w7, w7 = w6.setCell ⟨rb, 5, none⟩ (.string ⟨#[]⟩) := ⟨_, rfl⟩
  rw [← hw7] at LM L7 K7 ⊢
  clear hw7 g0' g1 RR2
  refine wp_region_any (by kernel_rfl) ?_
  simp only [World.drew_eq]
  refine wpAny_take (i := 0) (v := .slice (some ⟨rb, 0, none⟩) 4 c2) rfl (by kernel_rfl) (by kernel_rfl) (by kernel_rfl) (fun _ _ _ h => h) (Or.inl ⟨by kernel_rfl, ?_⟩) ?_
  · intro w0; go_simp
  simp only [Act.put, List.getElem_toArray, List.getElem_cons_zero, List.setIfInBounds_toArray, List.set_cons_zero, List.set_cons_succ]
  refine wpAny_ready (rs := [1]) (by kernel_rfl) (by simp) ?_
  refine AllReady.cons rfl (fun K' hK => ?_) AllReady.nil
  rw [if_pos (by kernel_rfl)]
  go_simp
  go_at_call 20
  refine Calls.mono (HQ.out [(sMethod, ⟨#[71, 69, 84]⟩), (sScheme, ⟨#[104, 116, 116, 112]⟩), (sAuthority, ⟨#[]⟩), (sPath, ⟨#[47]⟩)] 3 lk_empty2 (by unfold Sized; decide +kernel) (by decide) _ _ _ _ LM.out.drew CM.out.1 CM.out.2 rfl) ?_
  rintro e w10 ⟨rfl, k10⟩
  refine hK _ _ ?_
  clear hK
  obtain ⟨p5, c5, w11, r5, R5⟩ := copied_ok (l := reqL.take 2) (Lies.prefix (m := reqL.drop 2) (by rw [List.take_append_drop]; exact L7.out.quiet k10.undraw)) 4 (by decide) 22
  obtain ⟨p6, c6, w12, r6, R6⟩ := app_lies R5.out.1 (l := reqL.drop 3) (a := (some ⟨w1.heap.size, 6, none⟩)) (S := nobody) (by exact ((L7.out.quiet k10.undraw).quiet R5.out.2).from 3) 1 (by decide) R5.out.2.size 22
  have RR5 : Hid ((Builtin.append_ #[22, 22] 22 #[.slice none 0 0, .slice (some ⟨w1.heap.size, 0, none⟩) 2 4]).run Tryd.prog w10 = .ok (.slice p5 2 c5) w11) := r5
  have RR6 : Hid ((Builtin.append_ #[22, 22] 22 #[.slice p5 2 c5, .slice (some ⟨w1.heap.size, 6, none⟩) 1 1]).run Tryd.prog w11 = .ok (.slice p6 3 c6) w12) := r6
  have K12 := hid (k10.undraw.then (R5.out.1.fresh R5.out.2 (Nat.le_refl _) R6.out.2))
  have L12 := hid R6.out.1.lies
  have C12 := hid R6.out.1.cap
  clear r5 r6 R5 R6
  refine wpAny_take (i := 2) (v := .bool true) rfl (by kernel_rfl) (by kernel_rfl) (by kernel_rfl) (fun _ _ _ h => h) (Or.inl ⟨by kernel_rfl, ?_⟩) ?_
  · intro w0; go_simp
  simp only [Act.put, List.getElem_toArray, List.getElem_cons_succ, List.getElem_cons_zero, List.setIfInBounds_toArray, List.set_cons_zero, List.set_cons_succ]
  refine wpAny_take (i := 3) (v := .bool true) rfl (by kernel_rfl) (by kernel_rfl) (by kernel_rfl) (fun _ _ _ h => h) (Or.inl ⟨by kernel_rfl, ?_⟩) ?_
  · intro w0; go_simp
  simp only [Act.put, List.getElem_toArray, List.getElem_cons_succ, List.getElem_cons_zero, List.setIfInBounds_toArray, List.set_cons_zero, List.set_cons_succ]
  refine wpAny_take (i := 4) (v := .slice (some ⟨w1.heap.size, 0, none⟩) 4 4) rfl (by kernel_rfl) (by kernel_rfl) (by kernel_rfl) (fun _ _ _ h => h) (Or.inl ⟨by kernel_rfl, ?_⟩) ?_
  · intro w0; go_simp
  simp only [Act.put, List.getElem_toArray, List.getElem_cons_succ, List.getElem_cons_zero, List.setIfInBounds_toArray, List.set_cons_zero, List.set_cons_succ]
  refine wpAny_take (i := 5) (v := .int .i64 2) rfl (by kernel_rfl) (by kernel_rfl) (by kernel_rfl) (fun _ _ _ h => h) (Or.inl ⟨by kernel_rfl, ?_⟩) ?_
  · intro w0; go_simp
  simp only [Act.put, List.getElem_toArray, List.getElem_cons_succ, List.getElem_cons_zero, List.setIfInBounds_toArray, List.set_cons_zero, List.set_cons_succ]
  refine wpAny_take (i := 6) (v := .slice (some ⟨w1.heap.size, 0, none⟩) 2 4) rfl (by kernel_rfl) (by kernel_rfl) (by kernel_rfl) (fun _ _ _ h => h) (Or.inl ⟨by kernel_rfl, ?_⟩) ?_
  · intro w0; go_simp
  simp only [Act.put, List.getElem_toArray, List.getElem_cons_succ, List.getElem_cons_zero, List.setIfInBounds_toArray, List.set_cons_zero, List.set_cons_succ]
  refine wpAny_take (i := 8) (v := .slice (some ⟨w1.heap.size, 0, none⟩) 4 4) rfl (by kernel_rfl) (by kernel_rfl) (by kernel_rfl) (fun _ _ _ h => h) (Or.inl ⟨by kernel_rfl, ?_⟩) ?_
  · intro w0; go_simp
  simp only [Act.put, List.getElem_toArray, List.getElem_cons_succ, List.getElem_cons_zero, List.setIfInBounds_toArray, List.set_cons_zero, List.set_cons_succ]
  refine wpAny_take (i := 9) (v := .int .i64 2) rfl (by kernel_rfl) (by kernel_rfl) (by kernel_rfl) (fun _ _ _ h => h) (Or.inl ⟨by kernel_rfl, ?_⟩) ?_
  · intro w0; go_simp
  simp only [Act.put, List.getElem_toArray, List.getElem_cons_succ, List.getElem_cons_zero, List.setIfInBounds_toArray, List.set_cons_zero, List.set_cons_succ]
  refine wpAny_take (i := 10) (v := .int .i64 3) rfl (by kernel_rfl) (by kernel_rfl) (by kernel_rfl) (fun _ _ _ h => h) (Or.inl ⟨by kernel_rfl, ?_⟩) ?_
  · intro w0; go_simp; decide
  simp only [Act.put, List.getElem_toArray, List.getElem_cons_succ, List.getElem_cons_zero, List.setIfInBounds_toArray, List.set_cons_zero, List.set_cons_succ]
  refine wpAny_take (i := 11) (v := .slice (some ⟨w1.heap.size, 6, none⟩) 1 1) rfl (by kernel_rfl) (by kernel_rfl) (by kernel_rfl) (fun _ _ _ h => h) (Or.inl ⟨by kernel_rfl, ?_⟩) ?_
  · intro w0; go_simp
  simp only [Act.put, List.getElem_toArray, List.getElem_cons_succ, List.getElem_cons_zero, List.setIfInBounds_toArray, List.set_cons_zero, List.set_cons_succ]
  refine wpAny_ready (rs := [7]) (by kernel_rfl) (by simp) ?_
  refine AllReady.cons rfl (fun K' hK => ?_) AllReady.nil
  refine step_append_run_g (by kernel_rfl) (.const (.slice none 0 0)) (.tmp 42) 22 22 rfl (.slice none 0 0) (.slice (some ⟨w1.heap.size, 0, none⟩) 2 4) (by rfl) (by rfl) RR5.out ?_
  refine hK _ _ ?_
  clear hK
  simp only [Act.put, List.getElem_toArray, List.getElem_cons_succ, List.getElem_cons_zero, List.setIfInBounds_toArray, List.set_cons_zero, List.set_cons_succ]
  refine wpAny_ready (rs := [12]) (by kernel_rfl) (by simp) ?_
  refine AllReady.cons rfl (fun K' hK => ?_) AllReady.nil
  refine step_append_run_g (by kernel_rfl) (.tmp 43) (.tmp 47) 22 22 rfl (.slice p5 2 c5) (.slice (some ⟨w1.heap.size, 6, none⟩) 1 1) (by rfl) (by rfl) RR6.out ?_
  refine hK _ _ ?_
  clear hK
  simp only [Act.put, List.getElem_toArray, List.getElem_cons_succ, List.getElem_cons_zero, List.setIfInBounds_toArray, List.set_cons_zero, List.set_cons_succ]
  refine wpAny_ready (rs := [13]) (by kernel_rfl) (by simp) ?_
  refine AllReady.cons rfl (fun K' hK => ?_) AllReady.nil
  rw [if_pos (by kernel_rfl)]
  go_simp
  go_at_call 20
  refine Calls.mono (HQ.out (reqL.take 2 ++ reqL.drop 3) 3 lk_cut2 (by unfold Sized; decide +kernel) (by decide) _ _ _ _ L12.out C12.out.1 C12.out.2 rfl) ?_
  rintro e w13 ⟨rfl, k13⟩
  refine hK _ _ ?_
  clear hK
  refine wpAny_take (i := 14) (v := .bool true) rfl (by kernel_rfl) (by kernel_rfl) (by kernel_rfl) (fun _ _ _ h => h) (Or.inl ⟨by kernel_rfl, ?_⟩) ?_
  · intro w0; go_simp
  simp only [Act.put, List.getElem_toArray, List.getElem_cons_succ, List.getElem_cons_zero, List.setIfInBounds_toArray, List.set_cons_zero, List.set_cons_succ]
  refine wpAny_take (i := 15) (v := .bool true) rfl (by kernel_rfl) (by kernel_rfl) (by kernel_rfl) (fun _ _ _ h => h) (Or.inl ⟨by kernel_rfl, ?_⟩) ?_
  · intro w0; go_simp
  simp only [Act.put, List.getElem_toArray, List.getElem_cons_succ, List.getElem_cons_zero, List.setIfInBounds_toArray, List.set_cons_zero, List.set_cons_succ]
  refine wpAny_take (i := 16) (v := .bool true) rfl (by kernel_rfl) (by kernel_rfl) (by kernel_rfl) (fun _ _ _ h => h) (Or.inl ⟨by kernel_rfl, ?_⟩) ?_
  · intro w0; go_simp
  simp only [Act.put, List.getElem_toArray, List.getElem_cons_succ, List.getElem_cons_zero, List.setIfInBounds_toArray, List.set_cons_zero, List.set_cons_succ]
  refine wpAny_take (i := 17) (v := .slice (some ⟨w1.heap.size, 0, none⟩) 4 4) rfl (by kernel_rfl) (by kernel_rfl) (by kernel_rfl) (fun _ _ _ h => h) (Or.inl ⟨by kernel_rfl, ?_⟩) ?_
  · intro w0; go_simp
  simp only [Act.put, List.getElem_toArray, List.getElem_cons_succ, List.getElem_cons_zero, List.setIfInBounds_toArray, List.set_cons_zero, List.set_cons_succ]
  refine wpAny_ready (rs := [18]) (by kernel_rfl) (by simp) ?_
  refine AllReady.cons rfl (fun K' hK => ?_) AllReady.nil
  rw [if_pos (by kernel_rfl)]
  go_simp
  go_at_call 20
  refine Calls.mono (HQ.out reqL 0 req_req reqL_sized (by decide) _ _ _ _ ((L7.out.quiet K12.out).quiet k13) (by decide) (by decide) rfl) ?_
  rintro e w14 ⟨rfl, k14⟩
  refine hK _ _ ?_
  clear hK
  refine wpAny_take (i := 19) (v := .bool true) rfl (by kernel_rfl) (by kernel_rfl) (by kernel_rfl) (fun _ _ _ h => h) (Or.inl ⟨by kernel_rfl, ?_⟩) ?_
  · intro w0; go_simp
  simp only [Act.put, List.getElem_toArray, List.getElem_cons_succ, List.getElem_cons_zero, List.setIfInBounds_toArray, List.set_cons_zero, List.set_cons_succ]
  refine wpAny_take (i := 20) (v := .bool true) rfl (by kernel_rfl) (by kernel_rfl) (by kernel_rfl) (fun _ _ _ h => h) (Or.inl ⟨by kernel_rfl, ?_⟩) ?_
  · intro w0; go_simp
  simp only [Act.put, List.getElem_toArray, List.getElem_cons_succ, List.getElem_cons_zero, List.setIfInBounds_toArray, List.set_cons_zero, List.set_cons_succ]
  refine wpAny_take (i := 21) (v := .bool true) rfl (by kernel_rfl) (by kernel_rfl) (by kernel_rfl) (fun _ _ _ h => h) (Or.inl ⟨by kernel_rfl, ?_⟩) ?_
  · intro w0; go_simp
  simp only [Act.put, List.getElem_toArray, List.getElem_cons_succ, List.getElem_cons_zero, List.setIfInBounds_toArray, List.set_cons_zero, List.set_cons_succ]
  refine wpAny_done (by kernel_rfl) ?_ _
  go_wp2
  go_ret
  exact ⟨rfl, below_of_keeps (((K7.out.2.then K12.out).then k13).then k14)⟩

set_option maxRecDepth 100000 in
set_option maxHeartbeats 2000000 in
theorem lacks_once3 (which q : Int) (W : World) (hq : which.tmod 4 = q) (q1 : -3 ≤ q) (q2 : q ≤ 3) (hr : (q + 4).tmod 4 = 3)
    (HA : Hid (∀ W, Calls Tryd.prog 10 #[] W fun e w' => e = .returned (.bool true) ∧ Keeps nobody W w'))
    (HQ : Hid (∀ (m : List Fld) (E : Nat), requestE m = E → Sized m → m.length ≤ 1000 → ∀ (w : World) (p : Option Addr) (n c : Nat), Lies w p m nobody → m.length ≤ c → c ≤ maxLen → n = m.length → Calls Tryd.prog 20 #[.slice p n c] w fun e w' => e = .returned (.int .i64 (E : Int)) ∧ Keeps nobody w w')) :
    Calls Tryd.prog 7 #[.int .i64 which, .bool false] W fun e w' => e = .returned (.bool true) ∧ Below W.heap.size W w' := by
  go_enter Tryd.func7, Tryd.ntmps7
  go_wp2_with fail
  refine Calls.mono (HA.out _) ?_
  rintro e w1 ⟨rfl, k1⟩
  have kL := keeps_alloc w1 (.cells #[.string sMethod, .string ⟨#[71, 69, 84]⟩, .string sScheme, .string ⟨#[104, 116, 116, 112]⟩, .string sAuthority, .string ⟨#[97]⟩, .string sPath, .string ⟨#[47]⟩] 39)
  have L0 := lies_alloc w1 reqL #[.string sMethod, .string ⟨#[71, 69, 84]⟩, .string sScheme, .string ⟨#[104, 116, 116, 112]⟩, .string sAuthority, .string ⟨#[97]⟩, .string sPath, .string ⟨#[47]⟩] 39 rfl
  obtain ⟨p2, c2, w6, r2, R2⟩ := copied_ok L0 4 (by decide) 22
  have R2' := hid R2.out.1
  obtain ⟨rb, rfl⟩ : ∃ rb, p2 = some ⟨rb, 0, none⟩ := by
    rcases R2.out.1.2 with ⟨h1, h2⟩ | ⟨rb, cap, cur, h1, _⟩
    · exact absurd h2 (by decide)
    · simp only [Value.slice.injEq] at h1
      exact ⟨rb, h1.1⟩
  have g0 := R2'.out.cellAt 7 (by decide)
  have g0' : w6.cell? ⟨rb, 7, none⟩ = some (.string ⟨#[47]⟩) := g0
  have g1 := R2'.out.frozenAt 7
  have st := R2'.out.stored 7 (.string ⟨#[]⟩)
  have st1 : Owns (w1.alloc (.cells #[.string sMethod, .string ⟨#[71, 69, 84]⟩, .string sScheme, .string ⟨#[104, 116, 116, 112]⟩, .string sAuthority, .string ⟨#[97]⟩, .string sPath, .string ⟨#[47]⟩] 39)).heap.size (w6.setCell ⟨rb, 7, none⟩ (.string ⟨#[]⟩)) (.slice (some ⟨rb, 0, none⟩) 4 c2) [(sMethod, ⟨#[71, 69, 84]⟩), (sScheme, ⟨#[104, 116, 116, 112]⟩), (sAuthority, ⟨#[97]⟩), (sPath, ⟨#[]⟩)] := st.1
  have hrb := (R2'.out.lt rb rfl).1
  have k7 : Keeps nobody (w1.alloc (.cells #[.string sMethod, .string ⟨#[71, 69, 84]⟩, .string sScheme, .string ⟨#[104, 116, 116, 112]⟩, .string sAuthority, .string ⟨#[97]⟩, .string sPath, .string ⟨#[47]⟩] 39)) (w6.setCell ⟨rb, 7, none⟩ (.string ⟨#[]⟩)) := R2.out.2.setCell (.inr hrb) _
  have LM := hid st1.lies
  have CM := hid st1.cap
  have RR2 : Hid ((Builtin.append_ #[22, 22] 22 #[.slice none 0 0, .slice (some ⟨w1.heap.size, 0, none⟩) 4 4]).run Tryd.prog (w1.alloc (.cells #[.string sMethod, .string ⟨#[71, 69, 84]⟩, .string sScheme, .string ⟨#[104, 116, 116, 112]⟩, .string sAuthority, .string ⟨#[97]⟩, .string sPath, .string ⟨#[47]⟩] 39)) = .ok (.slice (some ⟨rb, 0, none⟩) 4 c2) w6) := r2
  have L7 := hid (L0.quiet k7)
  have K7 := hid (And.intro k7 (k1.then (kL.then k7)))
  clear r2 R2 R2' g0 st st1 L0 kL k1 k7 hrb
  go_wp2_with (at_builtin; refine wpList_append_run rfl _ _ 22 22 rfl (.slice none 0 0) (.slice (some ⟨w1.heap.size, 0, none⟩) 4 4) rfl rfl RR2.out ?_)
  obtain ⟨w7, hw7⟩ : ∃ w7, w7 = w6.setCell ⟨rb, 7, none⟩ (.string ⟨#[]⟩) := ⟨_, rfl⟩
  rw [← hw7] at LM L7 K7 ⊢
  clear hw7 g0' g1 RR2
  refine wp_region_any (by kernel_rfl) ?_
  simp only [World.drew_eq]
  refine wpAny_take (i := 0) (v := .slice (some ⟨rb, 0, none⟩) 4 c2) rfl (by kernel_rfl) (by kernel_rfl) (by kernel_rfl) (fun _ _ _ h => h) (Or.inl ⟨by kernel_rfl, ?_⟩) ?_
  · intro w0; go_simp
  simp only [Act.put, List.getElem_toArray, List.getElem_cons_zero, List.setIfInBounds_toArray, List.set_cons_zero, List.set_cons_succ]
  refine wpAny_ready (rs := [1]) (by kernel_rfl) (by simp) ?_
  refine AllReady.cons rfl (fun K' hK => ?_) AllReady.nil
  rw [if_pos (by kernel_rfl)]
  go_simp
  go_at_call 20
  refine Calls.mono (HQ.out [(sMethod, ⟨#[71, 69, 84]⟩), (sScheme, ⟨#[104, 116, 116, 112]⟩), (sAuthority, ⟨#[97]⟩), (sPath, ⟨#[]⟩)] 3 lk_empty3 (by unfold Sized; decide +kernel) (by decide) _ _ _ _ LM.out.drew CM.out.1 CM.out.2 rfl) ?_
  rintro e w10 ⟨rfl, k10⟩
  refine hK _ _ ?_
  clear hK
  obtain ⟨p5, c5, w11, r5, R5⟩ := copied_ok (l := reqL.take 3) (Lies.prefix (m := reqL.drop 3) (by rw [List.take_append_drop]; exact L7.out.quiet k10.undraw)) 4 (by decide) 22
  obtain ⟨p6, c6, w12, r6, R6⟩ := app_lies R5.out.1 (l := reqL.drop 4) (a := (some ⟨w1.heap.size, 0, none⟩)) (S := nobody) (by exact .inl rfl) 0 (by decide) R5.out.2.size 22
  have RR5 : Hid ((Builtin.append_ #[22, 22] 22 #[.slice none 0 0, .slice (some ⟨w1.heap.size, 0, none⟩) 3 4]).run Tryd.prog w10 = .ok (.slice p5 3 c5) w11) := r5
  have RR6 : Hid ((Builtin.append_ #[22, 22] 22 #[.slice p5 3 c5, .slice (some ⟨w1.heap.size, 0, none⟩) 0 0]).run Tryd.prog w11 = .ok (.slice p6 3 c6) w12) := r6
  have K12 := hid (k10.undraw.then (R5.out.1.fresh R5.out.2 (Nat.le_refl _) R6.out.2))
  have L12 := hid R6.out.1.lies
  have C12 := hid R6.out.1.cap
  clear r5 r6 R5 R6
  refine wpAny_take (i := 2) (v := .bool true) rfl (by kernel_rfl) (by kernel_rfl) (by kernel_rfl) (fun _ _ _ h => h) (Or.inl ⟨by kernel_rfl, ?_⟩) ?_
  · intro w0; go_simp
  simp only [Act.put, List.getElem_toArray, List.getElem_cons_succ, List.getElem_cons_zero, List.setIfInBounds_toArray, List.set_cons_zero, List.set_cons_succ]
  refine wpAny_take (i := 3) (v := .bool true) rfl (by kernel_rfl) (by kernel_rfl) (by kernel_rfl) (fun _ _ _ h => h) (Or.inl ⟨by kernel_rfl, ?_⟩) ?_
  · intro w0; go_simp
  simp only [Act.put, List.getElem_toArray, List.getElem_cons_succ, List.getElem_cons_zero, List.setIfInBounds_toArray, List.set_cons_zero, List.set_cons_succ]
  refine wpAny_take (i := 4) (v := .slice (some ⟨w1.heap.size, 0, none⟩) 4 4) rfl (by kernel_rfl) (by kernel_rfl) (by kernel_rfl) (fun _ _ _ h => h) (Or.inl ⟨by kernel_rfl, ?_⟩) ?_
  · intro w0; go_simp
  simp only [Act.put, List.getElem_toArray, List.getElem_cons_succ, List.getElem_cons_zero, List.setIfInBounds_toArray, List.set_cons_zero, List.set_cons_succ]
  refine wpAny_take (i := 5) (v := .int .i64 3) rfl (by kernel_rfl) (by kernel_rfl) (by kernel_rfl) (fun _ _ _ h => h) (Or.inl ⟨by kernel_rfl, ?_⟩) ?_
  · intro w0; go_simp
  simp only [Act.put, List.getElem_toArray, List.getElem_cons_succ, List.getElem_cons_zero, List.setIfInBounds_toArray, List.set_cons_zero, List.set_cons_succ]
  refine wpAny_take (i := 6) (v := .slice (some ⟨w1.heap.size, 0, none⟩) 3 4) rfl (by kernel_rfl) (by kernel_rfl) (by kernel_rfl) (fun _ _ _ h => h) (Or.inl ⟨by kernel_rfl, ?_⟩) ?_
  · intro w0; go_simp
  simp only [Act.put, List.getElem_toArray, List.getElem_cons_succ, List.getElem_cons_zero, List.setIfInBounds_toArray, List.set_cons_zero, List.set_cons_succ]
  refine wpAny_take (i := 8) (v := .slice (some ⟨w1.heap.size, 0, none⟩) 4 4) rfl (by kernel_rfl) (by kernel_rfl) (by kernel_rfl) (fun _ _ _ h => h) (Or.inl ⟨by kernel_rfl, ?_⟩) ?_
  · intro w0; go_simp
  simp only [Act.put, List.getElem_toArray, List.getElem_cons_succ, List.getElem_cons_zero, List.setIfInBounds_toArray, List.set_cons_zero, List.set_cons_succ]
  refine wpAny_take (i := 9) (v := .int .i64 3) rfl (by kernel_rfl) (by kernel_rfl) (by kernel_rfl) (fun _ _ _ h => h) (Or.inl ⟨by kernel_rfl, ?_⟩) ?_
  · intro w0; go_simp
  simp only [Act.put, List.getElem_toArray, List.getElem_cons_succ, List.getElem_cons_zero, List.setIfInBounds_toArray, List.set_cons_zero, List.set_cons_succ]
  refine wpAny_take (i := 10) (v := .int .i64 4) rfl (by kernel_rfl) (by kernel_rfl) (by kernel_rfl) (fun _ _ _ h => h) (Or.inl ⟨by kernel_rfl, ?_⟩) ?_
  · intro w0; go_simp; decide
  simp only [Act.put, List.getElem_toArray, List.getElem_cons_succ, List.getElem_cons_zero, List.setIfInBounds_toArray, List.set_cons_zero, List.set_cons_succ]
  refine wpAny_take (i := 11) (v := .slice (some ⟨w1.heap.size, 0, none⟩) 0 0) rfl (by kernel_rfl) (by kernel_rfl) (by kernel_rfl) (fun _ _ _ h => h) (Or.inl ⟨by kernel_rfl, ?_⟩) ?_
  · intro w0; go_simp
  simp only [Act.put, List.getElem_toArray, List.getElem_cons_succ, List.getElem_cons_zero, List.setIfInBounds_toArray, List.set_cons_zero, List.set_cons_succ]
  refine wpAny_ready (rs := [7]) (by kernel_rfl) (by simp) ?_
  refine AllReady.cons rfl (fun K' hK => ?_) AllReady.nil
  refine step_append_run_g (by kernel_rfl) (.const (.slice none 0 0)) (.tmp 42) 22 22 rfl (.slice none 0 0) (.slice (some ⟨w1.heap.size, 0, none⟩) 3 4) (by rfl) (by rfl) RR5.out ?_
  refine hK _ _ ?_
  clear hK
  simp only [Act.put, List.getElem_toArray, List.getElem_cons_succ, List.getElem_cons_zero, List.setIfInBounds_toArray, List.set_cons_zero, List.set_cons_succ]
  refine wpAny_ready (rs := [12]) (by kernel_rfl) (by simp) ?_
  refine AllReady.cons rfl (fun K' hK => ?_) AllReady.nil
  refine step_append_run_g (by kernel_rfl) (.tmp 43) (.tmp 47) 22 22 rfl (.slice p5 3 c5) (.slice (some ⟨w1.heap.size, 0, none⟩) 0 0) (by rfl) (by rfl) RR6.out ?_
  refine hK _ _ ?_
  clear hK
  simp only [Act.put, List.getElem_toArray, List.getElem_cons_succ, List.getElem_cons_zero, List.setIfInBounds_toArray, List.set_cons_zero, List.set_cons_succ]
  refine wpAny_ready (rs := [13]) (by kernel_rfl) (by simp) ?_
  refine AllReady.cons rfl (fun K' hK => ?_) AllReady.nil
  rw [if_pos (by kernel_rfl)]
  go_simp
  go_at_call 20
  refine Calls.mono (HQ.out (reqL.take 3 ++ reqL.drop 4) 3 lk_cut3 (by unfold Sized; decide +kernel) (by decide) _ _ _ _ L12.out C12.out.1 C12.out.2 rfl) ?_
  rintro e w13 ⟨rfl, k13⟩
  refine hK _ _ ?_
  clear hK
  refine wpAny_take (i := 14) (v := .bool true) rfl (by kernel_rfl) (by kernel_rfl) (by kernel_rfl) (fun _ _ _ h => h) (Or.inl ⟨by kernel_rfl, ?_⟩) ?_
  · intro w0; go_simp
  simp only [Act.put, List.getElem_toArray, List.getElem_cons_succ, List.getElem_cons_zero, List.setIfInBounds_toArray, List.set_cons_zero, List.set_cons_succ]
  refine wpAny_take (i := 15) (v := .bool true) rfl (by kernel_rfl) (by kernel_rfl) (by kernel_rfl) (fun _ _ _ h => h) (Or.inl ⟨by kernel_rfl, ?_⟩) ?_
  · intro w0; go_simp
  simp only [Act.put, List.getElem_toArray, List.getElem_cons_succ, List.getElem_cons_zero, List.setIfInBounds_toArray, List.set_cons_zero, List.set_cons_succ]
  refine wpAny_take (i := 16) (v := .bool true) rfl (by kernel_rfl) (by kernel_rfl) (by kernel_rfl) (fun _ _ _ h => h) (Or.inl ⟨by kernel_rfl, ?_⟩) ?_
  · intro w0; go_simp
  simp only [Act.put, List.getElem_toArray, List.getElem_cons_succ, List.getElem_cons_zero, List.setIfInBounds_toArray, List.set_cons_zero, List.set_cons_succ]
  refine wpAny_take (i := 17) (v := .slice (some ⟨w1.heap.size, 0, none⟩) 4 4) rfl (by kernel_rfl) (by kernel_rfl) (by kernel_rfl) (fun _ _ _ h => h) (Or.inl ⟨by kernel_rfl, ?_⟩) ?_
  · intro w0; go_simp
  simp only [Act.put, List.getElem_toArray, List.getElem_cons_succ, List.getElem_cons_zero, List.setIfInBounds_toArray, List.set_cons_zero, List.set_cons_succ]
  refine wpAny_ready (rs := [18]) (by kernel_rfl) (by simp) ?_
  refine AllReady.cons rfl (fun K' hK => ?_) AllReady.nil
  rw [if_pos (by kernel_rfl)]
  go_simp
  go_at_call 20
  refine Calls.mono (HQ.out reqL 0 req_req reqL_sized (by decide) _ _ _ _ ((L7.out.quiet K12.out).quiet k13) (by decide) (by decide) rfl) ?_
  rintro e w14 ⟨rfl, k14⟩
  refine hK _ _ ?_
  clear hK
  refine wpAny_take (i := 19) (v := .bool true) rfl (by kernel_rfl) (by kernel_rfl) (by kernel_rfl) (fun _ _ _ h => h) (Or.inl ⟨by kernel_rfl, ?_⟩) ?_
  · intro w0; go_simp
  simp only [Act.put, List.getElem_toArray, List.getElem_cons_succ, List.getElem_cons_zero, List.setIfInBounds_toArray, List.set_cons_zero, List.set_cons_succ]
  refine wpAny_take (i := 20) (v := .bool true) rfl (by kernel_rfl) (by kernel_rfl) (by kernel_rfl) (fun _ _ _ h => h) (Or.inl ⟨by kernel_rfl, ?_⟩) ?_
  · intro w0; go_simp
  simp only [Act.put, List.getElem_toArray, List.getElem_cons_succ, List.getElem_cons_zero, List.setIfInBounds_toArray, List.set_cons_zero, List.set_cons_succ]
  refine wpAny_take (i := 21) (v := .bool true) rfl (by kernel_rfl) (by kernel_rfl) (by kernel_rfl) (fun _ _ _ h => h) (Or.inl ⟨by kernel_rfl, ?_⟩) ?_
  · intro w0; go_simp
  simp only [Act.put, List.getElem_toArray, List.getElem_cons_succ, List.getElem_cons_zero, List.setIfInBounds_toArray, List.set_cons_zero, List.set_cons_succ]
  refine wpAny_done (by kernel_rfl) ?_ _
  go_wp2
  go_ret
  exact ⟨rfl, below_of_keeps (((K7.out.2.then K12.out).then k13).then k14)⟩

theorem lacks_walk (which : Int) (twice : Bool) (W : World) (_ : Env W) : Calls Tryd.prog 7 #[.int .i64 which, .bool twice] W fun e w' => e = .returned (.bool true) ∧ Below W.heap.size W w' := by
  have HA : Hid (∀ W, Calls Tryd.prog 10 #[] W fun e w' => e = .returned (.bool true) ∧ Keeps nobody W w') := alive_ok
  have HQ : Hid (∀ (m : List Fld) (E : Nat), requestE m = E → Sized m → m.length ≤ 1000 → ∀ (w : World) (p : Option Addr) (n c : Nat), Lies w p m nobody → m.length ≤ c → c ≤ maxLen → n = m.length → Calls Tryd.prog 20 #[.slice p n c] w fun e w' => e = .returned (.int .i64 (E : Int)) ∧ Keeps nobody w w') := by
    rintro m E rfl hz hm w p n c h hc hcm rfl
    exact request_ok c h (by omega) hz hc hcm
  obtain ⟨q, hq⟩ : ∃ q, which.tmod 4 = q := ⟨_, rfl⟩
  have q1 : -3 ≤ q := by have := Int.lt_tmod_of_pos which (show (0 : Int) < 4 by decide); omega
  have q2 : q ≤ 3 := by have := Int.tmod_lt_of_pos which (show (0 : Int) < 4 by decide); omega
  have ht : (q + 4).tmod 4 = (q + 4) % 4 := Int.tmod_eq_emod_of_nonneg (by omega)
  have h4 : (q + 4) % 4 = 0 ∨ (q + 4) % 4 = 1 ∨ (q + 4) % 4 = 2 ∨ (q + 4) % 4 = 3 := by omega
  rw [← ht] at h4
  cases twice
  · rcases h4 with h | h | h | h
    · exact lacks_once0 which q W hq q1 q2 h HA HQ
    · exact lacks_once1 which q W hq q1 q2 h HA HQ
    · exact lacks_once2 which q W hq q1 q2 h HA HQ
    · exact lacks_once3 which q W hq q1 q2 h HA HQ
  · rcases h4 with h | h | h | h
    · exact lacks_twice0 which q W hq q1 q2 h HA HQ
    · exact lacks_twice1 which q W hq q1 q2 h HA HQ
    · exact lacks_twice2 which q W hq q1 q2 h HA HQ
    · exact lacks_twice3 which q W hq q1 q2 h HA HQ
end Go.Proofs.YtladdbppkepphaaDoor
