/-
  FieldGets: the walk.
-/
import Derived.Test.YtladdbppkepphaaDoorFFew
namespace Go.Proofs.YtladdbppkepphaaDoor
open Go.RowKit

theorem getL_first (name v : ByteArray) (l : List Fld) : getL name ([(name, v)] ++ l) = some v := by
  simp [getL]
theorem getL_last (name v : ByteArray) (l : List Fld) : getL name (l ++ [(name, v)]) = some ((getL name l).getD v) := by
  unfold getL
  rw [List.find?_append]
  cases l.find? fun f => decide (f.1 = name) <;> simp

/-- A list with one more ahead of it, behind it: append's two calls. -/
theorem ahead_ok {w : World} {a : Option Addr} {l : List Fld} {S : Nat → Prop} (h : Lies w a l S) (c : Nat) (x y : ByteArray) (hl : l.length ≤ 1000) (ty : TypeId) :
    ∃ p c' w', (Builtin.append_ #[22, 22] ty #[.slice (some ⟨w.heap.size, 0, none⟩) 1 1, .slice a l.length c]).run Tryd.prog (w.alloc (.cells #[.string x, .string y] 39)) = .ok (.slice p ([(x, y)] ++ l).length c') w' ∧ Hid (Owns w.heap.size w' (.slice p ([(x, y)] ++ l).length c') ([(x, y)] ++ l) ∧ Keeps nobody w w') := by
  have k0 := keeps_alloc w (.cells #[.string x, .string y] 39)
  have o0 := own_lit w.heap.size w [(x, y)] #[.string x, .string y] (Nat.le_refl _) (by simp) rfl
  obtain ⟨p, c', w', r, hr⟩ := app_lies o0 (h.quiet k0) c (by simp; omega) k0.size ty
  exact ⟨p, c', w', r, hr.out.1, o0.fresh k0 (Nat.le_refl _) hr.out.2⟩
theorem copied_ok {w : World} {a : Option Addr} {l : List Fld} {S : Nat → Prop} (h : Lies w a l S) (c : Nat) (hl : l.length ≤ 1000) (ty : TypeId) :
    ∃ p c' w', (Builtin.append_ #[22, 22] ty #[.slice none 0 0, .slice a l.length c]).run Tryd.prog w = .ok (.slice p l.length c') w' ∧ Hid (Owns w.heap.size w' (.slice p l.length c') l ∧ Keeps nobody w w') := by
  have o0 := own_nil w.heap.size w
  obtain ⟨p, c', w', r, hr⟩ := app_lies o0 h c (by simp; omega) (Nat.le_refl _) ty
  simp only [List.nil_append] at r hr
  exact ⟨p, c', w', r, hr.out.1, o0.fresh (Keeps.refl _ _) (Nat.le_refl _) hr.out.2⟩
theorem behind_ok {base : Nat} {w : World} {v : Value} {l : List Fld} (h : Owns base w v l) (x y : ByteArray) (hl : l.length ≤ 1000) (hb : base ≤ w.heap.size) (ty : TypeId) :
    ∃ p c' w', (Builtin.append_ #[22, 22] ty #[v, .slice (some ⟨w.heap.size, 0, none⟩) 1 1]).run Tryd.prog (w.alloc (.cells #[.string x, .string y] 39)) = .ok (.slice p (l ++ [(x, y)]).length c') w' ∧ Hid (Owns base w' (.slice p (l ++ [(x, y)]).length c') (l ++ [(x, y)]) ∧ Keeps (fun k => v.ownBlock = some k) w w') := by
  have k0 := keeps_alloc w (.cells #[.string x, .string y] 39)
  obtain ⟨p, c', w', r, hr⟩ := app_lies (l := [(x, y)]) (k0.row h fun _ _ => id) (lies_alloc w [(x, y)] #[.string x, .string y] 39 rfl) 1 (by simp; omega) (Nat.le_trans hb k0.size) ty
  exact ⟨p, c', w', r, hr.out.1, (k0.mono fun _ _ e => e.elim).trans hr.out.2 fun _ _ e => e⟩

attribute [local irreducible] getL bytesL
set_option maxRecDepth 100000 in
set_option maxHeartbeats 1000000 in
theorem gets_main (g : Option ByteArray) (a : Option Addr) (c : Nat) (l : List Fld) (name value : ByteArray) (W : World) (h : Lies W a l nobody) (h40 : l.length ≤ 40) (hs : name.size + value.size ≤ 200) (hg : getL name l = g)
    (HF : Hid (Calls Tryd.prog 9 #[.slice a l.length c] W fun e w' => e = .returned (.bool true) ∧ Keeps nobody W w')) :
    Calls Tryd.prog 8 #[.slice a l.length c, .string name, .string value] W fun e w' => e = .returned (.bool true) ∧ Below W.heap.size W w' := by
  have HA : Hid (∀ W, Calls Tryd.prog 10 #[] W fun e w' => e = .returned (.bool true) ∧ Keeps nobody W w') := alive_ok
  have HG : Hid (∀ (w : World) (p : Option Addr) (m : List Fld) (n c : Nat) (g : Option ByteArray), getL name m = g → Lies w p m nobody → m.length ≤ 1000 → n = m.length → Calls Tryd.prog 12 #[.string name, .slice p n c] w fun e w' => e = .returned (.tuple #[.string (g.getD ⟨#[]⟩), .bool g.isSome]) ∧ Keeps nobody w w') := by
    rintro w p m n c g rfl h hm rfl
    exact get_ok name c h (by omega)
  have g1 := getL_first name value l
  have g2 := getL_last name value l
  rw [hg] at g2
  have H := hid h
  clear h
  go_enter Tryd.func8, Tryd.ntmps8
  go_wp2_with fail
  refine Calls.mono HF.out ?_
  rintro e w1 ⟨rfl, k1⟩
  go_wp2_with fail
  refine Calls.mono (HA.out _) ?_
  rintro e w2 ⟨rfl, k2⟩
  have kW2 := k1.then k2
  go_wp2_with fail
  refine Calls.mono (HG.out w2 a l _ c g hg (H.out.quiet kW2) (by omega) rfl) ?_
  rintro e w3 ⟨rfl, k3⟩
  have kW3 := kW2.then k3
  obtain ⟨p1, c1, w4, r1, R1⟩ := ahead_ok (H.out.quiet kW3) c name value (by omega) 22
  have kW4 := kW3.then R1.out.2
  have L1 := hid R1.out.1.lies
  have RR1 := hid r1
  clear r1
  go_wp2_with (at_builtin; refine wpList_append_run rfl _ _ 22 22 rfl _ _ rfl rfl RR1.out ?_)
  refine Calls.mono (HG.out w4 p1 ([(name, value)] ++ l) _ c1 _ g1 L1.out (by simp; omega) (by simp)) ?_
  rintro e w5 ⟨rfl, k5⟩
  have kW5 := kW4.then k5
  obtain ⟨p2, c2, w6, r2, R2⟩ := copied_ok (H.out.quiet kW5) c (by omega) 22
  obtain ⟨p3, c3, w7, r3, R3⟩ := behind_ok R2.out.1 name value (by omega) R2.out.2.size 22
  have kW7 := R2.out.1.fresh (kW5.then R2.out.2) kW5.size R3.out.2
  have L3 := hid R3.out.1.lies
  have RR2 := hid r2
  have RR3 := hid r3
  clear r2 r3
  go_wp2_with (at_builtin; first | refine wpList_append_run rfl _ _ 22 22 rfl (.slice none 0 0) (.slice a l.length c) rfl rfl RR2.out ?_ | refine wpList_append_run rfl _ _ 22 22 rfl (.slice p2 l.length c2) (.slice (some ⟨w6.heap.size, 0, none⟩) 1 1) rfl rfl RR3.out ?_)
  refine Calls.mono (HG.out w7 p3 (l ++ [(name, value)]) _ c3 _ g2 L3.out (by simp; omega) (by simp)) ?_
  rintro e w8 ⟨rfl, k8⟩
  have kW8 := below_of_keeps (kW7.then k8)
  clear hg g1 g2 RR1 RR2 RR3 L1 L3 R1 R2 R3 HG HA HF H k1 k2 k3 k5 k8 kW2 kW3 kW4 kW5 kW7
  have zv : (value.toList == value.toList) = true := beq_list_of_eq rfl
  cases g with
  | none =>
    go_wp2
    go_ret
    exact ⟨rfl, kW8⟩
  | some v =>
    have zw : (v.toList == v.toList) = true := beq_list_of_eq rfl
    go_wp2
    go_ret
    exact ⟨rfl, kW8⟩

set_option maxRecDepth 100000 in
theorem gets_walk (a : Option Addr) (c : Nat) (l : List Fld) (name value : ByteArray) (W : World) (_ : Env W) (hf : FldsC W a c l) (hn : name.size ≤ 140737488355328) (hv : value.size ≤ 140737488355328) :
    Calls Tryd.prog 8 #[.slice a l.length c, .string name, .string value] W fun e w' => e = .returned (.bool true) ∧ Below W.heap.size W w' := by
  have HA : Hid (∀ W, Calls Tryd.prog 10 #[] W fun e w' => e = .returned (.bool true) ∧ Keeps nobody W w') := alive_ok
  have HF : Hid (Calls Tryd.prog 9 #[.slice a l.length c] W fun e w' => e = .returned (.bool (fewB l)) ∧ Keeps nobody W w') := few_ok c hf.1.lies hf.1.2.1 hf.1.2.2
  cases hb : fewB l
  · rw [hb] at HF
    clear hf hb
    go_enter Tryd.func8, Tryd.ntmps8
    go_wp2_with fail
    refine Calls.mono HF.out ?_
    rintro e w1 ⟨rfl, k1⟩
    go_wp2_with fail
    refine Calls.mono (HA.out _) ?_
    rintro e w2 ⟨rfl, k2⟩
    go_wp2
    go_ret
    exact ⟨rfl, below_of_keeps (k1.then k2)⟩
  · rw [hb] at HF
    by_cases hs : name.size + value.size ≤ 200
    · exact gets_main _ a c l name value W hf.1.lies (fewB_len hb).1 hs rfl HF
    · clear hf hb
      go_enter Tryd.func8, Tryd.ntmps8
      go_wp2_with fail
      refine Calls.mono HF.out ?_
      rintro e w1 ⟨rfl, k1⟩
      go_wp2_with fail
      refine Calls.mono (HA.out _) ?_
      rintro e w2 ⟨rfl, k2⟩
      go_wp2
      go_ret
      exact ⟨rfl, below_of_keeps (k1.then k2)⟩
end Go.Proofs.YtladdbppkepphaaDoor
