/-
  Package field: misplaced, next, list.
-/
import Derived.Test.YtladdbppkepphaaDoorFName
import Derived.Deep.RegionHeld3
import Derived.Deep.DeepCutAuto
import Derived.Deep.CutBlock
namespace Go.Proofs.YtladdbppkepphaaDoor
open Go.RowKit

attribute [local irreducible] getL nameB valueB forbB misB hasB nextE listE

/-- Headers whose texts are not too long. -/
def Sized (l : List Fld) : Prop := ∀ f ∈ l, f.1.size ≤ 140737488355328 ∧ f.2.size ≤ 140737488355328
theorem Sized.at {l : List Fld} (h : Sized l) (j : Nat) (hj : j < l.length) : (l[j]'hj).1.size ≤ 140737488355328 ∧ (l[j]'hj).2.size ≤ 140737488355328 := h _ (List.getElem_mem hj)
theorem Sized.take {l : List Fld} (h : Sized l) (j : Nat) : Sized (l.take j) := fun f hf => h f (List.mem_of_mem_take hf)

set_option maxRecDepth 100000 in
theorem mis_ok {w : World} {a : Option Addr} {l : List Fld} {S : Nat → Prop} (name : ByteArray) (c : Nat) (h : Lies w a l S) (hl : l.length ≤ 1000000) (hz : Sized l) : Calls Tryd.prog 49 #[.string name, .slice a l.length c] w fun e w' => e = .returned (.bool (misB name l)) ∧ Keeps nobody w w' := by
  by_cases h0 : l.length = 0
  · obtain rfl := List.eq_nil_of_length_eq_zero h0
    have e : misB name [] = false := by unfold misB; rfl
    rw [e]
    clear h hl hz h0 e
    go_enter Tryd.func49, Tryd.ntmps49
    go_wp2
    go_ret
    exact ⟨rfl, Keeps.refl _ _⟩
  · obtain ⟨m, hm⟩ : ∃ m, l.length = m + 1 := ⟨l.length - 1, by omega⟩
    have hj : m < l.length := by omega
    have HG : Hid (∀ W, Keeps nobody w W → Calls Tryd.prog 12 #[.string name, .slice a l.length c] W fun e w' => e = .returned (getV (getL name l)) ∧ Keeps nobody W w') := fun W hW => get_ok name c (h.quiet hW) hl
    have HN : Hid (∀ W, Calls Tryd.prog 16 #[.string (l[m]'hj).1] W fun e w' => e = .returned (.bool (nameB (l[m]'hj).1)) ∧ W = w') := fun W => name_ok _ W (hz.at m hj).1
    have e : misB name l = (nameB (l[m]'hj).1 || (getL name l).isSome) := by
      unfold misB
      rw [List.getLast?_eq_getElem?, show l.length - 1 = m by omega, List.getElem?_eq_getElem hj]
    rw [e]
    clear e
    obtain ⟨b, off, rfl, hb, _, c0, c1⟩ := h.at m hj
    clear c1
    generalize nameB (l[m]'hj).1 = z at *
    generalize (l[m]'hj).1 = x at *
    rw [hm] at HG ⊢
    clear hz h h0
    have hl2 : m < 1000000 := by omega
    generalize getL name l = g at *
    clear hm hj hl
    cases z
    · go_enter Tryd.func49, Tryd.ntmps49
      go_wp2_with (first | (go_at_call 16; refine Calls.mono (HN.out _) ?_; rintro e w1 ⟨rfl, rfl⟩) | (go_at_call 12; refine Calls.mono (HG.out _ (Keeps.refl _ _)) ?_; rintro e w1 ⟨rfl, k1⟩))
      go_ret
      exact ⟨rfl, k1⟩
    · go_enter Tryd.func49, Tryd.ntmps49
      go_wp2_with (go_at_call 16; refine Calls.mono (HN.out _) ?_; rintro e w1 ⟨rfl, rfl⟩)
      go_ret
      exact ⟨rfl, Keeps.refl _ _⟩

set_option maxRecDepth 100000 in
set_option maxHeartbeats 1000000 in
theorem next_ok {w : World} {a oa : Option Addr} {l : List Fld} {own : List ByteArray} {S : Nat → Prop} (f : Fld) (c oc : Nat) (h : Lies w a l S) (ho : Strs w oa own) (hl : l.length ≤ 1000000) (hz : Sized l) (hol : own.length ≤ 100) (hf : f.1.size ≤ 140737488355328 ∧ f.2.size ≤ 140737488355328) :
    Calls Tryd.prog 41 #[fval f, .slice a l.length c, .slice oa own.length oc] w fun e w' => e = .returned (.int .i64 (nextE own l f : Int)) ∧ Keeps nobody w w' := by
  obtain ⟨x, y⟩ := f
  simp only at hf
  have HC : Hid (∀ W, Keeps nobody w W → Calls Tryd.prog 47 #[.slice oa own.length oc, .string x] W fun e w' => e = .returned (.bool (hasB own x)) ∧ W = w') := fun W hW => contains_ok oc x (ho.quiet hW) hol
  have HN : Hid (∀ W, Calls Tryd.prog 16 #[.string x] W fun e w' => e = .returned (.bool (nameB x)) ∧ W = w') := fun W => name_ok x W hf.1
  have HV : Hid (∀ W, Calls Tryd.prog 18 #[.string y] W fun e w' => e = .returned (.bool (valueB y)) ∧ W = w') := fun W => value_ok y W hf.2
  have HF : Hid (∀ W, Calls Tryd.prog 48 #[.agg #[.string x, .string y]] W fun e w' => e = .returned (.bool (forbB (x, y))) ∧ Keeps nobody W w') := fun W => forbidden_ok (x, y) W
  have HM : Hid (∀ W, Keeps nobody w W → Calls Tryd.prog 49 #[.string x, .slice a l.length c] W fun e w' => e = .returned (.bool (misB x l)) ∧ Keeps nobody W w') := fun W hW => mis_ok x c (h.quiet hW) hl hz
  have hE : nextE own l (x, y) = if (!hasB own x && !nameB x || forbB (x, y)) = true then 6 else if valueB y = false then 3 else if (hasB own x && misB x l) = true then 7 else 0 := by unfold nextE; rfl
  generalize nextE own l (x, y) = E at *
  generalize hasB own x = zc at *
  generalize nameB x = zn at *
  generalize valueB y = zv at *
  generalize forbB (x, y) = zf at *
  generalize misB x l = zm at *
  generalize own.length = on at *
  generalize l.length = ln at *
  clear h ho hz hf
  have k0 := keeps_alloc w (.cells #[.string x, .string y] 39)
  have fx := fx_new w x y
  cases zc
  · cases zn
    · obtain rfl : E = 6 := hE
      go_enter Tryd.func41, Tryd.ntmps41
      go_wp2_with (first | (go_at_call 47; refine Calls.mono (HC.out _ k0) ?_; rintro e w1 ⟨rfl, rfl⟩) | (go_at_call 16; refine Calls.mono (HN.out _) ?_; rintro e w1 ⟨rfl, rfl⟩) | (go_at_call 48; refine Calls.mono (HF.out _) ?_; rintro e w2 ⟨rfl, k2⟩; obtain ⟨d0, d1, _⟩ := (fx.quiet k2).cells) | (go_at_call 18; refine Calls.mono (HV.out _) ?_; rintro e w1 ⟨rfl, rfl⟩) | (go_at_call 49; refine Calls.mono (HM.out _ (k0.then k2)) ?_; rintro e w3 ⟨rfl, k3⟩))
      go_ret
      exact ⟨rfl, k0⟩
    · cases zf
      · cases zv
        · obtain rfl : E = 3 := hE
          go_enter Tryd.func41, Tryd.ntmps41
          go_wp2_with (first | (go_at_call 47; refine Calls.mono (HC.out _ k0) ?_; rintro e w1 ⟨rfl, rfl⟩) | (go_at_call 16; refine Calls.mono (HN.out _) ?_; rintro e w1 ⟨rfl, rfl⟩) | (go_at_call 48; refine Calls.mono (HF.out _) ?_; rintro e w2 ⟨rfl, k2⟩; obtain ⟨d0, d1, _⟩ := (fx.quiet k2).cells) | (go_at_call 18; refine Calls.mono (HV.out _) ?_; rintro e w1 ⟨rfl, rfl⟩) | (go_at_call 49; refine Calls.mono (HM.out _ (k0.then k2)) ?_; rintro e w3 ⟨rfl, k3⟩))
          go_ret
          exact ⟨rfl, k0.then k2⟩
        · obtain rfl : E = 0 := hE
          go_enter Tryd.func41, Tryd.ntmps41
          go_wp2_with (first | (go_at_call 47; refine Calls.mono (HC.out _ k0) ?_; rintro e w1 ⟨rfl, rfl⟩) | (go_at_call 16; refine Calls.mono (HN.out _) ?_; rintro e w1 ⟨rfl, rfl⟩) | (go_at_call 48; refine Calls.mono (HF.out _) ?_; rintro e w2 ⟨rfl, k2⟩; obtain ⟨d0, d1, _⟩ := (fx.quiet k2).cells) | (go_at_call 18; refine Calls.mono (HV.out _) ?_; rintro e w1 ⟨rfl, rfl⟩) | (go_at_call 49; refine Calls.mono (HM.out _ (k0.then k2)) ?_; rintro e w3 ⟨rfl, k3⟩))
          go_ret
          exact ⟨rfl, k0.then k2⟩
      · obtain rfl : E = 6 := hE
        go_enter Tryd.func41, Tryd.ntmps41
        go_wp2_with (first | (go_at_call 47; refine Calls.mono (HC.out _ k0) ?_; rintro e w1 ⟨rfl, rfl⟩) | (go_at_call 16; refine Calls.mono (HN.out _) ?_; rintro e w1 ⟨rfl, rfl⟩) | (go_at_call 48; refine Calls.mono (HF.out _) ?_; rintro e w2 ⟨rfl, k2⟩; obtain ⟨d0, d1, _⟩ := (fx.quiet k2).cells) | (go_at_call 18; refine Calls.mono (HV.out _) ?_; rintro e w1 ⟨rfl, rfl⟩) | (go_at_call 49; refine Calls.mono (HM.out _ (k0.then k2)) ?_; rintro e w3 ⟨rfl, k3⟩))
        go_ret
        exact ⟨rfl, k0.then k2⟩
  · cases zf
    · cases zv
      · obtain rfl : E = 3 := hE
        go_enter Tryd.func41, Tryd.ntmps41
        go_wp2_with (first | (go_at_call 47; refine Calls.mono (HC.out _ k0) ?_; rintro e w1 ⟨rfl, rfl⟩) | (go_at_call 16; refine Calls.mono (HN.out _) ?_; rintro e w1 ⟨rfl, rfl⟩) | (go_at_call 48; refine Calls.mono (HF.out _) ?_; rintro e w2 ⟨rfl, k2⟩; obtain ⟨d0, d1, _⟩ := (fx.quiet k2).cells) | (go_at_call 18; refine Calls.mono (HV.out _) ?_; rintro e w1 ⟨rfl, rfl⟩) | (go_at_call 49; refine Calls.mono (HM.out _ (k0.then k2)) ?_; rintro e w3 ⟨rfl, k3⟩))
        go_ret
        exact ⟨rfl, k0.then k2⟩
      · cases zm
        · obtain rfl : E = 0 := hE
          go_enter Tryd.func41, Tryd.ntmps41
          go_wp2_with (first | (go_at_call 47; refine Calls.mono (HC.out _ k0) ?_; rintro e w1 ⟨rfl, rfl⟩) | (go_at_call 16; refine Calls.mono (HN.out _) ?_; rintro e w1 ⟨rfl, rfl⟩) | (go_at_call 48; refine Calls.mono (HF.out _) ?_; rintro e w2 ⟨rfl, k2⟩; obtain ⟨d0, d1, _⟩ := (fx.quiet k2).cells) | (go_at_call 18; refine Calls.mono (HV.out _) ?_; rintro e w1 ⟨rfl, rfl⟩) | (go_at_call 49; refine Calls.mono (HM.out _ (k0.then k2)) ?_; rintro e w3 ⟨rfl, k3⟩))
          go_ret
          exact ⟨rfl, (k0.then k2).then k3⟩
        · obtain rfl : E = 7 := hE
          go_enter Tryd.func41, Tryd.ntmps41
          go_wp2_with (first | (go_at_call 47; refine Calls.mono (HC.out _ k0) ?_; rintro e w1 ⟨rfl, rfl⟩) | (go_at_call 16; refine Calls.mono (HN.out _) ?_; rintro e w1 ⟨rfl, rfl⟩) | (go_at_call 48; refine Calls.mono (HF.out _) ?_; rintro e w2 ⟨rfl, k2⟩; obtain ⟨d0, d1, _⟩ := (fx.quiet k2).cells) | (go_at_call 18; refine Calls.mono (HV.out _) ?_; rintro e w1 ⟨rfl, rfl⟩) | (go_at_call 49; refine Calls.mono (HM.out _ (k0.then k2)) ?_; rintro e w3 ⟨rfl, k3⟩))
          go_ret
          exact ⟨rfl, (k0.then k2).then k3⟩
    · obtain rfl : E = 6 := hE
      go_enter Tryd.func41, Tryd.ntmps41
      go_wp2_with (first | (go_at_call 47; refine Calls.mono (HC.out _ k0) ?_; rintro e w1 ⟨rfl, rfl⟩) | (go_at_call 16; refine Calls.mono (HN.out _) ?_; rintro e w1 ⟨rfl, rfl⟩) | (go_at_call 48; refine Calls.mono (HF.out _) ?_; rintro e w2 ⟨rfl, k2⟩; obtain ⟨d0, d1, _⟩ := (fx.quiet k2).cells) | (go_at_call 18; refine Calls.mono (HV.out _) ?_; rintro e w1 ⟨rfl, rfl⟩) | (go_at_call 49; refine Calls.mono (HM.out _ (k0.then k2)) ?_; rintro e w3 ⟨rfl, k3⟩))
      go_ret
      exact ⟨rfl, k0.then k2⟩

set_option maxRecDepth 100000 in
set_option maxHeartbeats 1000000 in
theorem list_ok {w : World} {a oa : Option Addr} {l : List Fld} {own : List ByteArray} {S : Nat → Prop} (c oc : Nat) (h : Lies w a l S) (ho : Strs w oa own) (hl : l.length ≤ 1000000) (hz : Sized l) (hol : own.length ≤ 100) (hc : l.length ≤ c) (hcm : c ≤ maxLen) :
    Calls Tryd.prog 32 #[.slice a l.length c, .slice oa own.length oc] w fun e w' => e = .returned (.int .i64 (listE own [] l : Int)) ∧ Keeps nobody w w' := by
  unfold maxLen at hcm
  have HG : Hid (listE own (l.take 0) (l.drop 0) = listE own [] l) := by rw [List.take_zero, List.drop_zero]; exact rfl
  generalize listE own [] l = g at *
  go_enter Tryd.func32, Tryd.ntmps32
  go_wp2
  go_loopg [10] l.length (fun k i wr => ∃ j : Nat, i = .int .i64 j ∧ k + j = l.length ∧ Keeps nobody w wr ∧ listE own (l.take j) (l.drop j) = g)
  case atStart => exact ⟨0, rfl, rfl, Keeps.refl _ _, HG.out⟩
  case round =>
    obtain ⟨j, rfl, hk, hK, hg⟩ := hrel
    by_cases hj : j < l.length
    · obtain ⟨b, off, rfl, hb, _, c0, c1⟩ := (h.quiet hK).at j hj
      rw [listE_at own l j hj] at hg
      have hlt : (l.take j).length = j := by rw [List.length_take]; omega
      have HN : Hid (∀ W, Keeps nobody wr W → Calls Tryd.prog 41 #[fval (l[j]'hj), .slice (some ⟨b, off, none⟩) j c, .slice oa own.length oc] W fun e w' => e = .returned (.int .i64 (nextE own (l.take j) (l[j]'hj) : Int)) ∧ Keeps nobody W w') := by
        intro W hW
        have hL : Lies W (some ⟨b, off, none⟩) (l.take j) S := Lies.prefix (m := l.drop j) (by rw [List.take_append_drop]; exact (h.quiet hK).quiet hW)
        have := next_ok (l[j]'hj) c oc hL ((ho.quiet hK).quiet hW) (by omega) (hz.take j) hol (hz.at j hj)
        rwa [hlt] at this
      generalize nextE own (l.take j) (l[j]'hj) = E at *
      generalize l[j]'hj = f at *
      obtain ⟨x, y⟩ := f
      simp only at c0 c1
      have H2 := hid (And.intro hk hg)
      clear hk hg HG hlt
      have hjc : j ≤ c := by omega
      have k0 := keeps_alloc wr (.cells #[.string x, .string y] 39)
      have fx := fx_new wr x y
      by_cases hE : E = 0
      · subst hE
        go_wp2
        go_region_law (go_simp; go_at_call 41; refine Calls.mono (HN.out _ k0.drew) ?_; rintro e w2 ⟨rfl, k2⟩)
        all_goals
          go_wp2
          obtain ⟨hk, hg⟩ := H2.out
          rw [if_pos trivial] at hg
          go_roundg (gk - 1)
          case measure => omega
          case rel => exact ⟨j + 1, by simp, by omega, hK.then (k0.drew.then k2), hg⟩
      · go_wp2
        go_region_law (go_simp; go_at_call 41; refine Calls.mono (HN.out _ k0.drew) ?_; rintro e w2 ⟨rfl, k2⟩)
        all_goals
          go_wp2
          go_ret
          obtain ⟨hk, hg⟩ := H2.out
          rw [if_neg hE] at hg
          subst hg
          exact ⟨rfl, hK.then (k0.drew.then k2)⟩
    · rw [listE_end own l j hj] at hg
      subst hg
      clear HG
      go_wp2
      go_ret
      exact ⟨rfl, hK⟩
end Go.Proofs.YtladdbppkepphaaDoor
