/-
  The law's Light, alive; what every law begins with.
-/
import Derived.Test.YtocpjajafocdaaaMPlan
import Derived.Test.YtocpjajafocdaaaMOpen
namespace Go.Proofs.Ytocpjajafocdaaa
open Go.RowKit

abbrev Fine (w : World) : Ending → World → Prop := fun e w' => e = .returned (.bool true) ∧ Below w.heap.size w w'
/-- Few slices. -/
def LightL (l : List Pt) : Prop := (∀ p ∈ l, p.pend ≤ 4000) ∧ l.length ≤ 30
/-- What Light answers. -/
def LightA (w : World) (l : List Pt) (e : Ending) (w' : World) : Prop := ∃ b : Bool, e = .returned (.bool b) ∧ (b = true ↔ LightL l) ∧ Keeps nobody w w'
theorem light_all (l : List Pt) (j : Nat) (h : ∀ i p, i < j → l[i]? = some p → p.pend ≤ 4000) (hj : l.length ≤ j) : ∀ p ∈ l, p.pend ≤ 4000 := by
  intro p hp
  obtain ⟨i, hi, rfl⟩ := List.mem_iff_getElem.1 hp
  exact h i _ (by omega) (List.getElem?_eq_getElem hi)
set_option maxRecDepth 100000 in
set_option maxHeartbeats 1000000 in
theorem light_ok {w : World} {a : Option Addr} (most : Int) (cap : Nat) {l : List Pt} {S : Nat → Prop} (h : ptR.Lies w a l S) (hl : l.length ≤ 140737488355328) : Calls Try.prog 8 #[.int .i64 most, .slice a l.length cap] w (LightA w l) := by
  obtain ⟨b, off, ha, hA⟩ := lies_atP (h.mono (S' := nobody) fun _ _ e => e.elim)
  have HC := hid hA
  have HA := hid ha
  clear h hA ha
  go_enter Try.func8, Try.ntmps8
  go_wp2
  go_loopg [9] l.length (fun k iv wr => ∃ (j : Nat), iv = .int .i64 (j : Int) ∧ k + j = l.length ∧ Hid ((∀ i p, i < j → l[i]? = some p → p.pend ≤ 4000) ∧ Keeps nobody w wr))
  case atStart => exact ⟨0, rfl, by omega, hid ⟨fun i p hi => by omega, Keeps.refl _ _⟩⟩
  case round =>
    obtain ⟨j, rfl, hk, HJ⟩ := hrel
    by_cases hj : j < l.length
    · obtain rfl : a = some ⟨b, off, none⟩ := by
        rcases HA.out with h | h
        · rw [h] at hj; simp at hj
        · exact h
      obtain ⟨⟨i, pl, pd, f⟩, hx⟩ : ∃ x, l[j]? = some x := ⟨_, List.getElem?_eq_getElem hj⟩
      obtain ⟨c0, c1, c2, c3⟩ := HC.out _ HJ.out.2 j _ hx
      simp only at c0 c1 c2 c3
      have HX := hid hx
      have HK := hid hk
      have HQ := hid hj
      clear hx hk
      by_cases hp : 4000 < pd
      · clear HC
        go_wp2
        go_ret
        refine ⟨false, rfl, ⟨(fun h => by cases h), fun hL => ?_⟩, HJ.out.2.alloc _⟩
        have := hL.1 _ (List.mem_of_getElem? HX.out)
        simp only at this
        omega
      · clear HC
        go_wp2
        have hk := HK.out
        go_roundg (gk - 1)
        case measure => omega
        case rel =>
          refine ⟨j + 1, by simp, by omega, hid ⟨fun i' p hi hp' => ?_, HJ.out.2.alloc _⟩⟩
          by_cases e : i' = j
          · subst e
            rw [HX.out] at hp'
            simp at hp'
            subst hp'
            show pd ≤ 4000
            omega
          · exact HJ.out.1 i' p (by omega) hp'
    · have hall := light_all l j HJ.out.1 (by omega)
      have HL := hid hall
      have hK := HJ.out.2
      clear HJ HC hall hk
      by_cases h30 : l.length ≤ 30
      · have h30' : (l.length : Int) ≤ 30 := by omega
        go_wp2
        go_ret
        exact ⟨true, rfl, ⟨fun _ => ⟨HL.out, h30⟩, fun _ => rfl⟩, hK⟩
      · have h30' : ¬ (l.length : Int) ≤ 30 := by omega
        go_wp2
        go_ret
        exact ⟨false, rfl, ⟨(fun h => by cases h), fun hL => absurd hL.2 h30⟩, hK⟩
theorem light_yes {w : World} {a : Option Addr} (most : Int) (cap : Nat) {l : List Pt} {S : Nat → Prop} (h : ptR.Lies w a l S) (hl : l.length ≤ 140737488355328) (hL : LightL l) : Calls Try.prog 8 #[.int .i64 most, .slice a l.length cap] w fun e w' => e = .returned (.bool true) ∧ Keeps nobody w w' := by
  refine (light_ok most cap h hl).mono ?_
  rintro e w' ⟨b, rfl, h1, h2⟩
  rw [h1.2 hL]
  exact ⟨rfl, h2⟩
theorem light_no {w : World} {a : Option Addr} (most : Int) (cap : Nat) {l : List Pt} {S : Nat → Prop} (h : ptR.Lies w a l S) (hl : l.length ≤ 140737488355328) (hL : ¬ LightL l) : Calls Try.prog 8 #[.int .i64 most, .slice a l.length cap] w fun e w' => e = .returned (.bool false) ∧ Keeps nobody w w' := by
  refine (light_ok most cap h hl).mono ?_
  rintro e w' ⟨b, rfl, h1, h2⟩
  cases b with
  | true => exact (hL (h1.1 rfl)).elim
  | false => exact ⟨rfl, h2⟩
theorem plan_live : planL 64 100 [⟨1, 100, 80, true⟩] = [⟨1, 64, false⟩, ⟨1, 16, true⟩] := by kernel_rfl
set_option maxRecDepth 100000 in
set_option maxHeartbeats 1000000 in
theorem alive_ok (w : World) : Calls Try.prog 9 #[] w fun e w' => e = .returned (.bool true) ∧ Keeps nobody w w' := by
  have hlit : ptR.Lies (w.alloc (.cells #[.int .i64 1, .int .i64 100, .int .i64 80, .bool true] 26)) (some ⟨w.heap.size, 0, none⟩) [⟨1, 100, 80, true⟩] nobody := Recs.lit_lies _ _ rfl (fun _ h => h.elim)
  have hP := plan_ok 100 64 1 hlit (by simp) (fun p hp => by simp at hp; subst hp; exact ⟨by decide, by decide⟩) (by decide)
  rw [plan_live] at hP
  have HP := hid hP
  clear hlit hP
  go_enter Try.func9, Try.ntmps9
  go_wp2_with fail
  refine Calls.mono HP.out ?_
  rintro e w1 ⟨x, c, rfl, H1⟩
  have ho : slR.Own 34 0 w1 (.slice x 2 c) [⟨1, 64, false⟩, ⟨1, 16, true⟩] := H1.out.inv _ (List.mem_singleton.2 rfl)
  obtain ⟨rb, rfl, _, hb, _, _⟩ := own_some ho (by simp)
  obtain ⟨c0, c1, c2⟩ := own_slice ho 0 _ rfl
  obtain ⟨d0, d1, d2⟩ := own_slice ho 1 _ rfl
  have HS := hid (sum_ok (S := nobody) c (Recs.own_lies ho fun _ _ => id) (by simp) (by decide) (by simp))
  have HK := hid ((keeps_alloc w (.cells #[.int .i64 1, .int .i64 100, .int .i64 80, .bool true] 26)).then (keeps_of_below H1.out.below))
  simp only [List.length_cons, List.length_nil, Nat.zero_add, Nat.reduceAdd, Nat.zero_mul, Nat.one_mul] at c0 c1 c2 d0 d1 d2 HS
  clear HP H1 ho
  go_wp2_with fail
  refine Calls.mono HS.out ?_
  rintro e w2 ⟨rfl, k2⟩
  go_wp2
  go_ret
  exact ⟨rfl, HK.out.then k2⟩
end Go.Proofs.Ytocpjajafocdaaa
