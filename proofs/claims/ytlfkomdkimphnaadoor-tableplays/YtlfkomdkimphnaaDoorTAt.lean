/-
  Package table: At.
-/
import Derived.Test.YtlfkomdkimphnaaDoorTAdd
namespace Go.Proofs.YtlfkomdkimphnaaDoor
open Go.RowKit

/-- The fields that are always there. -/
def always : List Fld := [(⟨#[58, 97, 117, 116, 104, 111, 114, 105, 116, 121]⟩, ⟨#[]⟩), (⟨#[58, 109, 101, 116, 104, 111, 100]⟩, ⟨#[71, 69, 84]⟩), (⟨#[58, 109, 101, 116, 104, 111, 100]⟩, ⟨#[80, 79, 83, 84]⟩), (⟨#[58, 112, 97, 116, 104]⟩, ⟨#[47]⟩), (⟨#[58, 115, 99, 104, 101, 109, 101]⟩, ⟨#[104, 116, 116, 112]⟩), (⟨#[58, 115, 99, 104, 101, 109, 101]⟩, ⟨#[104, 116, 116, 112, 115]⟩), (⟨#[58, 115, 116, 97, 116, 117, 115]⟩, ⟨#[50, 48, 48]⟩), (⟨#[58, 115, 116, 97, 116, 117, 115]⟩, ⟨#[50, 48, 52]⟩), (⟨#[58, 115, 116, 97, 116, 117, 115]⟩, ⟨#[52, 48, 52]⟩), (⟨#[58, 115, 116, 97, 116, 117, 115]⟩, ⟨#[53, 48, 48]⟩), (⟨#[97, 99, 99, 101, 112, 116]⟩, ⟨#[]⟩), (⟨#[99, 111, 110, 116, 101, 110, 116, 45, 108, 101, 110, 103, 116, 104]⟩, ⟨#[]⟩), (⟨#[99, 111, 110, 116, 101, 110, 116, 45, 116, 121, 112, 101]⟩, ⟨#[]⟩), (⟨#[99, 111, 111, 107, 105, 101]⟩, ⟨#[]⟩), (⟨#[100, 97, 116, 101]⟩, ⟨#[]⟩), (⟨#[117, 115, 101, 114, 45, 97, 103, 101, 110, 116]⟩, ⟨#[]⟩)]
theorem always_length : always.length = 16 := rfl

/-- The program's variable holds them. -/
def Env (w : World) : Prop := 0 < w.heap.size ∧ ∀ i f, always[i]? = some f → w.cell? ⟨0, i * 2, none⟩ = some (.string f.1) ∧ w.cell? ⟨0, i * 2 + 1, none⟩ = some (.string f.2)
theorem Env.keeps {S : Nat → Prop} {w w' : World} (h : Env w) (hk : Keeps S w w') (hS : ¬ S 0) : Env w' :=
  ⟨Nat.lt_of_lt_of_le h.1 hk.size, fun i f hi => by
    obtain ⟨a, b⟩ := h.2 i f hi
    exact ⟨(hk.cell (p := ⟨0, i * 2, none⟩) h.1 hS).trans a, (hk.cell (p := ⟨0, i * 2 + 1, none⟩) h.1 hS).trans b⟩⟩
theorem Env.quiet {w w' : World} (h : Env w) (hk : Keeps nobody w w') : Env w' := h.keeps hk id
theorem Env.below {B : Nat} {w w' : World} (h : Env w) (hB : Below B w w') (h0 : 0 < B) : Env w' :=
  ⟨Nat.lt_of_lt_of_le h.1 hB.size, fun i f hi => by
    obtain ⟨a, b⟩ := h.2 i f hi
    exact ⟨(hB.cell (p := ⟨0, i * 2, none⟩) h0).trans a, (hB.cell (p := ⟨0, i * 2 + 1, none⟩) h0).trans b⟩⟩

/-- What is at place i. -/
def atL (l : List Fld) (i : Int) : Option Fld := if 1 ≤ i then (always ++ l)[(i - 1).toNat]? else none
def atV : Option Fld → Value
  | some f => .tuple #[fval f, .bool true]
  | none => .tuple #[fval (⟨#[]⟩, ⟨#[]⟩), .bool false]
theorem atL_low (l : List Fld) (i : Int) (h : i < 1) : atL l i = none := by unfold atL; rw [if_neg (by omega)]
theorem atL_fixed (l : List Fld) (i : Nat) (h : i < 16) : atL l ((i : Int) + 1) = some (always[i]'(by rw [always_length]; exact h)) := by
  unfold atL
  have e : ((i : Int) + 1 - 1).toNat = i := by omega
  rw [if_pos (by omega), e, List.getElem?_append_left (by rw [always_length]; exact h), List.getElem?_eq_getElem]
theorem atL_added (l : List Fld) (i : Nat) (h : i < l.length) : atL l ((i : Int) + 17) = some (l[i]'h) := by
  unfold atL
  have e : ((i : Int) + 17 - 1).toNat = i + 16 := by omega
  rw [if_pos (by omega), e, List.getElem?_append_right (by rw [always_length]; omega), always_length]
  have e2 : i + 16 - 16 = i := by omega
  rw [e2, List.getElem?_eq_getElem h]
theorem atL_high (l : List Fld) (i : Int) (h : (l.length : Int) + 17 ≤ i) : atL l i = none := by
  unfold atL
  rw [if_pos (by omega), List.getElem?_eq_none]
  rw [List.length_append, always_length]; omega

set_option maxRecDepth 100000 in
theorem at_low (p : Option Addr) (i : Int) (w : World) (h : i < 1) : Calls Tryd.prog 12 #[.pointer p, .int .i64 i] w fun e w' => e = .returned (atV none) ∧ Keeps nobody w w' := by
  go_enter Tryd.func12, Tryd.ntmps12
  go_wp2
  exact bodyPost_ret (v := atV none) (by simp [results, Tryd.results12, go_sem, atV]) rfl ⟨rfl, (Keeps.refl _ _).alloc _⟩

set_option maxRecDepth 100000 in
theorem at_fixed (p : Option Addr) (i : Nat) (f : Fld) (w : World) (hE : Env w) (h : i < 16) (hf : always[i]? = some f) : Calls Tryd.prog 12 #[.pointer p, .int .i64 ((i : Int) + 1)] w fun e w' => e = .returned (atV (some f)) ∧ Keeps nobody w w' := by
  obtain ⟨c0, c1⟩ := hE.2 i f hf
  have h0 := hE.1
  clear hE hf
  obtain ⟨a, b⟩ := f
  go_enter Tryd.func12, Tryd.ntmps12
  go_wp2
  exact bodyPost_ret (v := atV (some (a, b))) (by simp [results, Tryd.results12, go_sem, atV]) rfl ⟨rfl, (Keeps.refl _ _).alloc _⟩

set_option maxRecDepth 100000 in
theorem at_high {w : World} {g : Nat} {v : Value} {size : Nat} {l : List Fld} (h : Tab w g v size l) (i : Int) (hi : (l.length : Int) + 17 ≤ i) (hi2 : i ≤ 9223372036854775807) : Calls Tryd.prog 12 #[.pointer (some ⟨g, 0, none⟩), .int .i64 i] w fun e w' => e = .returned (atV none) ∧ Keeps nobody w w' := by
  have hL : Hid (∀ w, Tab w g v size l → Calls Tryd.prog 31 #[.pointer (some ⟨g, 0, none⟩)] w fun e w' => e = .returned v ∧ w = w') := fun w h => list_ok h
  have H := hid h
  have q1 : ¬ i < 1 := by omega
  have q2 : ¬ i ≤ 16 := by omega
  have hlen := h.length
  rcases h.row.2 with ⟨rfl, hn⟩ | ⟨rb, cap, cur, rfl, _, _, hnc, hcm, _⟩
  · obtain rfl : l = [] := List.eq_nil_of_length_eq_zero hn
    clear h
    have q3 : 0 ≤ i - 16 - 1 := by simp at hi; omega
    go_enter Tryd.func12, Tryd.ntmps12
    go_wp2_with fail
    refine Calls.mono (hL.out _ (H.out.alloc _)) ?_
    rintro e w1 ⟨rfl, rfl⟩
    go_wp2
    exact bodyPost_ret (v := atV none) (by simp [results, Tryd.results12, go_sem, atV]) rfl ⟨rfl, (Keeps.refl _ _).alloc _⟩
  · clear h
    have q3 : (l.length : Int) ≤ i - 16 - 1 := by omega
    go_enter Tryd.func12, Tryd.ntmps12
    go_wp2_with fail
    refine Calls.mono (hL.out _ (H.out.alloc _)) ?_
    rintro e w1 ⟨rfl, rfl⟩
    go_wp2
    exact bodyPost_ret (v := atV none) (by simp [results, Tryd.results12, go_sem, atV]) rfl ⟨rfl, (Keeps.refl _ _).alloc _⟩

set_option maxRecDepth 100000 in
theorem at_added {w : World} {g : Nat} {v : Value} {size : Nat} {l : List Fld} (h : Tab w g v size l) (i : Nat) (f : Fld) (hf : l[i]? = some f) : Calls Tryd.prog 12 #[.pointer (some ⟨g, 0, none⟩), .int .i64 ((i : Int) + 17)] w fun e w' => e = .returned (atV (some f)) ∧ Keeps nobody w w' := by
  have hL : Hid (∀ w, Tab w g v size l → Calls Tryd.prog 31 #[.pointer (some ⟨g, 0, none⟩)] w fun e w' => e = .returned v ∧ w = w') := fun w h => list_ok h
  have H := hid h
  have hlen := h.length
  obtain ⟨hi, hfe⟩ := List.getElem?_eq_some_iff.1 hf
  rcases h.row.2 with ⟨rfl, hn⟩ | ⟨rb, cap, cur, rfl, _, _, hnc, hcm, _⟩
  · omega
  · obtain ⟨c0, c1⟩ := row_cells h.row i hi
    have hrb := h.rowlt rb rfl
    rw [hfe] at c0 c1
    clear h hf hfe
    obtain ⟨a, b⟩ := f
    go_enter Tryd.func12, Tryd.ntmps12
    go_wp2_with fail
    refine Calls.mono (hL.out _ (H.out.alloc _)) ?_
    rintro e w1 ⟨rfl, rfl⟩
    go_wp2
    exact bodyPost_ret (v := atV (some (a, b))) (by simp [results, Tryd.results12, go_sem, atV]) rfl ⟨rfl, (Keeps.refl _ _).alloc _⟩
end Go.Proofs.YtlfkomdkimphnaaDoor
