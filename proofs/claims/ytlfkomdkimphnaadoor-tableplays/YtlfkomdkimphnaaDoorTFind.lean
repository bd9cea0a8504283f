/-
  Package table: At, whatever the place; Find.
-/
import Derived.Test.YtlfkomdkimphnaaDoorTAt
namespace Go.Proofs.YtlfkomdkimphnaaDoor
open Go.RowKit

theorem at_ok {w : World} {g : Nat} {v : Value} {size : Nat} {l : List Fld} (hE : Env w) (h : Tab w g v size l) (i : Int) (hi : i ≤ 9223372036854775807) : Calls Tryd.prog 12 #[.pointer (some ⟨g, 0, none⟩), .int .i64 i] w fun e w' => e = .returned (atV (atL l i)) ∧ Keeps nobody w w' := by
  by_cases h1 : i < 1
  · rw [atL_low l i h1]; exact at_low _ i w h1
  · by_cases h2 : i ≤ 16
    · obtain ⟨n, rfl⟩ : ∃ n : Nat, i = (n : Int) + 1 := ⟨(i - 1).toNat, by omega⟩
      have hn : n < 16 := by omega
      rw [atL_fixed l n hn]
      exact at_fixed _ n _ w hE hn (List.getElem?_eq_getElem _)
    · by_cases h3 : (l.length : Int) + 17 ≤ i
      · rw [atL_high l i h3]; exact at_high h i h3 hi
      · obtain ⟨n, rfl⟩ : ∃ n : Nat, i = (n : Int) + 17 := ⟨(i - 17).toNat, by omega⟩
        have hn : n < l.length := by omega
        rw [atL_added l n hn]
        exact at_added h n _ (List.getElem?_eq_getElem _)
set_option maxRecDepth 100000 in
theorem at_none (i : Int) (w : World) (h : 17 ≤ i) (hi : i ≤ 9223372036854775807) : Calls Tryd.prog 12 #[.pointer none, .int .i64 i] w fun e w' => e = .returned (atV none) ∧ Keeps nobody w w' := by
  have hL : Hid (∀ w, Calls Tryd.prog 31 #[.pointer none] w fun e w' => e = .returned (.slice none 0 0) ∧ w = w') := list_nil
  have q1 : ¬ i < 1 := by omega
  have q2 : ¬ i ≤ 16 := by omega
  have q3 : 0 ≤ i - 16 - 1 := by omega
  go_enter Tryd.func12, Tryd.ntmps12
  go_wp2_with fail
  refine Calls.mono (hL.out _) ?_
  rintro e w1 ⟨rfl, rfl⟩
  go_wp2
  exact bodyPost_ret (v := atV none) (by simp [results, Tryd.results12, go_sem, atV]) rfl ⟨rfl, (Keeps.refl _ _).alloc _⟩

/-- Where a header is. -/
def findAt (f : Fld) : Nat → Nat → List Fld → Nat × Bool
  | _, named, [] => (named, false)
  | i, named, g :: L => if g = f then (i + 1, true) else findAt f (i + 1) (if named = 0 ∧ g.1 = f.1 then i + 1 else named) L
def find (l : List Fld) (f : Fld) : Nat × Bool := findAt f 0 0 (always ++ l)
/-- So far not. -/
def Seek (l : List Fld) (f : Fld) (r : Nat × Bool) (j named : Nat) : Prop := r = findAt f j named ((always ++ l).drop j)
theorem seek_step (l : List Fld) (f : Fld) (r : Nat × Bool) (j named : Nat) (g : Fld) (hg : (always ++ l)[j]? = some g) (h : Seek l f r j named) : r = if g = f then (j + 1, true) else findAt f (j + 1) (if named = 0 ∧ g.1 = f.1 then j + 1 else named) ((always ++ l).drop (j + 1)) := by
  obtain ⟨hj, rfl⟩ := List.getElem?_eq_some_iff.1 hg
  rw [h, List.drop_eq_getElem_cons hj]
  rfl
theorem seek_end (l : List Fld) (f : Fld) (r : Nat × Bool) (j named : Nat) (hj : ¬ j < 16 + l.length) (h : Seek l f r j named) : r = (named, false) := by
  rw [h, List.drop_eq_nil_of_le (by rw [List.length_append, always_length]; omega)]
  rfl
theorem beq_list_of_eq {a b : ByteArray} (h : a = b) : (a.toList == b.toList) = true := by subst h; simp
theorem beq_list_of_ne {a b : ByteArray} (h : a ≠ b) : (a.toList == b.toList) = false := by
  rw [beq_eq_false_iff_ne, ByteArray.toList_eq, ByteArray.toList_eq]
  intro e
  apply h
  obtain ⟨⟨x⟩⟩ := a
  obtain ⟨⟨y⟩⟩ := b
  simpa using e

set_option maxRecDepth 100000 in
set_option maxHeartbeats 2000000 in
theorem find_ok {w : World} {g : Nat} {v : Value} {size : Nat} {l : List Fld} (hE : Env w) (h : Tab w g v size l) (f : Fld) : Calls Tryd.prog 20 #[.pointer (some ⟨g, 0, none⟩), fval f] w fun e w' => e = .returned (.tuple #[.int .i64 ((find l f).1 : Int), .bool (find l f).2]) ∧ Keeps nobody w w' := by
  have hL : Hid (∀ w, Tab w g v size l → Calls Tryd.prog 31 #[.pointer (some ⟨g, 0, none⟩)] w fun e w' => e = .returned v ∧ w = w') := fun w h => list_ok h
  have H := hid h
  have hlen := h.length
  have hA : Hid (∀ (W : World) (j : Nat) (x : Fld), Keeps nobody w W → (always ++ l)[j]? = some x → Calls Tryd.prog 12 #[.pointer (some ⟨g, 0, none⟩), .int .i64 ((j : Int) + 1)] W fun e w' => e = .returned (.tuple #[fval x, .bool true]) ∧ Keeps nobody W w') := fun W j x hW hx => by
    have hj := (List.getElem?_eq_some_iff.1 hx).1
    rw [List.length_append, always_length] at hj
    have := at_ok (hE.quiet hW) (h.quiet hW) ((j : Int) + 1) (by omega)
    have e : atL l ((j : Int) + 1) = some x := by
      unfold atL
      have e2 : ((j : Int) + 1 - 1).toNat = j := by omega
      rw [if_pos (by omega), e2, hx]
    rw [e] at this
    exact this
  have hS : Hid (Seek l f (find l f) 0 0) := rfl
  generalize find l f = r at *
  obtain ⟨rn, rb⟩ := r
  obtain ⟨fa, fb⟩ := f
  simp only
  obtain ⟨n, hn, hv⟩ : ∃ n, n = l.length ∧ ∃ a c, v = .slice a n c := by
    rcases h.row.2 with ⟨rfl, hn⟩ | ⟨rb, cap, cur, rfl, _⟩
    · exact ⟨0, hn.symm, _, _, rfl⟩
    · exact ⟨_, rfl, _, _, rfl⟩
  obtain ⟨va, vc, rfl⟩ := hv
  have HN := hid hn
  rw [← hn] at hlen
  clear h hE hn
  go_enter Tryd.func20, Tryd.ntmps20
  go_wp2_with fail
  refine Calls.mono (hL.out _ (H.out.alloc _)) ?_
  rintro e w1 ⟨rfl, rfl⟩
  clear hL H
  go_wp2
  go_loopg [6, 14] (16 + n) (fun k m i wr => ∃ j nm : Nat, i = .int .i64 j ∧ m = .int .i64 nm ∧ k + j = 16 + n ∧ nm ≤ j ∧ Keeps nobody w wr ∧ wr.heap[w.heap.size]? = some (.cells #[.string fa, .string fb] 28 (0, 0)) ∧ Hid (Seek l (fa, fb) (rn, rb) j nm))
  case atStart => exact ⟨0, 0, rfl, rfl, rfl, by omega, (Keeps.refl _ _).alloc _, heap_alloc_new w _, hS⟩
  case round =>
    obtain ⟨j, nm, rfl, rfl, hk, hnm, hK, hbx, hsk⟩ := hrel
    clear hS
    have hbl : w.heap.size < wr.heap.size := (Array.getElem?_eq_some_iff.1 hbx).1
    by_cases hj : j < 16 + n
    · obtain ⟨x, hx⟩ : ∃ x, (always ++ l)[j]? = some x := ⟨_, List.getElem?_eq_getElem (by rw [List.length_append, always_length, ← HN.out]; exact hj)⟩
      have hst := hid (seek_step l _ _ j nm x hx hsk.out)
      have hA1 := hid (fun W hW => hA.out W j x hW hx)
      obtain ⟨xa, xb⟩ := x
      clear hx hsk hA
      have HB := hid hbx
      have HK := hid hk
      clear hbx hk
      go_wp2_with fail
      refine Calls.mono (hA1.out _ hK) ?_
      rintro e w1 ⟨rfl, hK1⟩
      have hb1 : w1.heap[w.heap.size]? = some (.cells #[.string fa, .string fb] 28 (0, 0)) := by
        rw [hK1.block _ hbl id]; exact HB.out
      have b0 : w1.cell? ⟨w.heap.size, 0, none⟩ = some (.string fa) := by simp [World.cell?, hb1]
      have b1 : w1.cell? ⟨w.heap.size, 1, none⟩ = some (.string fb) := by simp [World.cell?, hb1]
      have hz1 : w.heap.size < w1.heap.size := Nat.lt_of_lt_of_le hbl hK1.size
      have HB1 := hid hb1
      clear hb1 hA1
      by_cases e1 : xa = fa
      · by_cases e2 : xb = fb
        · subst e1
          subst e2
          obtain ⟨rfl, rfl⟩ : rn = j + 1 ∧ rb = true := by
            have := hst.out
            rw [if_pos rfl] at this
            simpa using this
          have q1 : (xa.toList == xa.toList) = true := beq_list_of_eq rfl
          have q2 : (xb.toList == xb.toList) = true := beq_list_of_eq rfl
          clear hst
          as_aux_lemma =>
            go_wp2
            go_ret2
            exact ⟨by simp, (hK.then hK1).alloc _⟩
        · subst e1
          have q1 : (xa.toList == xa.toList) = true := beq_list_of_eq rfl
          have q2 := beq_list_of_ne e2
          have hs2 := hst.out
          rw [if_neg (by simpa using e2)] at hs2
          clear hst e2
          by_cases e3 : nm = 0
          · subst e3
            have HS : Hid (Seek l (xa, fb) (rn, rb) (j + 1) (j + 1)) := by
              rw [if_pos ⟨rfl, rfl⟩] at hs2
              exact hs2
            clear hs2
            as_aux_lemma =>
              go_wp2
              have hk := HK.out
              go_roundg (gk - 1)
              case measure => omega
              case rel => exact ⟨j + 1, j + 1, by simp, by simp, by omega, by omega, (hK.then hK1).alloc _, by rw [Below.heap_alloc _ _ _ hz1]; exact HB1.out, HS⟩
          · have HS : Hid (Seek l (xa, fb) (rn, rb) (j + 1) nm) := by
              rw [if_neg (fun h => e3 h.1)] at hs2
              exact hs2
            have q3 : ((nm : Int) == 0) = false := by simp; omega
            clear hs2 e3
            as_aux_lemma =>
              go_wp2
              have hk := HK.out
              go_roundg (gk - 1)
              case measure => omega
              case rel => exact ⟨j + 1, nm, by simp, rfl, by omega, by omega, (hK.then hK1).alloc _, by rw [Below.heap_alloc _ _ _ hz1]; exact HB1.out, HS⟩
      · have q1 := beq_list_of_ne e1
        have HS : Hid (Seek l (fa, fb) (rn, rb) (j + 1) nm) := by
          have := hst.out
          rw [if_neg (by simp; exact fun h => absurd h e1), if_neg (fun h => e1 h.2)] at this
          exact this
        clear hst e1
        by_cases e3 : nm = 0
        · subst e3
          as_aux_lemma =>
            go_wp2
            have hk := HK.out
            go_roundg (gk - 1)
            case measure => omega
            case rel => exact ⟨j + 1, 0, by simp, rfl, by omega, by omega, (hK.then hK1).alloc _, by rw [Below.heap_alloc _ _ _ hz1]; exact HB1.out, HS⟩
        · have q3 : ((nm : Int) == 0) = false := by simp; omega
          clear e3
          as_aux_lemma =>
            go_wp2
            have hk := HK.out
            go_roundg (gk - 1)
            case measure => omega
            case rel => exact ⟨j + 1, nm, by simp, rfl, by omega, by omega, (hK.then hK1).alloc _, by rw [Below.heap_alloc _ _ _ hz1]; exact HB1.out, HS⟩
    · obtain ⟨rfl, rfl⟩ : rn = nm ∧ rb = false := by simpa using seek_end l _ _ j nm (by rw [← HN.out]; exact hj) hsk.out
      clear hsk hk hA
      go_wp2
      go_ret2
      exact ⟨rfl, hK⟩
end Go.Proofs.YtlfkomdkimphnaaDoor
