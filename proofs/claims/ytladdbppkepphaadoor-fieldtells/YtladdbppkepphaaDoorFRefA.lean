/-
  The document's own answers (package bywashref1): Name, Value, Field.
-/
import Derived.Test.YtladdbppkepphaaDoorFMoreW
namespace Go.Proofs.YtladdbppkepphaaDoor
open Go.RowKit

attribute [local irreducible] okN okV
set_option maxRecDepth 100000 in
set_option maxHeartbeats 1000000 in
theorem rname_ok (s : ByteArray) (w : World) (hs : s.size ≤ 1000000000) : Calls Tryd.prog 17 #[.string s] w fun e w' => e = .returned (.bool (nameB s)) ∧ w = w' := by
  unfold nameB allB
  generalize hA : (decide (1 ≤ s.size ∧ s.size ≤ 40) && (nums s).all okN) = A
  have HA : Hid ((decide (1 ≤ s.size ∧ s.size ≤ 40) && ((nums s).drop 0).all okN) = A) := hA
  clear hA
  go_enter Tryd.func17, Tryd.ntmps17
  go_wp2
  go_loopg [3] s.size (fun k i wr => ∃ j : Nat, i = .int .i64 j ∧ k + j = s.size ∧ wr = w ∧ (decide (1 ≤ s.size ∧ s.size ≤ 40) && ((nums s).drop j).all okN) = A)
  case atStart => exact ⟨0, rfl, rfl, rfl, HA.out⟩
  case round =>
    obtain ⟨j, rfl, hk, rfl, hd⟩ := hrel
    clear HA
    by_cases hj : j < s.size
    · rw [nums_drop s j hj, List.all_cons] at hd
      have hix := index_at s j hj
      have hbj : (s[j]'hj).toNat < 256 := UInt8.toNat_lt _
      generalize (s[j]'hj).toNat = y at *
      have HD : Hid (gk + j = s.size ∧ (decide (1 ≤ s.size ∧ s.size ≤ 40) && (okN y && ((nums s).drop (j + 1)).all okN)) = A) := ⟨hk, hd⟩
      clear hk hd
      have ends : okN y = true → Hid (gk + j = s.size ∧ (decide (1 ≤ s.size ∧ s.size ≤ 40) && ((nums s).drop (j + 1)).all okN) = A) := fun h => by
        have := HD.out
        rw [h, Bool.true_and] at this
        exact this
      have bad : okN y = false → Hid (A = false) := fun h => by
        have := HD.out.2
        rw [h, Bool.false_and, Bool.and_false] at this
        exact this.symm
      clear HD
      by_cases a1 : 97 ≤ y
      · by_cases a2 : y ≤ 122
        · have HD := ends (by unfold okN; rw [decide_eq_true_eq]; omega)
          clear ends bad
          have q97 : ((97 : Int) ≤ (y : Int)) = True := by simp; omega
          have q122 : ((y : Int) ≤ 122) = True := by simp; omega
          go_wp2
          obtain ⟨hk, hd⟩ := HD.out
          go_roundg (gk - 1)
          case measure => omega
          case rel => exact ⟨j + 1, by simp, by omega, rfl, hd⟩
        · have HD := bad (by unfold okN; rw [decide_eq_false_iff_not]; omega)
          clear ends bad
          have q97 : ((97 : Int) ≤ (y : Int)) = True := by simp; omega
          have q122 : ((y : Int) ≤ 122) = False := by simp; omega
          have q48 : ((48 : Int) ≤ (y : Int)) = True := by simp; omega
          have q57 : ((y : Int) ≤ 57) = False := by simp; omega
          have z45 : ((y : Int) == 45) = false := by rw [beq_eq_false_iff_ne]; omega
          have z95 : ((y : Int) == 95) = false := by rw [beq_eq_false_iff_ne]; omega
          go_wp2
          go_ret
          exact ⟨by rw [HD.out]; rfl, rfl⟩
      · by_cases b1 : 48 ≤ y
        · by_cases b2 : y ≤ 57
          · have HD := ends (by unfold okN; rw [decide_eq_true_eq]; omega)
            clear ends bad
            have q97 : ((97 : Int) ≤ (y : Int)) = False := by simp; omega
            have q48 : ((48 : Int) ≤ (y : Int)) = True := by simp; omega
            have q57 : ((y : Int) ≤ 57) = True := by simp; omega
            go_wp2
            obtain ⟨hk, hd⟩ := HD.out
            go_roundg (gk - 1)
            case measure => omega
            case rel => exact ⟨j + 1, by simp, by omega, rfl, hd⟩
          · by_cases h95 : y = 95
            · have HD := ends (by unfold okN; rw [decide_eq_true_eq]; omega)
              clear ends bad
              subst h95
              go_wp2
              obtain ⟨hk, hd⟩ := HD.out
              go_roundg (gk - 1)
              case measure => omega
              case rel => exact ⟨j + 1, by simp, by omega, rfl, hd⟩
            · have HD := bad (by unfold okN; rw [decide_eq_false_iff_not]; omega)
              clear ends bad
              have q97 : ((97 : Int) ≤ (y : Int)) = False := by simp; omega
              have q48 : ((48 : Int) ≤ (y : Int)) = True := by simp; omega
              have q57 : ((y : Int) ≤ 57) = False := by simp; omega
              have z45 : ((y : Int) == 45) = false := by rw [beq_eq_false_iff_ne]; omega
              have z95 : ((y : Int) == 95) = false := by rw [beq_eq_false_iff_ne]; omega
              go_wp2
              go_ret
              exact ⟨by rw [HD.out]; rfl, rfl⟩
        · by_cases h45 : y = 45
          · have HD := ends (by unfold okN; rw [decide_eq_true_eq]; omega)
            clear ends bad
            subst h45
            go_wp2
            obtain ⟨hk, hd⟩ := HD.out
            go_roundg (gk - 1)
            case measure => omega
            case rel => exact ⟨j + 1, by simp, by omega, rfl, hd⟩
          · have HD := bad (by unfold okN; rw [decide_eq_false_iff_not]; omega)
            clear ends bad
            have q97 : ((97 : Int) ≤ (y : Int)) = False := by simp; omega
            have q48 : ((48 : Int) ≤ (y : Int)) = False := by simp; omega
            have z45 : ((y : Int) == 45) = false := by rw [beq_eq_false_iff_ne]; omega
            have z95 : ((y : Int) == 95) = false := by rw [beq_eq_false_iff_ne]; omega
            go_wp2
            go_ret
            exact ⟨by rw [HD.out]; rfl, rfl⟩
    · rw [nums_none s j hj, List.all_nil, Bool.and_true] at hd
      have HD := hid hd
      clear hd
      by_cases h1 : 1 ≤ s.size
      · have q1 : ((1 : Int) ≤ (s.size : Int)) = True := by simp; omega
        by_cases h40 : s.size ≤ 40
        · have q40 : ((s.size : Int) ≤ 40) = True := by simp; omega
          go_wp2
          go_ret
          exact ⟨by rw [← HD.out, decide_eq_true ⟨h1, h40⟩]; rfl, rfl⟩
        · have q40 : ((s.size : Int) ≤ 40) = False := by simp; omega
          go_wp2
          go_ret
          exact ⟨by rw [← HD.out, decide_eq_false (fun h => h40 h.2)]; rfl, rfl⟩
      · have q1 : ((1 : Int) ≤ (s.size : Int)) = False := by simp; omega
        go_wp2
        go_ret
        exact ⟨by rw [← HD.out, decide_eq_false (fun h => h1 h.1)]; rfl, rfl⟩

theorem prefix_head (s : ByteArray) (h : 0 < s.size) : Lib.hasPrefix s.data.toList [32] = decide ((s[0]'h).toNat = 32) := by
  obtain ⟨⟨d⟩⟩ := s
  cases d with
  | nil => simp [ByteArray.size] at h
  | cons x d =>
    have e : ((⟨⟨x :: d⟩⟩ : ByteArray)[0]'h) = x := rfl
    rw [e]
    unfold Lib.hasPrefix
    rw [Bool.eq_iff_iff]
    simp only [List.isPrefixOf, Bool.and_true, beq_iff_eq, decide_eq_true_eq]
    rw [← UInt8.toNat_inj]
    exact eq_comm
theorem suffix_last (s : ByteArray) (h : s.size - 1 < s.size) : Lib.hasSuffix s.data.toList [32] = decide ((s[s.size - 1]'h).toNat = 32) := by
  have hl : s.data.toList.length = s.size := by simp
  have hne : s.data.toList ≠ [] := by intro e; rw [e] at hl; simp at hl; omega
  have e1 : s.data.toList = s.data.toList.dropLast ++ [s[s.size - 1]'h] := by
    have e2 := (List.dropLast_concat_getLast hne).symm
    have e3 : s.data.toList.getLast hne = s[s.size - 1]'h := by
      rw [List.getLast_eq_getElem]
      simp only [hl]
      rfl
    rw [e3] at e2
    exact e2
  unfold Lib.hasSuffix
  rw [List.isSuffixOf, e1, List.reverse_append, Bool.eq_iff_iff]
  simp only [List.reverse_cons, List.reverse_nil, List.nil_append, List.cons_append, List.isPrefixOf, Bool.and_true, beq_iff_eq, decide_eq_true_eq]
  rw [← UInt8.toNat_inj]
  exact eq_comm

set_option maxRecDepth 100000 in
set_option maxHeartbeats 1000000 in
theorem rvalue_ok (s : ByteArray) (w : World) (hs : s.size ≤ 1000000000) : Calls Tryd.prog 19 #[.string s] w fun e w' => e = .returned (.bool (valueB s)) ∧ w = w' := by
  unfold valueB allB
  generalize hR : (!Lib.hasPrefix s.data.toList [32] && !Lib.hasSuffix s.data.toList [32]) = R
  generalize hA : (decide (s.size ≤ 200) && (nums s).all okV && !Lib.hasPrefix s.data.toList [32] && !Lib.hasSuffix s.data.toList [32]) = A
  have HA : Hid ((((nums s).drop 0).all okV && (decide (s.size ≤ 200) && R)) = A) := by
    show _ = _
    rw [← hA, ← hR, List.drop_zero]
    generalize (nums s).all okV = a
    cases a <;> simp [Bool.and_assoc]
  have HR := hid hR
  clear hA hR
  go_enter Tryd.func19, Tryd.ntmps19
  go_wp2
  go_loopg [3] s.size (fun k i wr => ∃ j : Nat, i = .int .i64 j ∧ k + j = s.size ∧ wr = w ∧ (((nums s).drop j).all okV && (decide (s.size ≤ 200) && R)) = A)
  case atStart => exact ⟨0, rfl, rfl, rfl, HA.out⟩
  case round =>
    obtain ⟨j, rfl, hk, rfl, hd⟩ := hrel
    clear HA
    by_cases hj : j < s.size
    · rw [nums_drop s j hj, List.all_cons] at hd
      have hix := index_at s j hj
      have hbj : (s[j]'hj).toNat < 256 := UInt8.toNat_lt _
      generalize (s[j]'hj).toNat = y at *
      by_cases h32 : y < 32
      · have ho : okV y = false := by unfold okV; simp; omega
        rw [ho, Bool.false_and, Bool.false_and] at hd
        subst hd
        clear HR ho
        go_wp2
        go_ret
        exact ⟨rfl, rfl⟩
      · by_cases h127 : y = 127
        · have ho : okV y = false := by unfold okV; simp; omega
          rw [ho, Bool.false_and, Bool.false_and] at hd
          subst hd h127
          clear HR ho
          go_wp2
          go_ret
          exact ⟨rfl, rfl⟩
        · have ho : okV y = true := by unfold okV; simp; omega
          rw [ho, Bool.true_and] at hd
          have HD := hid (And.intro hk hd)
          have z : ((y : Int) == 127) = false := by rw [beq_eq_false_iff_ne]; omega
          clear ho hk hd
          go_wp2
          obtain ⟨hk, hd⟩ := HD.out
          go_roundg (gk - 1)
          case measure => omega
          case rel => exact ⟨j + 1, by simp, by omega, rfl, hd⟩
    · rw [nums_none s j hj, List.all_nil, Bool.true_and] at hd
      by_cases h200 : s.size ≤ 200
      · rw [decide_eq_true h200, Bool.true_and] at hd
        subst hd
        by_cases h0 : 0 < s.size
        · have hE := isEmpty_of_size s h0
          have hl : s.size - 1 < s.size := by omega
          have hix0 := index_at s 0 h0
          have hix1 := index_at s (s.size - 1) hl
          have hr := HR.out
          rw [prefix_head s h0, suffix_last s hl] at hr
          have hcast : ((s.size : Int) - 1) = ((s.size - 1 : Nat) : Int) := by omega
          rw [← hcast] at hix1
          simp only [Int.natCast_zero] at hix0
          generalize (s[0]'h0).toNat = a at *
          generalize (s[s.size - 1]'hl).toNat = b at *
          have HR2 := hid hr
          clear HR hr hcast
          by_cases ha : a = 32
          · subst ha
            go_wp2
            go_ret
            exact ⟨by rw [← HR2.out]; simp, rfl⟩
          · have za : ((a : Int) == 32) = false := by rw [beq_eq_false_iff_ne]; omega
            by_cases hb : b = 32
            · subst hb
              go_wp2
              go_ret
              exact ⟨by rw [← HR2.out]; simp, rfl⟩
            · have zb : ((b : Int) == 32) = false := by rw [beq_eq_false_iff_ne]; omega
              go_wp2
              go_ret
              exact ⟨by rw [← HR2.out, decide_eq_false ha, decide_eq_false hb]; simp; omega, rfl⟩
        · obtain rfl := eq_empty_of_size s h0
          obtain rfl : R = true := by rw [← HR.out]; decide +kernel
          clear HR h0 hs
          go_wp2
          go_ret
          exact ⟨rfl, rfl⟩
      · rw [decide_eq_false h200, Bool.false_and] at hd
        subst hd
        clear HR
        go_wp2
        go_ret
        exact ⟨rfl, rfl⟩

attribute [local irreducible] getL
set_option maxRecDepth 100000 in
theorem rfield_ok {w : World} {a : Option Addr} {l : List Fld} {S : Nat → Prop} (name : ByteArray) (c : Nat) (h : Lies w a l S) (hl : l.length ≤ 1000000) : Calls Tryd.prog 13 #[.string name, .slice a l.length c] w fun e w' => e = .returned (getV (getL name l)) ∧ Keeps nobody w w' := by
  have HG : Hid (getL name (l.drop 0) = getL name l) := rfl
  generalize getL name l = g at *
  go_enter Tryd.func13, Tryd.ntmps13
  go_wp2
  go_loopg [6] l.length (fun k i wr => ∃ j : Nat, i = .int .i64 j ∧ k + j = l.length ∧ wr = w ∧ getL name (l.drop j) = g)
  case atStart => exact ⟨0, rfl, rfl, rfl, HG.out⟩
  case round =>
    obtain ⟨j, rfl, hk, rfl, hg⟩ := hrel
    by_cases hj : j < l.length
    · obtain ⟨b, off, rfl, hb, _, c0, c1⟩ := h.at j hj
      rw [getL_at name l j hj] at hg
      generalize l[j]'hj = f at *
      obtain ⟨x, y⟩ := f
      simp only at c0 c1 hg
      by_cases hx : x = name
      · rw [if_pos hx] at hg
        subst hx hg
        clear HG
        have z1 : (x.toList == x.toList) = true := beq_list_of_eq rfl
        go_wp2
        exact bodyPost_ret (v := getV (some y)) (by simp [results, Tryd.results13, go_sem, getV]) rfl ⟨rfl, Keeps.refl _ _⟩
      · rw [if_neg hx] at hg
        have z1 := beq_list_of_ne hx
        have H1 := hid hg
        have H2 := hid hk
        clear hg hk HG hx
        go_wp2
        have hk := H2.out
        go_roundg (gk - 1)
        case measure => omega
        case rel => exact ⟨j + 1, by simp, by omega, rfl, H1.out⟩
    · rw [List.drop_eq_nil_of_le (by omega)] at hg
      obtain rfl : g = none := by rw [← hg]; unfold getL; rfl
      clear HG hg
      go_wp2
      exact bodyPost_ret (v := getV none) (by simp [results, Tryd.results13, go_sem, getV]) rfl ⟨rfl, Keeps.refl _ _⟩
end Go.Proofs.YtladdbppkepphaaDoor
