/-
  The document's own answer to a body's length (bywashref1.Length).
-/
import Derived.Test.YtladdbppkepphaaDoorFRefC
namespace Go.Proofs.YtladdbppkepphaaDoor
open Go.RowKit

theorem lenB_take (v : ByteArray) (j : Nat) (hb : lenB v = true) : ((nums v).take (j + 1)).all okD = true := by
  unfold lenB allB at hb
  simp only [Bool.and_eq_true] at hb
  have ha := hb.2
  rw [List.all_eq_true] at ha ⊢
  exact fun x hx => ha x (List.mem_of_mem_take hx)
theorem lenB_size (v : ByteArray) (hb : lenB v = true) : 1 ≤ v.size ∧ v.size ≤ 9 := by
  unfold lenB at hb
  simp only [Bool.and_eq_true, decide_eq_true_eq] at hb
  exact hb.1
attribute [local irreducible] getL valL sameB lenB decL nums allB okD
set_option maxRecDepth 100000 in
set_option maxHeartbeats 2000000 in
theorem rlength_ok {w : World} {a : Option Addr} {l : List Fld} {S : Nat → Prop} (c : Nat) (h : Lies w a l S) (hl : l.length ≤ 1000) (hz : Shorts l) :
    Calls Tryd.prog 15 #[.slice a l.length c] w fun e w' => e = .returned (lenV (lengthE l)) ∧ Keeps nobody w w' := by
  have HX : Hid (Calls Tryd.prog 13 #[.string sLength, .slice a l.length c] w fun e w' => e = .returned (.tuple #[.string ((getL sLength l).getD ⟨#[]⟩), .bool (getL sLength l).isSome]) ∧ Keeps nobody w w') := rfield_ok sLength c h (by omega)
  have hsz := valL_short hz sLength
  unfold valL at hsz
  have hE : lengthE l = match getL sLength l with
    | none => (-1, 0)
    | some v => if (sameB v l && lenB v) = true then (((decL 0 (nums v) : Nat) : Int), 0) else ((-1 : Int), 3) := rfl
  generalize lengthE l = E at *
  generalize getL sLength l = g at *
  cases g with
  | none =>
    obtain rfl : E = (-1, 0) := hE
    clear h hz hsz
    simp only [Option.getD_none, Option.isSome_none] at HX
    go_enter Tryd.func15, Tryd.ntmps15
    go_wp2_with (go_at_call 13; refine Calls.mono HX.out ?_; rintro e w1 ⟨rfl, k1⟩)
    exact bodyPost_ret (v := lenV (-1, 0)) (by simp [results, Tryd.results15, go_sem, lenV]) rfl ⟨rfl, k1⟩
  | some v =>
    simp only [Option.getD_some, Option.isSome_some] at HX hE hsz
    have H0 : Hid (E = if (sameB v (l.drop 0) && lenB v) = true then (((decL 0 (nums v) : Nat) : Int), 0) else ((-1 : Int), 3)) := hE
    clear hE hz
    go_enter Tryd.func15, Tryd.ntmps15
    go_wp2_with (go_at_call 13; refine Calls.mono HX.out ?_; rintro e w1 ⟨rfl, k1⟩)
    go_loopg [6] l.length (fun k i wr => ∃ j : Nat, i = .int .i64 j ∧ k + j = l.length ∧ wr = w1 ∧ E = if (sameB v (l.drop j) && lenB v) = true then (((decL 0 (nums v) : Nat) : Int), 0) else ((-1 : Int), 3))
    case atStart => exact ⟨0, rfl, rfl, rfl, H0.out⟩
    case round =>
      obtain ⟨j, rfl, hk, rfl, hg⟩ := hrel
      by_cases hj : j < l.length
      · obtain ⟨b, off, rfl, hb, _, c0, c1⟩ := (h.quiet k1).at j hj
        rw [sameB_at v l j hj] at hg
        generalize l[j]'hj = f at *
        obtain ⟨x, y⟩ := f
        simp only at c0 c1 hg
        by_cases hx : x = sLength
        · by_cases hy : y = v
          · rw [decide_eq_true (fun _ => hy), Bool.true_and] at hg
            have HH := hid (And.intro hk hg)
            subst hx
            have z1 : (y.toList == v.toList) = true := beq_list_of_eq hy
            clear hg hk H0 hy
            go_wp2
            obtain ⟨hk, hg⟩ := HH.out
            go_roundg (gk - 1)
            case measure => omega
            case rel => exact ⟨j + 1, by simp, by omega, rfl, hg⟩
          · rw [decide_eq_false (fun h => hy (h hx)), Bool.false_and, Bool.false_and, if_neg (by simp)] at hg
            have z1 := beq_list_of_ne hy
            subst hx hg
            clear hk H0 hy
            go_wp2
            exact bodyPost_ret (v := lenV (-1, 3)) (by simp [results, Tryd.results15, go_sem, lenV]) rfl ⟨rfl, k1⟩
        · rw [decide_eq_true (fun h => (hx h).elim), Bool.true_and] at hg
          have z1 := beq_lit_of_ne hx
          have HH := hid (And.intro hk hg)
          clear hg hk H0 hx
          go_wp2
          obtain ⟨hk, hg⟩ := HH.out
          go_roundg (gk - 1)
          case measure => omega
          case rel => exact ⟨j + 1, by simp, by omega, rfl, hg⟩
      · have e : sameB v (l.drop j) = true := by rw [List.drop_eq_nil_of_le (by omega)]; unfold sameB; rfl
        rw [e, Bool.true_and] at hg
        have HE := hid hg
        clear e H0 HX hg hk
        obtain ⟨wo, hwo⟩ : ∃ wo : World, wo = wr := ⟨_, rfl⟩
        subst hwo
        go_wp2_with fail
        go_loopg [7, 8] v.size (fun k n i wr => ∃ q : Nat, n = .int .i64 (decL 0 ((nums v).take q) : Int) ∧ i = .int .i64 q ∧ k + q = v.size ∧ wr = wo ∧ q ≤ 9 ∧ ((nums v).take q).all okD = true)
        case atStart => exact ⟨0, by rw [List.take_zero]; unfold decL; rfl, rfl, rfl, rfl, by omega, by rw [List.take_zero]; rfl⟩
        case round =>
          obtain ⟨q, rfl, rfl, hk, rfl, hq9, hd⟩ := hrel
          by_cases hq : q < v.size
          · have hix := index_at v q hq
            have hall := all_take v q hq
            have hdec : decL 0 ((nums v).take (q + 1)) = decL 0 ((nums v).take q) * 10 + ((v[q]'hq).toNat - 48) := by rw [nums_take_snoc v q hq, decL_snoc]
            have hlt := decL_lt _ hd
            rw [List.length_take, nums_length] at hlt
            have hlt2 : decL 0 ((nums v).take q) < 1000000000 := Nat.lt_of_lt_of_le hlt (by rw [show (1000000000 : Nat) = 10 ^ 9 from rfl]; exact Nat.pow_le_pow_right (by decide) (by omega))
            have hby : (v[q]'hq).toNat < 256 := UInt8.toNat_lt _
            generalize (v[q]'hq).toNat = z at *
            rw [hd, Bool.true_and] at hall
            have HD := hid (And.intro hk (And.intro hall hdec))
            have HNO : Hid (okD z = false ∨ 9 ≤ q → E = (-1, 3)) := fun hz0 => by
              have hb : lenB v = false := by
                rw [Bool.eq_false_iff]
                intro hb
                rcases hz0 with hz0 | hz0
                · have := lenB_take v q hb
                  rw [hall, hz0] at this
                  cases this
                · have := lenB_size v hb
                  omega
              rw [HE.out, hb]
              rfl
            generalize decL 0 ((nums v).take q) = acc at *
            clear hk hall hdec hd hlt
            by_cases z48 : 48 ≤ z
            · have qa : ((z : Int) < 48) = False := by simp; omega
              by_cases z57 : z ≤ 57
              · have qb : ((57 : Int) < (z : Int)) = False := by simp; omega
                have hsub : ((z : Int) - 48) = ((z - 48 : Nat) : Int) := by omega
                have hok : okD z = true := by unfold okD; rw [decide_eq_true_eq]; omega
                have hm : z - 48 ≤ 9 := by omega
                by_cases h9 : 9 ≤ q
                · have q9 : ((9 : Int) ≤ (q : Int)) = True := by simp; omega
                  have hno := HNO.out (.inr h9)
                  subst hno
                  clear HNO HD HE
                  go_wp2
                  exact bodyPost_ret (v := lenV (-1, 3)) (by simp [results, Tryd.results15, go_sem, lenV]) rfl ⟨rfl, k1⟩
                · have q9 : ((9 : Int) ≤ (q : Int)) = False := by simp; omega
                  clear HNO
                  go_wp2
                  obtain ⟨hk, hall, hdec⟩ := HD.out
                  go_roundg (gk - 1)
                  case measure => omega
                  case rel => exact ⟨q + 1, by rw [hdec]; congr 1; push_cast; omega, by simp, by omega, rfl, by omega, by rw [hall, hok]⟩
              · have qb : ((57 : Int) < (z : Int)) = True := by simp; omega
                have hno := HNO.out (.inl (by unfold okD; rw [decide_eq_false_iff_not]; omega))
                subst hno
                clear HNO HD HE
                go_wp2
                exact bodyPost_ret (v := lenV (-1, 3)) (by simp [results, Tryd.results15, go_sem, lenV]) rfl ⟨rfl, k1⟩
            · have qa : ((z : Int) < 48) = True := by simp; omega
              have hno := HNO.out (.inl (by unfold okD; rw [decide_eq_false_iff_not]; omega))
              subst hno
              clear HNO HD HE
              go_wp2
              exact bodyPost_ret (v := lenV (-1, 3)) (by simp [results, Tryd.results15, go_sem, lenV]) rfl ⟨rfl, k1⟩
          · have ht : (nums v).take q = nums v := nums_all v q hq
            rw [ht] at hd ⊢
            by_cases h0 : 0 < v.size
            · have hEm := isEmpty_of_size v h0
              have hb : lenB v = true := by
                unfold lenB allB
                rw [hd, decide_eq_true (by omega)]
                rfl
              have hg := HE.out
              rw [hb, if_pos rfl] at hg
              subst hg
              obtain ⟨n, hn⟩ : ∃ n, decL 0 (nums v) = n := ⟨_, rfl⟩
              rw [hn]
              have HN := hid hn
              clear hn hb HE hd ht
              go_wp2
              exact bodyPost_ret (v := lenV ((n : Nat), 0)) (by simp [results, Tryd.results15, go_sem, lenV]) rfl ⟨by rw [HN.out], k1⟩
            · have hb : lenB v = false := by
                rw [Bool.eq_false_iff]
                intro hb
                have := lenB_size v hb
                omega
              have hg := HE.out
              rw [hb, if_neg (by simp)] at hg
              subst hg
              obtain rfl := eq_empty_of_size v h0
              obtain ⟨n, hn⟩ : ∃ n, decL 0 (nums ⟨#[]⟩) = n := ⟨_, rfl⟩
              rw [hn]
              clear hn hb HE hd ht h0 hq
              go_wp2
              exact bodyPost_ret (v := lenV (-1, 3)) (by simp [results, Tryd.results15, go_sem, lenV]) rfl ⟨rfl, k1⟩
end Go.Proofs.YtladdbppkepphaaDoor
