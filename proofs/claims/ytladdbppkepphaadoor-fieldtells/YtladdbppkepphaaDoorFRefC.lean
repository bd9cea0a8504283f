/-
  The document's own answers: TrailerFields, RequestFields, ResponseFields, Length.
-/
import Derived.Test.YtladdbppkepphaaDoorFRefB
namespace Go.Proofs.YtladdbppkepphaaDoor
open Go.RowKit

/-- Lists that are short. -/
def Shorts (l : List Fld) : Prop := ∀ f ∈ l, f.1.size ≤ 100000 ∧ f.2.size ≤ 100000
theorem own4_none : ∀ n ∈ own4, nameB n = false := by decide +kernel
theorem own1_none : ∀ n ∈ own1, nameB n = false := by decide +kernel
theorem own4_nodup : own4.Nodup := by decide +kernel
theorem own1_nodup : own1.Nodup := by decide +kernel
theorem valL_short {l : List Fld} (h : Shorts l) (name : ByteArray) : (valL name l).size ≤ 100000 := by
  unfold valL getL
  cases hf : l.find? fun f => decide (f.1 = name) with
  | none => simp [ByteArray.size]
  | some f => exact (h f (List.mem_of_find?_eq_some hf)).2

theorem rtrailers_ok {w : World} {a : Option Addr} {l : List Fld} {S : Nat → Prop} (c : Nat) (h : Lies w a l S) (hl : l.length ≤ 1000) (hz : Shorts l) :
    Calls Tryd.prog 25 #[.slice a l.length c] w fun e w' => e = .returned (.int .i64 (trailersE l : Int)) ∧ Keeps nobody w w' := by
  have HL : Hid (Calls Tryd.prog 33 #[.slice a l.length c, .slice none 0 0] w fun e w' => e = .returned (.int .i64 (trailersE l : Int)) ∧ Keeps nobody w w') := rlist_ok (own := []) c 0 h (.inl rfl) hl hz (by simp) (by simp) (by simp)
  generalize trailersE l = E at *
  clear h hz hl
  go_enter Tryd.func25, Tryd.ntmps25
  go_wp2_with (go_at_call 33; refine Calls.mono HL.out ?_; rintro e w1 ⟨rfl, k1⟩)
  go_ret
  exact ⟨rfl, k1⟩

theorem rgetv_ok {w : World} {a : Option Addr} {l : List Fld} {S : Nat → Prop} (c : Nat) (h : Lies w a l S) (hl : l.length ≤ 1000000) : ∀ name W, Keeps nobody w W → Calls Tryd.prog 13 #[.string name, .slice a l.length c] W fun e w' => e = .returned (.tuple #[.string (valL name l), .bool (getL name l).isSome]) ∧ Keeps nobody W w' := fun name _ hW => rfield_ok name c (h.quiet hW) hl
theorem prefix_any (s : ByteArray) (z : UInt8) (h : 0 < s.size) : Lib.hasPrefix s.data.toList [z] = decide ((s[0]'h).toNat = z.toNat) := by
  obtain ⟨⟨d⟩⟩ := s
  cases d with
  | nil => simp [ByteArray.size] at h
  | cons x d =>
    have e : ((⟨⟨x :: d⟩⟩ : ByteArray)[0]'h) = x := rfl
    rw [e]
    unfold Lib.hasPrefix
    rw [Bool.eq_iff_iff]
    simp only [List.isPrefixOf, Bool.and_true, beq_iff_eq, decide_eq_true_eq]
    rw [← UInt8.toNat_inj]
    exact eq_comm

attribute [local irreducible] getL valL lackE nameB valueB forbB misB hasB nextE listE statB
set_option maxRecDepth 100000 in
set_option maxHeartbeats 1000000 in
theorem rrequest_ok {w : World} {a : Option Addr} {l : List Fld} {S : Nat → Prop} (c : Nat) (h : Lies w a l S) (hl : l.length ≤ 1000) (hz : Shorts l) :
    Calls Tryd.prog 21 #[.slice a l.length c] w fun e w' => e = .returned (.int .i64 (requestE l : Int)) ∧ Keeps nobody w w' := by
  have k0 := keeps_alloc w (.cells #[.string sMethod, .string sScheme, .string sAuthority, .string sPath] 9)
  have s0 := strs4 w
  have HL : Hid (Calls Tryd.prog 33 #[.slice a l.length c, .slice (some ⟨w.heap.size, 0, none⟩) 4 4] (w.alloc (.cells #[.string sMethod, .string sScheme, .string sAuthority, .string sPath] 9)) fun e w' => e = .returned (.int .i64 (listE own4 [] l : Int)) ∧ Keeps nobody (w.alloc (.cells #[.string sMethod, .string sScheme, .string sAuthority, .string sPath] 9)) w') := rlist_ok (own := own4) c 4 (h.quiet k0) s0 hl hz (by simp) own4_none own4_nodup
  have HG : Hid (∀ name W, Keeps nobody w W → Calls Tryd.prog 13 #[.string name, .slice a l.length c] W fun e w' => e = .returned (.tuple #[.string (valL name l), .bool (getL name l).isSome]) ∧ Keeps nobody W w') := rgetv_ok c h (by omega)
  have hE : requestE l = if listE own4 [] l = 0 then lackE l own4 else listE own4 [] l := rfl
  generalize requestE l = E at *
  by_cases he : listE own4 [] l = 0
  · rw [if_pos he] at hE
    rw [he] at HL
    clear he
    have HE := hid hE
    clear hE h hz hl
    go_enter Tryd.func21, Tryd.ntmps21
    go_wp2_with (go_at_call 33; refine Calls.mono HL.out ?_; rintro e w1 ⟨rfl, k1⟩)
    go_loopg [5] 5 (fun k i wr => ∃ j : Nat, i = .int .i64 j ∧ k + j = 5 ∧ j ≤ 4 ∧ Keeps nobody w wr ∧ Strs wr (some ⟨w.heap.size, 0, none⟩) own4 ∧ Hid (lackE l (own4.drop j) = E ∧ (j = 4 → 0 < (valL sPath l).size)))
    case atStart => exact ⟨0, rfl, rfl, by omega, k0.then k1, s0.quiet k1, ⟨HE.out.symm, fun h => by omega⟩⟩
    case round =>
      obtain ⟨j, rfl, hk, hj4, hK, hS, HX0⟩ := hrel
      have hg := HX0.out.1
      by_cases hj : j < 4
      · have hS' := hS
        rcases hS with e | ⟨b, off, e, hb, hcell⟩
        · cases e
        simp only [Option.some.injEq, Addr.mk.injEq] at e
        obtain ⟨rfl, rfl, _⟩ := e
        have c0 := hcell j hj
        rw [Nat.zero_add] at c0
        rw [lackE_at l j hj] at hg
        have HX : Hid (∀ W, Keeps nobody w W → Calls Tryd.prog 13 #[.string (own4.getD j ByteArray.empty), .slice a l.length c] W fun e w' => e = .returned (.tuple #[.string (valL (own4.getD j ByteArray.empty) l), .bool (getL (own4.getD j ByteArray.empty) l).isSome]) ∧ Keeps nobody W w') := HG.out _
        have HP4 : Hid (j + 1 = 4 → own4.getD j ByteArray.empty = sPath) := fun e => by
          obtain rfl : j = 3 := by omega
          rfl
        generalize own4.getD j ByteArray.empty = x at *
        generalize (getL x l).isSome = z at *
        by_cases h0 : 0 < (valL x l).size
        · have hE := isEmpty_of_size _ h0
          rw [if_neg (by omega)] at hg
          have H2 := hid (And.intro hk (And.intro hg (show j + 1 = 4 → 0 < (valL sPath l).size from fun e => by rw [← HP4.out e]; exact h0)))
          have H3 := hid hS'
          generalize valL x l = v at *
          clear hg hk hcell HE h0 hS' HX0 HP4
          go_wp2_with (go_at_call 13; refine Calls.mono (HX.out _ hK) ?_; rintro e w2 ⟨rfl, k2⟩)
          obtain ⟨hk, hg⟩ := H2.out
          have hS' := H3.out
          go_roundg (gk - 1)
          case measure => omega
          case rel => exact ⟨j + 1, by simp, by omega, by omega, hK.then k2, hS'.quiet k2, hg⟩
        · have hv : valL x l = ⟨#[]⟩ := eq_empty_of_size _ h0
          rw [if_pos (by omega)] at hg
          subst hg
          rw [hv] at HX
          clear hk hcell HE h0 hS' hv HX0 HP4
          go_wp2_with (go_at_call 13; refine Calls.mono (HX.out _ hK) ?_; rintro e w2 ⟨rfl, k2⟩)
          go_ret
          exact ⟨rfl, hK.then k2⟩
      · obtain rfl : j = 4 := by omega
        have HX : Hid (∀ W, Keeps nobody w W → Calls Tryd.prog 13 #[.string sPath, .slice a l.length c] W fun e w' => e = .returned (.tuple #[.string (valL sPath l), .bool (getL sPath l).isSome]) ∧ Keeps nobody W w') := HG.out _
        have hpos := HX0.out.2 rfl
        have hg2 : (if Lib.hasPrefix (valL sPath l).data.toList [47] = true then 0 else 3) = E := by rw [← hg]; unfold lackE; rfl
        rw [prefix_any _ 47 hpos] at hg2
        have hix := index_at (valL sPath l) 0 hpos
        simp only [Int.natCast_zero] at hix
        generalize (getL sPath l).isSome = y at *
        have hby : ((valL sPath l)[0]'hpos).toNat < 256 := UInt8.toNat_lt _
        generalize ((valL sPath l)[0]'hpos).toNat = z at *
        have HH := hid hS
        have H2 := hid hg2
        clear hg HE HG HL hk hj hj4 hS HX0 hg2
        generalize valL sPath l = v at *
        by_cases hz47 : z = 47
        · obtain rfl : 0 = E := by have := H2.out; rw [decide_eq_true (show z = (47 : UInt8).toNat from hz47)] at this; exact this
          subst hz47
          go_wp2_with (go_at_call 13; refine Calls.mono (HX.out _ hK) ?_; rintro e w2 ⟨rfl, k2⟩)
          go_ret
          exact ⟨rfl, hK.then k2⟩
        · obtain rfl : 3 = E := by have := H2.out; rw [decide_eq_false (show ¬ z = (47 : UInt8).toNat from hz47)] at this; exact this
          have zz : ((z : Int) == 47) = false := by rw [beq_eq_false_iff_ne]; omega
          clear H2
          go_wp2_with (go_at_call 13; refine Calls.mono (HX.out _ hK) ?_; rintro e w2 ⟨rfl, k2⟩)
          go_ret
          exact ⟨rfl, hK.then k2⟩
  · rw [if_neg he] at hE
    subst hE
    generalize listE own4 [] l = E at *
    clear h hz hl HG
    go_enter Tryd.func21, Tryd.ntmps21
    go_wp2_with (go_at_call 33; refine Calls.mono HL.out ?_; rintro e w1 ⟨rfl, k1⟩)
    go_ret
    exact ⟨rfl, k0.then k1⟩

/-- Three digits as a number. -/
theorem decL_snoc (l : List Nat) (c : Nat) : ∀ acc, decL acc (l ++ [c]) = decL acc l * 10 + (c - 48) := by
  induction l with
  | nil => intro acc; rfl
  | cons x l ih => intro acc; exact ih _
theorem decL_lt (l : List Nat) (h : l.all okD = true) : decL 0 l < 10 ^ l.length := by
  refine rev_ind (p := fun l => l.all okD = true → decL 0 l < 10 ^ l.length) ?_ ?_ l h
  · intro _; exact Nat.one_pos
  · intro a c ih hc
    rw [List.all_append, Bool.and_eq_true] at hc
    have h1 := ih hc.1
    have h2 : 48 ≤ c ∧ c ≤ 57 := by
      have := hc.2
      simp only [List.all_cons, List.all_nil, Bool.and_true, okD, decide_eq_true_eq] at this
      exact this
    rw [decL_snoc, List.length_append, List.length_singleton, Nat.pow_succ]
    omega
theorem stat_num (v : ByteArray) (h3 : v.size = 3) (hd : allB okD v = true) : statB v = decide (100 ≤ decL 0 (nums v) ∧ decL 0 (nums v) ≤ 599) := by
  obtain ⟨⟨d⟩⟩ := v
  match d, h3 with
  | [p, q, r], _ =>
  have hd' : okD p.toNat = true ∧ okD q.toNat = true ∧ okD r.toNat = true := by simpa [allB, nums] using hd
  obtain ⟨h1, h2, h3⟩ := hd'
  have e : statB ⟨⟨[p, q, r]⟩⟩ = (decide (49 ≤ p.toNat ∧ p.toNat ≤ 53) && okD q.toNat && okD r.toNat) := by unfold statB; rfl
  have e2 : decL 0 (nums ⟨⟨[p, q, r]⟩⟩) = ((0 * 10 + (p.toNat - 48)) * 10 + (q.toNat - 48)) * 10 + (r.toNat - 48) := rfl
  rw [e, e2, h2, h3, Bool.and_true, Bool.and_true, Bool.eq_iff_iff, decide_eq_true_eq, decide_eq_true_eq]
  unfold okD at h1 h2 h3
  simp only [decide_eq_true_eq] at h1 h2 h3
  omega
theorem all_take (v : ByteArray) (j : Nat) (hj : j < v.size) : ((nums v).take (j + 1)).all okD = (((nums v).take j).all okD && okD (v[j]'hj).toNat) := by
  rw [nums_take_snoc v j hj, List.all_append]
  simp

attribute [local irreducible] nums decL allB
set_option maxRecDepth 100000 in
set_option maxHeartbeats 1000000 in
theorem rstatus_ok {w : World} {a : Option Addr} {l : List Fld} {S : Nat → Prop} (c : Nat) (h : Lies w a l S) (hl : l.length ≤ 1000) (hz : Shorts l) :
    Calls Tryd.prog 34 #[.slice a l.length c] w fun e w' => ∃ n : Nat, e = .returned (.int .i64 (n : Int)) ∧ Hid (((n = 0) ↔ statB (valL sStatus l) = false) ∧ Keeps nobody w w') := by
  have HX : Hid (Calls Tryd.prog 13 #[.string sStatus, .slice a l.length c] w fun e w' => e = .returned (.tuple #[.string (valL sStatus l), .bool (getL sStatus l).isSome]) ∧ Keeps nobody w w') := rgetv_ok c h (by omega) sStatus w (Keeps.refl _ _)
  have hsz := valL_short hz sStatus
  generalize (getL sStatus l).isSome = y at *
  generalize valL sStatus l = v at *
  clear h hz
  by_cases h3 : v.size = 3
  · have hs3 : (((v.size : Nat) : Int) == 3) = true := by rw [h3]; rfl
    have HT := hid (stat_num v h3)
    have HN := hid (stat_three_no v)
    have H3 := hid h3
    clear h3
    go_enter Tryd.func34, Tryd.ntmps34
    go_wp2_with (go_at_call 13; refine Calls.mono HX.out ?_; rintro e w1 ⟨rfl, k1⟩)
    go_loopg [5, 6] 3 (fun k n i wr => ∃ j : Nat, n = .int .i64 (decL 0 ((nums v).take j) : Int) ∧ i = .int .i64 j ∧ k + j = 3 ∧ wr = w1 ∧ ((nums v).take j).all okD = true)
    case atStart => exact ⟨0, by rw [List.take_zero]; unfold decL; rfl, rfl, rfl, rfl, by rw [List.take_zero]; rfl⟩
    case round =>
      obtain ⟨j, rfl, rfl, hk, rfl, hd⟩ := hrel
      by_cases hj : j < 3
      · have hjv : j < v.size := by rw [H3.out]; exact hj
        have hix := index_at v j hjv
        have hall := all_take v j hjv
        have hdec : decL 0 ((nums v).take (j + 1)) = decL 0 ((nums v).take j) * 10 + ((v[j]'hjv).toNat - 48) := by rw [nums_take_snoc v j hjv, decL_snoc]
        have hlt := decL_lt _ hd
        rw [List.length_take, nums_length, H3.out] at hlt
        have hlt2 : decL 0 ((nums v).take j) < 1000 := Nat.lt_of_lt_of_le hlt (by rw [show (1000 : Nat) = 10 ^ 3 from rfl]; exact Nat.pow_le_pow_right (by decide) (by omega))
        have hby : (v[j]'hjv).toNat < 256 := UInt8.toNat_lt _
        generalize (v[j]'hjv).toNat = z at *
        rw [hd, Bool.true_and] at hall
        have HD := hid (And.intro hk (And.intro hall hdec))
        have HNO : Hid (okD z = false → statB v = false) := fun hz0 => HN.out (fun hh => by
          have ha := hh.2
          unfold allB at ha
          have : ((nums v).take (j + 1)).all okD = true := by
            rw [List.all_eq_true] at ha ⊢
            exact fun x hx => ha x (List.mem_of_mem_take hx)
          rw [hall, hz0] at this
          cases this)
        generalize decL 0 ((nums v).take j) = acc at *
        clear hk hall hdec hd hlt
        by_cases z48 : 48 ≤ z
        · have qa : ((z : Int) < 48) = False := by simp; omega
          by_cases z57 : z ≤ 57
          · have qb : ((57 : Int) < (z : Int)) = False := by simp; omega
            have hsub : ((z : Int) - 48) = ((z - 48 : Nat) : Int) := by omega
            have hok : okD z = true := by unfold okD; rw [decide_eq_true_eq]; omega
            have hm : z - 48 ≤ 9 := by omega
            have HH := hid (show ((10 : Int) * (acc : Int) + ((z - 48 : Nat) : Int)) = ((acc * 10 + (z - 48) : Nat) : Int) by push_cast; omega)
            go_wp2
            obtain ⟨hk, hall, hdec⟩ := HD.out
            go_roundg (gk - 1)
            case measure => omega
            case rel => exact ⟨j + 1, by rw [hdec]; congr 1, by simp, by omega, rfl, by rw [hall, hok]⟩
          · have qb : ((57 : Int) < (z : Int)) = True := by simp; omega
            have hno := HNO.out (by unfold okD; rw [decide_eq_false_iff_not]; omega)
            have HO := hid hno
            clear hno HNO HD
            go_wp2
            go_ret
            exact ⟨0, rfl, ⟨by simp [HO.out], k1⟩⟩
        · have qa : ((z : Int) < 48) = True := by simp; omega
          have hno := HNO.out (by unfold okD; rw [decide_eq_false_iff_not]; omega)
          have HO := hid hno
          clear hno HNO HD
          go_wp2
          go_ret
          exact ⟨0, rfl, ⟨by simp [HO.out], k1⟩⟩
      · obtain rfl : j = 3 := by omega
        have ht : (nums v).take 3 = nums v := nums_all v 3 (by rw [H3.out]; omega)
        rw [ht] at hd ⊢
        have hst := HT.out (by unfold allB; exact hd)
        have hlt := decL_lt _ hd
        rw [nums_length, H3.out] at hlt
        have hlt2 : decL 0 (nums v) < 1000 := hlt
        have HST := hid hst
        clear hst hlt hd ht HT HN
        generalize decL 0 (nums v) = acc at *
        by_cases a1 : acc < 100
        · have qa : ((acc : Int) < 100) = True := by simp; omega
          go_wp2
          go_ret
          exact ⟨0, rfl, ⟨by rw [HST.out, decide_eq_false (by omega)]; simp, k1⟩⟩
        · have qa : ((acc : Int) < 100) = False := by simp; omega
          by_cases a2 : acc ≤ 599
          · have qb : ((599 : Int) < (acc : Int)) = False := by simp; omega
            go_wp2
            go_ret
            refine ⟨acc, rfl, ⟨?_, k1⟩⟩
            rw [HST.out, decide_eq_true (by omega)]
            constructor
            · intro h0; omega
            · intro h0; cases h0
          · have qb : ((599 : Int) < (acc : Int)) = True := by simp; omega
            go_wp2
            go_ret
            exact ⟨0, rfl, ⟨by rw [HST.out, decide_eq_false (by omega)]; simp, k1⟩⟩
  · have hno := stat_three_no v (fun h => h3 h.1)
    have HO := hid hno
    have hs3 : (((v.size : Nat) : Int) == 3) = false := by rw [beq_eq_false_iff_ne]; omega
    clear hno h3
    go_enter Tryd.func34, Tryd.ntmps34
    go_wp2_with (go_at_call 13; refine Calls.mono HX.out ?_; rintro e w1 ⟨rfl, k1⟩)
    go_ret
    exact ⟨0, rfl, ⟨by simp [HO.out], k1⟩⟩
set_option maxRecDepth 100000 in
set_option maxHeartbeats 1000000 in
theorem rresponse_ok {w : World} {a : Option Addr} {l : List Fld} {S : Nat → Prop} (c : Nat) (h : Lies w a l S) (hl : l.length ≤ 1000) (hz : Shorts l) :
    Calls Tryd.prog 23 #[.slice a l.length c] w fun e w' => e = .returned (.int .i64 (responseE l : Int)) ∧ Keeps nobody w w' := by
  have k0 := keeps_alloc w (.cells #[.string sStatus] 9)
  have HL : Hid (Calls Tryd.prog 33 #[.slice a l.length c, .slice (some ⟨w.heap.size, 0, none⟩) 1 1] (w.alloc (.cells #[.string sStatus] 9)) fun e w' => e = .returned (.int .i64 (listE own1 [] l : Int)) ∧ Keeps nobody (w.alloc (.cells #[.string sStatus] 9)) w') := rlist_ok (own := own1) c 1 (h.quiet k0) (strs1 w) hl hz (by simp) own1_none own1_nodup
  have HX : Hid (∀ W, Keeps nobody w W → Calls Tryd.prog 34 #[.slice a l.length c] W fun e w' => ∃ n : Nat, e = .returned (.int .i64 (n : Int)) ∧ Hid (((n = 0) ↔ statB (valL sStatus l) = false) ∧ Keeps nobody W w')) := fun W hW => rstatus_ok c (h.quiet hW) hl hz
  have hE : responseE l = if listE own1 [] l = 0 then (if statB (valL sStatus l) = true then 0 else 3) else listE own1 [] l := rfl
  generalize responseE l = E at *
  clear h hz hl
  by_cases he : listE own1 [] l = 0
  · rw [if_pos he] at hE
    rw [he] at HL
    clear he
    generalize statB (valL sStatus l) = z at *
    have HE := hid hE
    clear hE
    go_enter Tryd.func23, Tryd.ntmps23
    go_wp2_with fail
    refine Calls.mono HL.out ?_
    rintro e w1 ⟨rfl, k1⟩
    go_wp2_with fail
    refine Calls.mono (HX.out _ (k0.then k1)) ?_
    rintro e w2 ⟨n, rfl, HR⟩
    obtain ⟨hn, k2⟩ := HR.out
    by_cases h0 : n = 0
    · have hE := HE.out
      rw [hn.1 h0, if_neg (by simp)] at hE
      subst h0
      have HE2 := hid hE
      clear HE hE hn HR
      go_wp2
      go_ret
      exact ⟨by first | rfl | (rw [HE2.out]; rfl), (k0.then k1).then k2⟩
    · have hz : z = true := by
        cases z
        · exact absurd (hn.2 rfl) h0
        · rfl
      have hE := HE.out
      rw [hz, if_pos rfl] at hE
      have zn : ((n : Int) == 0) = false := by rw [beq_eq_false_iff_ne]; omega
      have HE2 := hid hE
      clear HE hE hn HR hz
      go_wp2
      go_ret
      exact ⟨by first | rfl | (rw [HE2.out]; rfl), (k0.then k1).then k2⟩
  · rw [if_neg he] at hE
    subst hE
    generalize listE own1 [] l = E at *
    clear HX
    go_enter Tryd.func23, Tryd.ntmps23
    go_wp2_with (go_at_call 33; refine Calls.mono HL.out ?_; rintro e w1 ⟨rfl, k1⟩)
    go_ret
    exact ⟨rfl, k0.then k1⟩
end Go.Proofs.YtladdbppkepphaaDoor
