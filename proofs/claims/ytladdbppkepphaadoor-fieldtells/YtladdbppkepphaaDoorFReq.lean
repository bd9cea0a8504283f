/-
  Package field: Request, Response, Trailers, Length.
-/
import Derived.Test.YtladdbppkepphaaDoorFList
namespace Go.Proofs.YtladdbppkepphaaDoor
open Go.RowKit

theorem trailers_ok {w : World} {a : Option Addr} {l : List Fld} {S : Nat → Prop} (c : Nat) (h : Lies w a l S) (hl : l.length ≤ 1000000) (hz : Sized l) (hc : l.length ≤ c) (hcm : c ≤ maxLen) :
    Calls Tryd.prog 24 #[.slice a l.length c] w fun e w' => e = .returned (.int .i64 (trailersE l : Int)) ∧ Keeps nobody w w' := by
  have HL : Hid (Calls Tryd.prog 32 #[.slice a l.length c, .slice none 0 0] w fun e w' => e = .returned (.int .i64 (trailersE l : Int)) ∧ Keeps nobody w w') := list_ok (own := []) c 0 h (.inl rfl) hl hz (by simp) hc hcm
  generalize trailersE l = E at *
  clear h hz hl hc hcm
  go_enter Tryd.func24, Tryd.ntmps24
  go_wp2_with (go_at_call 32; refine Calls.mono HL.out ?_; rintro e w1 ⟨rfl, k1⟩)
  go_ret
  exact ⟨rfl, k1⟩

theorem strs4 (w : World) : Strs (w.alloc (.cells #[.string sMethod, .string sScheme, .string sAuthority, .string sPath] 9)) (some ⟨w.heap.size, 0, none⟩) own4 := by
  refine .inr ⟨_, _, rfl, by simp, fun j hj => ?_⟩
  match j, hj with
  | 0, _ => unfold World.cell?; rw [heap_alloc_new]; rfl
  | 1, _ => unfold World.cell?; rw [heap_alloc_new]; rfl
  | 2, _ => unfold World.cell?; rw [heap_alloc_new]; rfl
  | 3, _ => unfold World.cell?; rw [heap_alloc_new]; rfl
theorem strs1 (w : World) : Strs (w.alloc (.cells #[.string sStatus] 9)) (some ⟨w.heap.size, 0, none⟩) own1 := by
  refine .inr ⟨_, _, rfl, by simp, fun j hj => ?_⟩
  match j, hj with
  | 0, _ => unfold World.cell?; rw [heap_alloc_new]; rfl

theorem valL_empty {name : ByteArray} {l : List Fld} (h : (valL name l).size = 0) : valL name l = ⟨#[]⟩ := eq_empty_of_size _ (by omega)
theorem getV_val (name : ByteArray) (l : List Fld) : getV (getL name l) = .tuple #[.string (valL name l), .bool (getL name l).isSome] := rfl

theorem getv_ok {w : World} {a : Option Addr} {l : List Fld} {S : Nat → Prop} (c : Nat) (h : Lies w a l S) (hl : l.length ≤ 1000000) : ∀ name W, Keeps nobody w W → Calls Tryd.prog 12 #[.string name, .slice a l.length c] W fun e w' => e = .returned (.tuple #[.string (valL name l), .bool (getL name l).isSome]) ∧ Keeps nobody W w' := fun name _ hW => get_ok name c (h.quiet hW) hl
theorem lackE_at (l : List Fld) (j : Nat) (hj : j < 4) : lackE l (own4.drop j) = if (valL (own4.getD j ByteArray.empty) l).size = 0 then 3 else lackE l (own4.drop (j + 1)) := by
  match j, hj with
  | 0, _ => rfl
  | 1, _ => rfl
  | 2, _ => rfl
  | 3, _ => rfl
attribute [local irreducible] getL valL lackE nameB valueB forbB misB hasB nextE listE statB
set_option maxRecDepth 100000 in
set_option maxHeartbeats 1000000 in
theorem request_ok {w : World} {a : Option Addr} {l : List Fld} {S : Nat → Prop} (c : Nat) (h : Lies w a l S) (hl : l.length ≤ 1000000) (hz : Sized l) (hc : l.length ≤ c) (hcm : c ≤ maxLen) :
    Calls Tryd.prog 20 #[.slice a l.length c] w fun e w' => e = .returned (.int .i64 (requestE l : Int)) ∧ Keeps nobody w w' := by
  have k0 := keeps_alloc w (.cells #[.string sMethod, .string sScheme, .string sAuthority, .string sPath] 9)
  have s0 := strs4 w
  have HL : Hid (Calls Tryd.prog 32 #[.slice a l.length c, .slice (some ⟨w.heap.size, 0, none⟩) 4 4] (w.alloc (.cells #[.string sMethod, .string sScheme, .string sAuthority, .string sPath] 9)) fun e w' => e = .returned (.int .i64 (listE own4 [] l : Int)) ∧ Keeps nobody (w.alloc (.cells #[.string sMethod, .string sScheme, .string sAuthority, .string sPath] 9)) w') := list_ok (own := own4) c 4 (h.quiet k0) s0 hl hz (by simp) hc hcm
  have HG : Hid (∀ name W, Keeps nobody w W → Calls Tryd.prog 12 #[.string name, .slice a l.length c] W fun e w' => e = .returned (.tuple #[.string (valL name l), .bool (getL name l).isSome]) ∧ Keeps nobody W w') := getv_ok c h hl
  have hE : requestE l = if listE own4 [] l = 0 then lackE l own4 else listE own4 [] l := rfl
  generalize requestE l = E at *
  by_cases he : listE own4 [] l = 0
  · rw [if_pos he] at hE
    rw [he] at HL
    clear he
    have HE := hid hE
    clear hE h hz hl hc hcm
    have hlen : (own4.length = 4) := rfl
    go_enter Tryd.func20, Tryd.ntmps20
    go_wp2_with (go_at_call 32; refine Calls.mono HL.out ?_; rintro e w1 ⟨rfl, k1⟩)
    go_loopg [20] 5 (fun k i wr => ∃ j : Nat, i = .int .i64 j ∧ k + j = 5 ∧ j ≤ 4 ∧ Keeps nobody w wr ∧ Strs wr (some ⟨w.heap.size, 0, none⟩) own4 ∧ lackE l (own4.drop j) = E)
    case atStart => exact ⟨0, rfl, rfl, by omega, k0.then k1, s0.quiet k1, HE.out.symm⟩
    case round =>
      obtain ⟨j, rfl, hk, hj4, hK, hS, hg⟩ := hrel
      by_cases hj : j < 4
      · have hS' := hS
        rcases hS with e | ⟨b, off, e, hb, hcell⟩
        · cases e
        simp only [Option.some.injEq, Addr.mk.injEq] at e
        obtain ⟨rfl, rfl, _⟩ := e
        have c0 := hcell j hj
        rw [Nat.zero_add] at c0
        rw [lackE_at l j hj] at hg
        have HX : Hid (∀ W, Keeps nobody w W → Calls Tryd.prog 12 #[.string (own4.getD j ByteArray.empty), .slice a l.length c] W fun e w' => e = .returned (.tuple #[.string (valL (own4.getD j ByteArray.empty) l), .bool (getL (own4.getD j ByteArray.empty) l).isSome]) ∧ Keeps nobody W w') := HG.out _
        generalize own4.getD j ByteArray.empty = x at *
        generalize (getL x l).isSome = z at *
        by_cases h0 : 0 < (valL x l).size
        · have hE := isEmpty_of_size _ h0
          rw [if_neg (by omega)] at hg
          have H2 := hid (And.intro hk hg)
          have H3 := hid (And.intro hS' h0)
          generalize valL x l = v at *
          clear hg hk hcell HE h0 hS'
          go_wp2_with (go_at_call 12; refine Calls.mono (HX.out _ hK) ?_; rintro e w2 ⟨rfl, k2⟩)
          obtain ⟨hk, hg⟩ := H2.out
          obtain ⟨hS', _⟩ := H3.out
          go_roundg (gk - 1)
          case measure => omega
          case rel => exact ⟨j + 1, by simp, by omega, by omega, hK.then k2, hS'.quiet k2, hg⟩
        · have hv : valL x l = ⟨#[]⟩ := eq_empty_of_size _ h0
          rw [if_pos (by omega)] at hg
          subst hg
          rw [hv] at HX
          clear hk hcell HE h0 hS' hv
          go_wp2_with (go_at_call 12; refine Calls.mono (HX.out _ hK) ?_; rintro e w2 ⟨rfl, k2⟩)
          go_ret
          exact ⟨rfl, hK.then k2⟩
      · obtain rfl : j = 4 := by omega
        have HX : Hid (∀ W, Keeps nobody w W → Calls Tryd.prog 12 #[.string sPath, .slice a l.length c] W fun e w' => e = .returned (.tuple #[.string (valL sPath l), .bool (getL sPath l).isSome]) ∧ Keeps nobody W w') := HG.out _
        have hg2 : (if Lib.hasPrefix (valL sPath l).data.toList [47] = true then 0 else 3) = E := by rw [← hg]; unfold lackE; rfl
        have HP : Hid (∀ W, Calls Tryd.prog 30 #[.string (valL sPath l), .string ⟨#[47]⟩] W fun e w' => e = .returned (.bool (Lib.hasPrefix (valL sPath l).data.toList [47])) ∧ W = w') := fun W => hasPrefix_ok (valL sPath l) ⟨#[47]⟩ W
        generalize Lib.hasPrefix (valL sPath l).data.toList [47] = z at *
        generalize (getL sPath l).isSome = y at *
        generalize valL sPath l = v at *
        clear hg HE HG HL hk hj hj4
        have HS := hid hS
        clear hS
        cases z
        · obtain rfl : 3 = E := hg2
          go_wp2_with (first | (go_at_call 12; refine Calls.mono (HX.out _ hK) ?_; rintro e w2 ⟨rfl, k2⟩) | (go_at_call 30; refine Calls.mono (HP.out _) ?_; rintro e w3 ⟨rfl, rfl⟩))
          go_ret
          exact ⟨rfl, hK.then k2⟩
        · obtain rfl : 0 = E := hg2
          go_wp2_with (first | (go_at_call 12; refine Calls.mono (HX.out _ hK) ?_; rintro e w2 ⟨rfl, k2⟩) | (go_at_call 30; refine Calls.mono (HP.out _) ?_; rintro e w3 ⟨rfl, rfl⟩))
          go_ret
          exact ⟨rfl, hK.then k2⟩
  · rw [if_neg he] at hE
    subst hE
    generalize listE own4 [] l = E at *
    clear h hz hl hc hcm HG
    go_enter Tryd.func20, Tryd.ntmps20
    go_wp2_with (go_at_call 32; refine Calls.mono HL.out ?_; rintro e w1 ⟨rfl, k1⟩)
    go_ret
    exact ⟨rfl, k0.then k1⟩

theorem valL_sized {l : List Fld} (h : Sized l) (name : ByteArray) : (valL name l).size ≤ 140737488355328 := by
  unfold valL getL
  cases hf : l.find? fun f => decide (f.1 = name) with
  | none => simp [ByteArray.size]
  | some f => exact (h f (List.mem_of_find?_eq_some hf)).2
/-- Three digits in the order of texts. -/
theorem less_first (p q r : UInt8) (hq : 48 ≤ q.toNat) (hr : 48 ≤ r.toNat) : Go.Op.bytesLess [p, q, r] [49, 48, 48] = decide (p.toNat < 49) := by
  have hq' : ¬ q < 48 := by rw [UInt8.lt_iff_toNat_lt]; simp; omega
  have hr' : ¬ r < 48 := by rw [UInt8.lt_iff_toNat_lt]; simp; omega
  have hp : (p < 49) = (p.toNat < 49) := by rw [UInt8.lt_iff_toNat_lt]; rfl
  simp [Go.Op.bytesLess, hq', hr', hp]
theorem more_last (p q r : UInt8) (hq : q.toNat ≤ 57) (hr : r.toNat ≤ 57) : (!Go.Op.bytesLess [p, q, r] [53, 57, 57] && !([p, q, r] == ([53, 57, 57] : List UInt8))) = decide (53 < p.toNat) := by
  have hp : (p < 53) = (p.toNat < 53) := by rw [UInt8.lt_iff_toNat_lt]; rfl
  have hq' : (q < 57) = (q.toNat < 57) := by rw [UInt8.lt_iff_toNat_lt]; rfl
  have hr' : (r < 57) = (r.toNat < 57) := by rw [UInt8.lt_iff_toNat_lt]; rfl
  have ep : (p = 53) = (p.toNat = 53) := by rw [← UInt8.toNat_inj]; rfl
  have eq : (q = 57) = (q.toNat = 57) := by rw [← UInt8.toNat_inj]; rfl
  have er : (r = 57) = (r.toNat = 57) := by rw [← UInt8.toNat_inj]; rfl
  rw [Bool.eq_iff_iff]
  simp only [Go.Op.bytesLess, Bool.and_eq_true, Bool.not_eq_true', Bool.or_eq_false_iff, Bool.and_eq_false_iff, decide_eq_false_iff_not, beq_eq_false_iff_ne, ne_eq, List.cons.injEq, decide_eq_true_eq, hp, hq', hr', ep, eq, er, and_true]
  omega
theorem stat_three (v : ByteArray) (h3 : v.size = 3) (hd : allB okD v = true) : statB v = (!Go.Op.bytesLess v.toList [49, 48, 48] && !(!Go.Op.bytesLess v.toList [53, 57, 57] && !(v.toList == ([53, 57, 57] : List UInt8)))) := by
  rw [ByteArray.toList_eq]
  obtain ⟨⟨d⟩⟩ := v
  match d, h3 with
  | [p, q, r], _ =>
  have hd' : okD p.toNat = true ∧ okD q.toNat = true ∧ okD r.toNat = true := by simpa [allB, nums] using hd
  obtain ⟨h1, h2, h3⟩ := hd'
  have e : statB ⟨⟨[p, q, r]⟩⟩ = (decide (49 ≤ p.toNat ∧ p.toNat ≤ 53) && okD q.toNat && okD r.toNat) := by unfold statB; rfl
  rw [e, h2, h3]
  unfold okD at h2 h3
  simp only [decide_eq_true_eq] at h2 h3
  rw [less_first p q r h2.1 h3.1, more_last p q r h2.2 h3.2, Bool.eq_iff_iff]
  simp
theorem stat_three_no (v : ByteArray) (h : ¬ (v.size = 3 ∧ allB okD v = true)) : statB v = false := by
  unfold statB
  split
  · rename_i a b c hn
    rw [Bool.eq_false_iff]
    intro ht
    apply h
    simp only [Bool.and_eq_true, decide_eq_true_eq] at ht
    refine ⟨by rw [← nums_length, hn]; rfl, ?_⟩
    unfold allB
    rw [hn]
    have ha : okD a = true := by unfold okD; rw [decide_eq_true_eq]; omega
    simp [ha, ht.1.2, ht.2]
  · rfl
attribute [local irreducible] allB
set_option maxRecDepth 100000 in
set_option maxHeartbeats 1000000 in
theorem response_ok {w : World} {a : Option Addr} {l : List Fld} {S : Nat → Prop} (c : Nat) (h : Lies w a l S) (hl : l.length ≤ 1000000) (hz : Sized l) (hc : l.length ≤ c) (hcm : c ≤ maxLen) :
    Calls Tryd.prog 22 #[.slice a l.length c] w fun e w' => e = .returned (.int .i64 (responseE l : Int)) ∧ Keeps nobody w w' := by
  have k0 := keeps_alloc w (.cells #[.string sStatus] 9)
  have HL : Hid (Calls Tryd.prog 32 #[.slice a l.length c, .slice (some ⟨w.heap.size, 0, none⟩) 1 1] (w.alloc (.cells #[.string sStatus] 9)) fun e w' => e = .returned (.int .i64 (listE own1 [] l : Int)) ∧ Keeps nobody (w.alloc (.cells #[.string sStatus] 9)) w') := list_ok (own := own1) c 1 (h.quiet k0) (strs1 w) hl hz (by simp) hc hcm
  have HX : Hid (∀ W, Keeps nobody w W → Calls Tryd.prog 12 #[.string sStatus, .slice a l.length c] W fun e w' => e = .returned (.tuple #[.string (valL sStatus l), .bool (getL sStatus l).isSome]) ∧ Keeps nobody W w') := getv_ok c h hl sStatus
  have hE : responseE l = if listE own1 [] l = 0 then (if statB (valL sStatus l) = true then 0 else 3) else listE own1 [] l := rfl
  generalize responseE l = E at *
  have hsz := valL_sized hz sStatus
  by_cases he : listE own1 [] l = 0
  · rw [if_pos he] at hE
    rw [he] at HL
    clear he h hz hl hc hcm
    have HA : Hid ((valL sStatus l).size ≤ 1000000000 → ∀ W, Calls Tryd.prog 28 #[.string (valL sStatus l), .int .i64 1] W fun e w' => e = .returned (.bool (allB okD (valL sStatus l))) ∧ W = w') := fun h W => allD_ok _ W h
    generalize (getL sStatus l).isSome = y at *
    generalize valL sStatus l = v at *
    by_cases h3 : v.size = 3
    · have HA2 : Hid (∀ W, Calls Tryd.prog 28 #[.string v, .int .i64 1] W fun e w' => e = .returned (.bool (allB okD v)) ∧ W = w') := HA.out (by omega)
      clear HA
      have hlo : 3 ≤ v.size := by omega
      have hhi : v.size ≤ 3 := by omega
      by_cases hd : allB okD v = true
      · rw [hd] at HA2
        rw [stat_three v h3 hd] at hE
        have hsize : ((v.size : Int) == 3) = true := by rw [h3]; rfl
        clear hd h3
        cases b1 : Go.Op.bytesLess v.toList [49, 48, 48]
        · cases b2 : Go.Op.bytesLess v.toList [53, 57, 57]
          · cases b3 : (v.toList == ([53, 57, 57] : List UInt8))
            · obtain rfl : E = 3 := by rw [hE, b1, b2, b3]; rfl
              clear hE
              go_enter Tryd.func22, Tryd.ntmps22
              go_wp2_with (first | (go_at_call 32; refine Calls.mono HL.out ?_; rintro e w1 ⟨rfl, k1⟩) | (go_at_call 12; refine Calls.mono (HX.out _ (k0.then k1)) ?_; rintro e w2 ⟨rfl, k2⟩) | (go_at_call 28; refine Calls.mono (HA2.out _) ?_; rintro e w3 ⟨rfl, rfl⟩))
              go_ret
              exact ⟨rfl, (k0.then k1).then k2⟩
            · obtain rfl : E = 0 := by rw [hE, b1, b2, b3]; rfl
              clear hE
              go_enter Tryd.func22, Tryd.ntmps22
              go_wp2_with (first | (go_at_call 32; refine Calls.mono HL.out ?_; rintro e w1 ⟨rfl, k1⟩) | (go_at_call 12; refine Calls.mono (HX.out _ (k0.then k1)) ?_; rintro e w2 ⟨rfl, k2⟩) | (go_at_call 28; refine Calls.mono (HA2.out _) ?_; rintro e w3 ⟨rfl, rfl⟩))
              go_ret
              exact ⟨rfl, (k0.then k1).then k2⟩
          · obtain rfl : E = 0 := by rw [hE, b1, b2]; rfl
            clear hE
            go_enter Tryd.func22, Tryd.ntmps22
            go_wp2_with (first | (go_at_call 32; refine Calls.mono HL.out ?_; rintro e w1 ⟨rfl, k1⟩) | (go_at_call 12; refine Calls.mono (HX.out _ (k0.then k1)) ?_; rintro e w2 ⟨rfl, k2⟩) | (go_at_call 28; refine Calls.mono (HA2.out _) ?_; rintro e w3 ⟨rfl, rfl⟩))
            go_ret
            exact ⟨rfl, (k0.then k1).then k2⟩
        · obtain rfl : E = 3 := by rw [hE, b1]; rfl
          clear hE
          go_enter Tryd.func22, Tryd.ntmps22
          go_wp2_with (first | (go_at_call 32; refine Calls.mono HL.out ?_; rintro e w1 ⟨rfl, k1⟩) | (go_at_call 12; refine Calls.mono (HX.out _ (k0.then k1)) ?_; rintro e w2 ⟨rfl, k2⟩) | (go_at_call 28; refine Calls.mono (HA2.out _) ?_; rintro e w3 ⟨rfl, rfl⟩))
          go_ret
          exact ⟨rfl, (k0.then k1).then k2⟩
      · rw [stat_three_no v (fun h => hd h.2)] at hE
        simp only [Bool.not_eq_true] at hd
        rw [hd] at HA2
        clear hd
        have hsize : ((v.size : Int) == 3) = true := by rw [h3]; rfl
        clear h3
        obtain rfl : E = 3 := by rw [hE]; rfl
        clear hE
        go_enter Tryd.func22, Tryd.ntmps22
        go_wp2_with (first | (go_at_call 32; refine Calls.mono HL.out ?_; rintro e w1 ⟨rfl, k1⟩) | (go_at_call 12; refine Calls.mono (HX.out _ (k0.then k1)) ?_; rintro e w2 ⟨rfl, k2⟩) | (go_at_call 28; refine Calls.mono (HA2.out _) ?_; rintro e w3 ⟨rfl, rfl⟩))
        go_ret
        exact ⟨rfl, (k0.then k1).then k2⟩
    · rw [stat_three_no v (fun h => h3 h.1)] at hE
      clear HA
      obtain rfl : E = 3 := by rw [hE]; rfl
      clear hE
      go_enter Tryd.func22, Tryd.ntmps22
      go_wp2_with (first | (go_at_call 32; refine Calls.mono HL.out ?_; rintro e w1 ⟨rfl, k1⟩) | (go_at_call 12; refine Calls.mono (HX.out _ (k0.then k1)) ?_; rintro e w2 ⟨rfl, k2⟩))
      go_ret
      exact ⟨rfl, (k0.then k1).then k2⟩
  · rw [if_neg he] at hE
    subst hE
    generalize listE own1 [] l = E at *
    clear h hz hl hc hcm HX
    go_enter Tryd.func22, Tryd.ntmps22
    go_wp2_with (go_at_call 32; refine Calls.mono HL.out ?_; rintro e w1 ⟨rfl, k1⟩)
    go_ret
    exact ⟨rfl, k0.then k1⟩

/-- Length. -/
abbrev lenV (p : Int × Nat) : Value := .tuple #[.int .i64 p.1, .int .i64 (p.2 : Int)]
theorem sameB_at (v : ByteArray) (l : List Fld) (j : Nat) (hj : j < l.length) : sameB v (l.drop j) = (decide ((l[j]'hj).1 = sLength → (l[j]'hj).2 = v) && sameB v (l.drop (j + 1))) := by
  rw [List.drop_eq_getElem_cons hj]
  rfl
attribute [local irreducible] sameB lenB decL nums
set_option maxRecDepth 100000 in
set_option maxHeartbeats 1000000 in
theorem length_ok {w : World} {a : Option Addr} {l : List Fld} {S : Nat → Prop} (c : Nat) (h : Lies w a l S) (hl : l.length ≤ 1000000) (hz : Sized l) :
    Calls Tryd.prog 14 #[.slice a l.length c] w fun e w' => e = .returned (lenV (lengthE l)) ∧ Keeps nobody w w' := by
  have HX : Hid (Calls Tryd.prog 12 #[.string sLength, .slice a l.length c] w fun e w' => e = .returned (.tuple #[.string ((getL sLength l).getD ⟨#[]⟩), .bool (getL sLength l).isSome]) ∧ Keeps nobody w w') := get_ok sLength c h hl
  have hsz := valL_sized hz sLength
  unfold valL at hsz
  have hE : lengthE l = match getL sLength l with
    | none => (-1, 0)
    | some v => if (sameB v l && lenB v) = true then (((decL 0 (nums v) : Nat) : Int), 0) else ((-1 : Int), 3) := rfl
  generalize lengthE l = E at *
  generalize getL sLength l = g at *
  cases g with
  | none =>
    obtain rfl : E = (-1, 0) := hE
    clear h hz hsz
    simp only [Option.getD_none, Option.isSome_none] at HX
    go_enter Tryd.func14, Tryd.ntmps14
    go_wp2_with (go_at_call 12; refine Calls.mono HX.out ?_; rintro e w1 ⟨rfl, k1⟩)
    exact bodyPost_ret (v := lenV (-1, 0)) (by simp [results, Tryd.results14, go_sem, lenV]) rfl ⟨rfl, k1⟩
  | some v =>
    simp only [Option.getD_some, Option.isSome_some] at HX hE hsz
    have H0 : Hid (E = if (sameB v (l.drop 0) && lenB v) = true then (((decL 0 (nums v) : Nat) : Int), 0) else ((-1 : Int), 3)) := hE
    clear hE hz
    go_enter Tryd.func14, Tryd.ntmps14
    go_wp2_with (go_at_call 12; refine Calls.mono HX.out ?_; rintro e w1 ⟨rfl, k1⟩)
    go_loopg [19] l.length (fun k i wr => ∃ j : Nat, i = .int .i64 j ∧ k + j = l.length ∧ Keeps nobody w wr ∧ E = if (sameB v (l.drop j) && lenB v) = true then (((decL 0 (nums v) : Nat) : Int), 0) else ((-1 : Int), 3))
    case atStart => exact ⟨0, rfl, rfl, k1, H0.out⟩
    case round =>
      obtain ⟨j, rfl, hk, hK, hg⟩ := hrel
      by_cases hj : j < l.length
      · obtain ⟨b, off, rfl, hb, _, c0, c1⟩ := (h.quiet hK).at j hj
        rw [sameB_at v l j hj] at hg
        generalize l[j]'hj = f at *
        obtain ⟨x, y⟩ := f
        simp only at c0 c1 hg
        have kk := hK.then (keeps_alloc wr (.cells #[.string x, .string y] 39))
        by_cases hx : x = sLength
        · by_cases hy : y = v
          · rw [decide_eq_true (fun _ => hy), Bool.true_and] at hg
            have HH := hid (And.intro hk hg)
            subst hx
            have z1 : (y.toList == v.toList) = true := beq_list_of_eq hy
            clear hg hk H0 hy
            go_wp2
            obtain ⟨hk, hg⟩ := HH.out
            go_roundg (gk - 1)
            case measure => omega
            case rel => exact ⟨j + 1, by simp, by omega, kk, hg⟩
          · rw [decide_eq_false (fun h => hy (h hx)), Bool.false_and, Bool.false_and, if_neg (by simp)] at hg
            have z1 := beq_list_of_ne hy
            subst hx hg
            clear hk H0 hy
            go_wp2
            exact bodyPost_ret (v := lenV (-1, 3)) (by simp [results, Tryd.results14, go_sem, lenV]) rfl ⟨rfl, kk⟩
        · rw [decide_eq_true (fun h => (hx h).elim), Bool.true_and] at hg
          have z1 := beq_lit_of_ne hx
          have HH := hid (And.intro hk hg)
          clear hg hk H0 hx
          go_wp2
          obtain ⟨hk, hg⟩ := HH.out
          go_roundg (gk - 1)
          case measure => omega
          case rel => exact ⟨j + 1, by simp, by omega, kk, hg⟩
      · have e : sameB v (l.drop j) = true := by rw [List.drop_eq_nil_of_le (by omega)]; unfold sameB; rfl
        rw [e, Bool.true_and] at hg
        clear e H0 HX
        have HI : Hid (lenB v = (decide (1 ≤ v.size ∧ v.size ≤ 9) && allB okD v)) := by unfold lenB; exact rfl
        by_cases h0 : 0 < v.size
        · have hE := isEmpty_of_size v h0
          by_cases h9 : v.size ≤ 9
          · have HA : Hid (∀ W, Calls Tryd.prog 28 #[.string v, .int .i64 1] W fun e w' => e = .returned (.bool (allB okD v)) ∧ W = w') := fun W => allD_ok v W (by omega)
            by_cases hd : allB okD v = true
            · have hb : lenB v = true := by rw [HI.out, hd]; simp; omega
              have HT : Hid (∀ W, Calls Tryd.prog 29 #[.string v] W fun e w' => e = .returned (.tuple #[.int .i64 ((decL 0 (nums v) : Nat) : Int), .nilIface]) ∧ Keeps nobody W w') := fun W => atoi_ok v W hb
              rw [if_pos hb] at hg
              subst hg
              rw [hd] at HA
              obtain ⟨n, hn⟩ : ∃ n, decL 0 (nums v) = n := ⟨_, rfl⟩
              rw [hn] at HT
              have HN := hid hn
              clear hn
              clear hb hd HI
              go_wp2_with (first | (go_at_call 28; refine Calls.mono (HA.out _) ?_; rintro e w2 ⟨rfl, rfl⟩) | (go_at_call 29; refine Calls.mono (HT.out _) ?_; rintro e w2 ⟨rfl, k2⟩))
              exact bodyPost_ret (v := lenV ((n : Nat), 0)) (by simp [results, Tryd.results14, go_sem, lenV]) rfl ⟨by rw [HN.out], hK.then k2⟩
            · simp only [Bool.not_eq_true] at hd
              have hb : lenB v = false := by rw [HI.out, hd]; simp
              rw [if_neg (by rw [hb]; simp)] at hg
              subst hg
              rw [hd] at HA
              clear hb hd HI
              go_wp2_with (go_at_call 28; refine Calls.mono (HA.out _) ?_; rintro e w2 ⟨rfl, rfl⟩)
              exact bodyPost_ret (v := lenV (-1, 3)) (by simp [results, Tryd.results14, go_sem, lenV]) rfl ⟨rfl, hK⟩
          · have hb : lenB v = false := by rw [HI.out, decide_eq_false (by omega)]; rfl
            rw [if_neg (by rw [hb]; simp)] at hg
            subst hg
            clear hb HI
            go_wp2
            exact bodyPost_ret (v := lenV (-1, 3)) (by simp [results, Tryd.results14, go_sem, lenV]) rfl ⟨rfl, hK⟩
        · have hb : lenB v = false := by rw [HI.out, decide_eq_false (by omega)]; rfl
          rw [if_neg (by rw [hb]; simp)] at hg
          subst hg
          obtain rfl := eq_empty_of_size v h0
          clear hb HI h0
          go_wp2
          exact bodyPost_ret (v := lenV (-1, 3)) (by simp [results, Tryd.results14, go_sem, lenV]) rfl ⟨rfl, hK⟩
end Go.Proofs.YtladdbppkepphaaDoor
