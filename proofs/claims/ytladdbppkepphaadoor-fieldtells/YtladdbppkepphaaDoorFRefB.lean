/-
  The document's own answer to a list of headers (bywashref1.fields).
-/
import Derived.Test.YtladdbppkepphaaDoorFRefA
import Derived.Deep.CutRange
import Derived.Deep.OwnRows
namespace Go.Proofs.YtladdbppkepphaaDoor
open Go.RowKit

/-- A plain header is there; which of the colon names are. -/
def plainB (own : List ByteArray) (l : List Fld) : Bool := l.any fun f => !hasB own f.1
def seenC (own : List ByteArray) (l : List Fld) : List Value := own.map fun n => Value.bool (getL n l).isSome
theorem plainB_snoc (own : List ByteArray) (l : List Fld) (f : Fld) : plainB own (l ++ [f]) = (plainB own l || !hasB own f.1) := by
  unfold plainB
  rw [List.any_append]
  simp
theorem hasB_mem (own : List ByteArray) (x : ByteArray) : hasB own x = true ↔ x ∈ own := by
  unfold hasB
  simp
theorem listE_snoc (own : List ByteArray) (l : List Fld) (f : Fld) : listE own [] (l ++ [f]) = if listE own [] l = 0 then nextE own l f else listE own [] l := by
  rw [listE_append, List.nil_append]
theorem next_zero (own : List ByteArray) (l : List Fld) (f : Fld) (h : nextE own l f = 0) : (hasB own f.1 = false → nameB f.1 = true) ∧ (hasB own f.1 = true → misB f.1 l = false) := by
  unfold nextE at h
  constructor
  · intro h1
    cases hn : nameB f.1
    · rw [h1, hn] at h
      simp at h
    · rfl
  · intro h1
    cases hm : misB f.1 l
    · rfl
    · rw [h1, hm] at h
      cases hf : forbB f <;> cases hv : valueB f.2 <;> rw [hf, hv] at h <;> simp at h
theorem rev_ind {α : Type} {p : List α → Prop} (h0 : p []) (h1 : ∀ a f, p a → p (a ++ [f])) (l : List α) : p l := by
  have : ∀ l : List α, p l.reverse := by
    intro l
    induction l with
    | nil => exact h0
    | cons f l ih => rw [List.reverse_cons]; exact h1 _ _ ih
  simpa using this l.reverse
theorem mis_eq (own : List ByteArray) (hown : ∀ n ∈ own, nameB n = false) (l : List Fld) : listE own [] l = 0 → ∀ x, misB x l = (plainB own l || (getL x l).isSome) := by
  refine rev_ind (p := fun l => listE own [] l = 0 → ∀ x, misB x l = (plainB own l || (getL x l).isSome)) ?_ ?_ l
  · intro _ x
    rfl
  · intro a f ih h x
    rw [listE_snoc] at h
    have ha : listE own [] a = 0 := by
      by_cases e : listE own [] a = 0
      · exact e
      · rw [if_neg e] at h; exact h
    rw [if_pos ha] at h
    obtain ⟨h1, h2⟩ := next_zero own a f h
    have em : misB x (a ++ [f]) = (nameB f.1 || (getL x (a ++ [f])).isSome) := by
      unfold misB
      rw [List.getLast?_append]
      rfl
    rw [em, plainB_snoc]
    cases hb : hasB own f.1
    · rw [h1 hb]
      simp
    · have hn : nameB f.1 = false := hown _ ((hasB_mem own f.1).1 hb)
      have hm := h2 hb
      rw [ih ha f.1, Bool.or_eq_false_iff] at hm
      rw [hn, hm.1]
      simp
theorem seen_plain (own : List ByteArray) (l : List Fld) (f : Fld) (h : hasB own f.1 = false) : seenC own (l ++ [f]) = seenC own l := by
  unfold seenC
  apply List.map_congr_left
  intro n hn
  have hne : f.1 ≠ n := by
    intro e
    have := (hasB_mem own f.1).2 (e ▸ hn)
    rw [h] at this
    cases this
  rw [getL_other f l n hne]
theorem getL_there (f : Fld) (l : List Fld) : (getL f.1 (l ++ [f])).isSome = true := by
  rw [getL_last]
  rfl
theorem seen_set (own : List ByteArray) (hnd : own.Nodup) (l : List Fld) (f : Fld) (k : Nat) (hk : own[k]? = some f.1) : (seenC own l).set k (.bool true) = seenC own (l ++ [f]) := by
  unfold seenC
  apply List.ext_getElem?
  intro i
  rw [List.getElem?_set, List.getElem?_map, List.getElem?_map]
  have hkl : k < own.length := (List.getElem?_eq_some_iff.1 hk).1
  by_cases hi : k = i
  · subst hi
    rw [if_pos rfl, if_pos (by simpa using hkl), hk]
    simp only [Option.map_some]
    rw [getL_there]
  · rw [if_neg hi]
    cases ho : own[i]? with
    | none => rfl
    | some n =>
      have hne : f.1 ≠ n := by
        rintro rfl
        have hil : i < own.length := (List.getElem?_eq_some_iff.1 ho).1
        have := (List.getElem?_inj hkl hnd).1 (hk.trans ho.symm)
        exact hi this
      simp only [Option.map_some]
      rw [getL_other f l n hne]
theorem seen_at (own : List ByteArray) (l : List Fld) (x : ByteArray) (k : Nat) (hk : own[k]? = some x) : (seenC own l)[k]? = some (.bool (getL x l).isSome) := by
  unfold seenC
  rw [List.getElem?_map, hk]
  rfl
theorem seen_nil (own : List ByteArray) : seenC own [] = List.replicate own.length (.bool false) := by
  unfold seenC
  have : (fun n : ByteArray => Value.bool (getL n []).isSome) = fun _ => Value.bool false := by funext n; rfl
  rw [this, List.map_const']
theorem seen_len (own : List ByteArray) (l : List Fld) : (seenC own l).length = own.length := by simp [seenC]
/-- The last place of a name so far. -/
def Place (own : List ByteArray) (x : ByteArray) (i : Nat) (q : Int) : Prop := (q = -1 ∧ ∀ m, m < i → own[m]? ≠ some x) ∨ ∃ k : Nat, q = (k : Int) ∧ k < own.length ∧ own[k]? = some x
theorem Place.has {own : List ByteArray} {x : ByteArray} {q : Int} (h : Place own x own.length q) : (q = -1 ∧ hasB own x = false) ∨ ∃ k : Nat, q = (k : Int) ∧ k < own.length ∧ own[k]? = some x ∧ hasB own x = true := by
  rcases h with ⟨rfl, h⟩ | ⟨k, rfl, hk, ho⟩
  · refine .inl ⟨rfl, ?_⟩
    rw [Bool.eq_false_iff]
    intro hb
    obtain ⟨m, hm, e⟩ := List.mem_iff_getElem.1 ((hasB_mem own x).1 hb)
    exact h m hm (by rw [List.getElem?_eq_getElem hm, e])
  · exact .inr ⟨k, rfl, hk, ho, (hasB_mem own x).2 (List.mem_of_getElem? ho)⟩
theorem infoBool : (Tryd.prog.info? 4).map (fun i => (i.zero, i.size, i.bytes)) = some (some (.bool false), 1, 1) := by kernel_rfl
abbrev SeenRow (B : Nat) (w : World) (own : List ByteArray) (l : List Fld) : Prop := w.ownsRow B 4 1 (.slice (some ⟨B, 0, none⟩) own.length own.length) own.length (seenC own l)

attribute [local irreducible] getL nameB valueB forbB misB hasB nextE listE plainB seenC
set_option maxRecDepth 100000 in
set_option maxHeartbeats 4000000 in
theorem rlist_ok {w : World} {a oa : Option Addr} {l : List Fld} {own : List ByteArray} {S : Nat → Prop} (c oc : Nat) (h : Lies w a l S) (ho : Strs w oa own) (hl : l.length ≤ 1000) (hz : ∀ f ∈ l, f.1.size ≤ 100000 ∧ f.2.size ≤ 100000) (hol : own.length ≤ 100) (hown : ∀ n ∈ own, nameB n = false) (hnd : own.Nodup) :
    Calls Tryd.prog 33 #[.slice a l.length c, .slice oa own.length oc] w fun e w' => e = .returned (.int .i64 (listE own [] l : Int)) ∧ Keeps nobody w w' := by
  have HG : Hid (listE own (l.take 0) (l.drop 0) = listE own [] l) := by rw [List.take_zero, List.drop_zero]; exact rfl
  have HM : Hid (∀ m, listE own [] m = 0 → ∀ x, misB x m = (plainB own m || (getL x m).isSome)) := mis_eq own hown
  have HND := hid hnd
  generalize listE own [] l = g at *
  have hmk := run_make_row' (P := Tryd.prog) 56 4 (.bool false) 1 Tryd.underlying56 infoBool rfl .i64 .i64 own.length (by omega) (by omega)
  have hrow0 := World.ownsRow_lit (base := w.heap.size) (e := 4) (size := 1) w (madeCells #[.bool false] own.length) own.length (Nat.le_refl _) (by unfold maxLen; omega) (by rw [size_madeCells]; omega)
  rw [toList_madeCells_one, ← seen_nil] at hrow0
  have kM := keeps_alloc w (.cells (madeCells #[.bool false] own.length) 4)
  clear hown hnd
  go_enter Tryd.func33, Tryd.ntmps33
  go_wp2
  clear hmk
  go_loopg [5, 7] l.length (fun k p i wr => ∃ j : Nat, p = .bool (plainB own (l.take j)) ∧ i = .int .i64 j ∧ k + j = l.length ∧ Keeps nobody w wr ∧ Hid (SeenRow w.heap.size wr own (l.take j) ∧ listE own [] (l.take j) = 0 ∧ listE own (l.take j) (l.drop j) = g))
  case atStart =>
    refine ⟨0, by rw [List.take_zero]; unfold plainB; rfl, rfl, rfl, kM, ⟨by rw [List.take_zero]; exact hrow0, by rw [List.take_zero]; unfold listE; rfl, HG.out⟩⟩
  case round =>
    obtain ⟨j, rfl, rfl, hk, hK, HR⟩ := hrel
    clear hrow0 kM HG
    by_cases hj : j < l.length
    · obtain ⟨b, off, rfl, hb, _, c0, c1⟩ := (h.quiet hK).at j hj
      have hsz := hz _ (List.getElem_mem hj)
      have HS : Hid (l.take (j + 1) = l.take j ++ [l[j]'hj] ∧ listE own (l.take j) (l.drop j) = (if nextE own (l.take j) (l[j]'hj) = 0 then listE own (l.take (j + 1)) (l.drop (j + 1)) else nextE own (l.take j) (l[j]'hj))) := ⟨List.take_succ_eq_append_getElem hj, listE_at own l j hj⟩
      generalize l[j]'hj = f at *
      obtain ⟨x, y⟩ := f
      simp only at c0 c1 hsz
      generalize hm : l.take j = m at *
      have HK := hid (And.intro hk hm)
      clear hk hm
      have k0 := keeps_alloc wr (.cells #[.string x, .string y] 39)
      have fx := fx_new wr x y
      obtain ⟨wo, hwo⟩ : ∃ wo : World, wo = wr := ⟨_, rfl⟩
      subst hwo
      obtain ⟨go, hgo⟩ : ∃ go : Nat, go = gk := ⟨_, rfl⟩
      subst hgo
      obtain ⟨w1, hw1⟩ : ∃ w1 : World, w1 = wo.alloc (.cells #[.string x, .string y] 39) := ⟨_, rfl⟩
      go_wp2_with fail
      rw [← hw1] at k0 fx ⊢
      clear hw1
      have HN : Hid (∀ W, Calls Tryd.prog 17 #[.string x] W fun e w' => e = .returned (.bool (nameB x)) ∧ W = w') := fun W => rname_ok x W (by omega)
      have HV : Hid (∀ W, Calls Tryd.prog 19 #[.string y] W fun e w' => e = .returned (.bool (valueB y)) ∧ W = w') := fun W => rvalue_ok y W (by omega)
      go_loopg [9, 10] own.length (fun k q i wr => ∃ (n : Nat) (p : Int), q = .int .i64 p ∧ i = .int .i64 n ∧ k + n = own.length ∧ Hid (Place own x n p ∧ Keeps nobody w1 wr))
      case atStart => exact ⟨0, -1, rfl, rfl, by omega, ⟨.inl ⟨rfl, fun _ h => by omega⟩, Keeps.refl _ _⟩⟩
      case round =>
        obtain ⟨n, p, rfl, rfl, hkn, HPl⟩ := hrel
        obtain ⟨hPl, hKi⟩ := HPl.out
        obtain ⟨d0, d1, _⟩ := (fx.quiet hKi).cells
        by_cases hn : n < own.length
        · have hoq := (ho.quiet (hK.then (k0.then hKi)))
          rcases hoq with e | ⟨ob, ooff, rfl, hob, hoc⟩
          · rw [e] at hn; simp at hn
          have co := hoc n hn
          have hgn : own.getD n ByteArray.empty = own[n]'hn := by simp [List.getD, List.getElem?_eq_getElem hn]
          rw [hgn] at co
          have hsome : own[n]? = some (own[n]'hn) := List.getElem?_eq_getElem hn
          generalize own[n]'hn = o at *
          clear hoc hgn HN HV
          by_cases hx : o = x
          · have H2 : Hid (Place own x (n + 1) (n : Int) ∧ gk + n = own.length) := ⟨.inr ⟨n, rfl, hn, hx ▸ hsome⟩, hkn⟩
            have z1 : (o.toList == x.toList) = true := beq_list_of_eq hx
            clear hx hsome hkn hPl HPl
            go_wp2
            go_region
            go_wp2
            obtain ⟨hp2, hkn⟩ := H2.out
            go_roundg (gk - 1)
            case measure => omega
            case rel => exact ⟨n + 1, (n : Int), rfl, by simp, by omega, ⟨hp2, hKi.drew⟩⟩
          · have H2 : Hid (Place own x (n + 1) p ∧ gk + n = own.length) := by
              refine ⟨?_, hkn⟩
              rcases hPl with ⟨e, hm⟩ | hm
              · refine .inl ⟨e, fun m hmm => ?_⟩
                rcases Nat.lt_succ_iff_lt_or_eq.1 hmm with hlt | rfl
                · exact hm m hlt
                · rw [hsome]
                  intro e2
                  exact hx (Option.some.inj e2)
              · exact .inr hm
            have z1 := beq_list_of_ne hx
            clear hx hsome hkn hPl HPl
            go_wp2
            go_region
            go_wp2
            obtain ⟨hp2, hkn⟩ := H2.out
            go_roundg (gk - 1)
            case measure => omega
            case rel => exact ⟨n + 1, p, rfl, by simp, by omega, ⟨hp2, hKi.drew⟩⟩
        · obtain rfl : n = own.length := by omega
          have hKw := hK.then (k0.then hKi)
          have HSR : Hid (SeenRow w.heap.size wr own m) := (k0.then hKi).row HR.out.1 (fun _ _ => id)
          have gOf : Hid (∀ c : Nat, nextE own m (x, y) = c → c ≠ 0 → g = c) := by
            intro c hc h0
            rw [← HR.out.2.2, HS.out.2, hc, if_neg h0]
          have gGo : Hid (nextE own m (x, y) = 0 → listE own [] (l.take (j + 1)) = 0 ∧ listE own (l.take (j + 1)) (l.drop (j + 1)) = g) := by
            intro hc
            refine ⟨by rw [HS.out.1, listE_snoc, HR.out.2.1, if_pos rfl, hc], ?_⟩
            rw [← HR.out.2.2, HS.out.2, hc, if_pos rfl]
          rcases hPl.has with ⟨rfl, hhas⟩ | ⟨k, rfl, hkk, hok, hhas⟩
          · obtain ⟨Z, hZ⟩ : ∃ Z, Z = (!nameB x || forbB (x, y)) := ⟨_, rfl⟩
            have nextT : Hid (Z = true → nextE own m (x, y) = 6) := fun h => by
              unfold nextE
              rw [hhas]
              exact if_pos (by rw [← h, hZ]; rfl)
            have nextZ : Hid (Z = false → nextE own m (x, y) = if valueB y = false then 3 else 0) := fun h => by
              unfold nextE
              rw [hhas]
              rw [hZ] at h
              simp only [Bool.not_false, Bool.true_and, h, Bool.false_and]
              rfl
            have HZ := hid hZ
            clear hZ HPl hPl hkn hn
            go_upto_region 13 with fail
            go_cut [75] from 14 to 91 (fun v wx => v = .bool Z ∧ wx = wr)
            case first =>
              clear HV nextT nextZ gOf gGo HSR HR HS HM
              cases hnm : nameB x
              · have hZ : Z = true := by rw [HZ.out, hnm]; rfl
                rw [hnm] at HN
                clear HZ
                go_wp2_with fail
                refine Calls.mono (HN.out _) ?_
                rintro e w5 ⟨rfl, rfl⟩
                go_wp2_with fail
                go_meet
                exact ⟨by rw [hZ], rfl⟩
              · rw [hnm] at HN HZ
                rw [Bool.not_true, Bool.false_or] at HZ
                by_cases h0 : x = sConn
                · subst h0
                  have hZ : Z = true := by rw [HZ.out]; unfold forbB; rw [decide_eq_true (.inl rfl)]
                  as_aux_lemma =>
                    go_wp2_with fail
                    refine Calls.mono (HN.out _) ?_
                    rintro e w5 ⟨rfl, rfl⟩
                    go_wp2_with fail
                    go_meet
                    exact ⟨by rw [hZ], rfl⟩
                · have z0 := beq_lit_of_ne h0
                  by_cases h1 : x = sTransfer
                  · subst h1
                    have hZ : Z = true := by rw [HZ.out]; unfold forbB; rw [decide_eq_true (.inr (.inl rfl))]
                    as_aux_lemma =>
                      go_wp2_with fail
                      refine Calls.mono (HN.out _) ?_
                      rintro e w5 ⟨rfl, rfl⟩
                      go_wp2_with fail
                      go_meet
                      exact ⟨by rw [hZ], rfl⟩
                  · have z1 := beq_lit_of_ne h1
                    by_cases h2 : x = sUpgrade
                    · subst h2
                      have hZ : Z = true := by rw [HZ.out]; unfold forbB; rw [decide_eq_true (.inr (.inr (.inl rfl)))]
                      as_aux_lemma =>
                        go_wp2_with fail
                        refine Calls.mono (HN.out _) ?_
                        rintro e w5 ⟨rfl, rfl⟩
                        go_wp2_with fail
                        go_meet
                        exact ⟨by rw [hZ], rfl⟩
                    · have z2 := beq_lit_of_ne h2
                      by_cases h3 : x = sKeep
                      · subst h3
                        have hZ : Z = true := by rw [HZ.out]; unfold forbB; rw [decide_eq_true (.inr (.inr (.inr (.inl rfl))))]
                        as_aux_lemma =>
                          go_wp2_with fail
                          refine Calls.mono (HN.out _) ?_
                          rintro e w5 ⟨rfl, rfl⟩
                          go_wp2_with fail
                          go_meet
                          exact ⟨by rw [hZ], rfl⟩
                      · have z3 := beq_lit_of_ne h3
                        by_cases h4 : x = sTe
                        · by_cases h5 : y = sTrailers
                          · have hZ : Z = false := by rw [HZ.out]; unfold forbB; rw [decide_eq_false (by rintro (h | h | h | h | ⟨h, hh⟩) <;> first | exact h0 h | exact h1 h | exact h2 h | exact h3 h | exact absurd h5 hh)]
                            subst h4 h5
                            clear h0 h1 h2 h3 z0 z1 z2 z3
                            as_aux_lemma =>
                              go_wp2_with fail
                              refine Calls.mono (HN.out _) ?_
                              rintro e w5 ⟨rfl, rfl⟩
                              go_wp2_with fail
                              go_meet
                              exact ⟨by rw [hZ], rfl⟩
                          · have z5 := beq_lit_of_ne h5
                            have hZ : Z = true := by rw [HZ.out]; unfold forbB; rw [decide_eq_true (.inr (.inr (.inr (.inr ⟨h4, h5⟩))))]
                            subst h4
                            clear h0 h1 h2 h3 z0 z1 z2 z3
                            as_aux_lemma =>
                              go_wp2_with fail
                              refine Calls.mono (HN.out _) ?_
                              rintro e w5 ⟨rfl, rfl⟩
                              go_wp2_with fail
                              go_meet
                              exact ⟨by rw [hZ], rfl⟩
                        · have z4 := beq_lit_of_ne h4
                          have hZ : Z = false := by rw [HZ.out]; unfold forbB; rw [decide_eq_false (by rintro (h | h | h | h | ⟨h, hh⟩) <;> first | exact h0 h | exact h1 h | exact h2 h | exact h3 h | exact h4 h)]
                          clear h0 h1 h2 h3 h4
                          as_aux_lemma =>
                            go_wp2_with fail
                            refine Calls.mono (HN.out _) ?_
                            rintro e w5 ⟨rfl, rfl⟩
                            go_wp2_with fail
                            go_meet
                            exact ⟨by rw [hZ], rfl⟩
            case rest =>
              obtain ⟨rfl, rfl⟩ := hcut
              cases Z
              · have hn1 := nextZ.out rfl
                cases hv : valueB y
                · rw [hv] at HV
                  have hg := gOf.out 3 (by rw [hn1, hv]; rfl) (by decide)
                  go_wp2_with fail
                  refine Calls.mono (HV.out _) ?_
                  rintro e w5 ⟨rfl, rfl⟩
                  go_wp2
                  go_ret
                  exact ⟨by first | rfl | (rw [hg]; rfl), hKw⟩
                · rw [hv] at HV
                  have hg := gGo.out (by rw [hn1, hv]; rfl)
                  have hpl : plainB own (l.take (j + 1)) = true := by rw [HS.out.1, plainB_snoc, hhas, Bool.not_false, Bool.or_true]
                  have hse : seenC own (l.take (j + 1)) = seenC own m := by rw [HS.out.1, seen_plain own m (x, y) hhas]
                  go_wp2_with fail
                  refine Calls.mono (HV.out _) ?_
                  rintro e w5 ⟨rfl, rfl⟩
                  go_wp2
                  obtain ⟨hk, _⟩ := HK.out
                  go_roundg (go - 1)
                  case measure => omega
                  case rel => exact ⟨j + 1, by rw [hpl], by simp, by omega, hKw, ⟨by show World.ownsRow _ _ _ _ _ _ (seenC own (l.take (j + 1))); rw [hse]; exact HSR.out, hg⟩⟩
              · have hg := gOf.out 6 (nextT.out rfl) (by decide)
                go_wp2
                go_ret
                exact ⟨by first | rfl | (rw [hg]; rfl), hKw⟩
          · obtain ⟨Z, hZ⟩ : ∃ Z, Z = forbB (x, y) := ⟨_, rfl⟩
            have nextT : Hid (Z = true → nextE own m (x, y) = 6) := fun h => by
              unfold nextE
              rw [hhas]
              exact if_pos (by rw [← hZ, h]; simp)
            have nextZ : Hid (Z = false → nextE own m (x, y) = if valueB y = false then 3 else if misB x m = true then 7 else 0) := fun h => by
              unfold nextE
              rw [hhas]
              rw [hZ] at h
              simp only [Bool.not_true, Bool.false_and, Bool.true_and, h, Bool.or_false]
              rfl
            have HZ : Hid (Z = (false || forbB (x, y))) := by rw [Bool.false_or]; exact hZ
            clear hZ HPl hPl hkn hn HN
            go_upto_region 13 with fail
            go_cut [75] from 14 to 91 (fun v wx => v = .bool Z ∧ wx = wr)
            case first =>
              clear HV nextT nextZ gOf gGo HSR HR HS HM
              by_cases h0 : x = sConn
              · subst h0
                have hZ : Z = true := by rw [HZ.out]; unfold forbB; rw [decide_eq_true (.inl rfl), Bool.or_true]
                as_aux_lemma =>
                  go_wp2_with fail
                  go_meet
                  exact ⟨by rw [hZ], rfl⟩
              · have z0 := beq_lit_of_ne h0
                by_cases h1 : x = sTransfer
                · subst h1
                  have hZ : Z = true := by rw [HZ.out]; unfold forbB; rw [decide_eq_true (.inr (.inl rfl)), Bool.or_true]
                  as_aux_lemma =>
                    go_wp2_with fail
                    go_meet
                    exact ⟨by rw [hZ], rfl⟩
                · have z1 := beq_lit_of_ne h1
                  by_cases h2 : x = sUpgrade
                  · subst h2
                    have hZ : Z = true := by rw [HZ.out]; unfold forbB; rw [decide_eq_true (.inr (.inr (.inl rfl))), Bool.or_true]
                    as_aux_lemma =>
                      go_wp2_with fail
                      go_meet
                      exact ⟨by rw [hZ], rfl⟩
                  · have z2 := beq_lit_of_ne h2
                    by_cases h3 : x = sKeep
                    · subst h3
                      have hZ : Z = true := by rw [HZ.out]; unfold forbB; rw [decide_eq_true (.inr (.inr (.inr (.inl rfl)))), Bool.or_true]
                      as_aux_lemma =>
                        go_wp2_with fail
                        go_meet
                        exact ⟨by rw [hZ], rfl⟩
                    · have z3 := beq_lit_of_ne h3
                      by_cases h4 : x = sTe
                      · by_cases h5 : y = sTrailers
                        · have hZ : Z = false := by rw [HZ.out]; unfold forbB; rw [decide_eq_false (by rintro (h | h | h | h | ⟨h, hh⟩) <;> first | exact h0 h | exact h1 h | exact h2 h | exact h3 h | exact absurd h5 hh), Bool.or_false]
                          subst h4 h5
                          clear h0 h1 h2 h3 z0 z1 z2 z3
                          as_aux_lemma =>
                            go_wp2_with fail
                            go_meet
                            exact ⟨by rw [hZ], rfl⟩
                        · have z5 := beq_lit_of_ne h5
                          have hZ : Z = true := by rw [HZ.out]; unfold forbB; rw [decide_eq_true (.inr (.inr (.inr (.inr ⟨h4, h5⟩)))), Bool.or_true]
                          subst h4
                          clear h0 h1 h2 h3 z0 z1 z2 z3
                          as_aux_lemma =>
                            go_wp2_with fail
                            go_meet
                            exact ⟨by rw [hZ], rfl⟩
                      · have z4 := beq_lit_of_ne h4
                        have hZ : Z = false := by rw [HZ.out]; unfold forbB; rw [decide_eq_false (by rintro (h | h | h | h | ⟨h, hh⟩) <;> first | exact h0 h | exact h1 h | exact h2 h | exact h3 h | exact h4 h), Bool.or_false]
                        clear h0 h1 h2 h3 h4
                        as_aux_lemma =>
                          go_wp2_with fail
                          go_meet
                          exact ⟨by rw [hZ], rfl⟩
            case rest =>
              obtain ⟨rfl, rfl⟩ := hcut
              cases Z
              · have hn1 := nextZ.out rfl
                cases hv : valueB y
                · rw [hv] at HV
                  have hg := gOf.out 3 (by rw [hn1, hv]; rfl) (by decide)
                  go_wp2_with fail
                  refine Calls.mono (HV.out _) ?_
                  rintro e w5 ⟨rfl, rfl⟩
                  go_wp2
                  go_ret
                  exact ⟨by first | rfl | (rw [hg]; rfl), hKw⟩
                · rw [hv] at HV
                  have hn2 : nextE own m (x, y) = if misB x m = true then 7 else 0 := by rw [hn1, hv]; rfl
                  have hmis := HM.out m HR.out.2.1 x
                  rw [hmis] at hn2
                  generalize hP : plainB own m = P at *
                  cases P
                  · have hca := HSR.out.cellAt k (by omega)
                    rw [seen_at own m x k hok] at hca
                    have hfr := HSR.out.frozenAt k
                    cases hs : (getL x m).isSome
                    · rw [hs] at hca hn2
                      have hg := gGo.out (by rw [hn2]; rfl)
                      have st := HSR.out.stored k (.bool true)
                      rw [seen_set own HND.out m (x, y) k hok, ← HS.out.1] at st
                      have hpl : plainB own (l.take (j + 1)) = false := by rw [HS.out.1, plainB_snoc, hP, hhas]; rfl
                      have ST := hid (And.intro st.1 (hKw.setCell (p := ⟨w.heap.size, k, none⟩) (.inr (Nat.le_refl _)) (.bool true)))
                      clear st hs hn2 hn1
                      go_wp2_with fail
                      refine Calls.mono (HV.out _) ?_
                      rintro e w5 ⟨rfl, rfl⟩
                      go_wp2
                      obtain ⟨hk, _⟩ := HK.out
                      go_roundg (go - 1)
                      case measure => omega
                      case rel => exact ⟨j + 1, by rw [hpl], by simp, by omega, ST.out.2, ⟨ST.out.1, hg⟩⟩
                    · rw [hs] at hca hn2
                      have hg := gOf.out 7 (by rw [hn2]; rfl) (by decide)
                      clear hs hn2 hn1
                      go_wp2_with fail
                      refine Calls.mono (HV.out _) ?_
                      rintro e w5 ⟨rfl, rfl⟩
                      go_wp2
                      go_ret
                      exact ⟨by first | rfl | (rw [hg]; rfl), hKw⟩
                  · have hg := gOf.out 7 (by rw [hn2]; rfl) (by decide)
                    clear hn2 hn1
                    go_wp2_with fail
                    refine Calls.mono (HV.out _) ?_
                    rintro e w5 ⟨rfl, rfl⟩
                    go_wp2
                    go_ret
                    exact ⟨by first | rfl | (rw [hg]; rfl), hKw⟩
              · have hg := gOf.out 6 (nextT.out rfl) (by decide)
                go_wp2
                go_ret
                exact ⟨by first | rfl | (rw [hg]; rfl), hKw⟩
    · have HR2 := HR.out.2.2
      rw [listE_end own l j hj] at HR2
      subst HR2
      clear HR HM
      go_wp2
      go_ret
      exact ⟨rfl, hK⟩
end Go.Proofs.YtladdbppkepphaaDoor
