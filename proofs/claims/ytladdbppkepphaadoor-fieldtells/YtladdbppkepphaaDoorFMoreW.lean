/-
  FieldMore: the walk.
-/
import Derived.Test.YtladdbppkepphaaDoorFGetsW
namespace Go.Proofs.YtladdbppkepphaaDoor
open Go.RowKit

theorem listE_append (own : List ByteArray) (f : Fld) (l : List Fld) : ∀ a, listE own a (l ++ [f]) = if listE own a l = 0 then nextE own (a ++ l) f else listE own a l := by
  induction l with
  | nil =>
    intro a
    simp only [List.nil_append, listE, List.append_nil, if_true]
    split
    · rename_i h; exact h.symm
    · rfl
  | cons g l ih =>
    intro a
    simp only [List.cons_append, listE]
    split
    · rw [ih, List.append_assoc, List.singleton_append]
    · rename_i h
      first | rfl | rw [if_neg h]
theorem next_none (l : List Fld) (f : Fld) : nextE [] l f = nextE [] [] f := by
  unfold nextE
  have : hasB [] f.1 = false := rfl
  rw [this]
  simp
theorem trl_f (f : Fld) : trailersE [f] = nextE [] [] f := by
  unfold trailersE
  simp only [listE]
  split
  · rename_i h; exact h.symm
  · rfl
theorem trl_append (l : List Fld) (f : Fld) : trailersE (l ++ [f]) = if trailersE l = 0 then trailersE [f] else trailersE l := by
  rw [trl_f]
  unfold trailersE
  rw [listE_append, List.nil_append, next_none]
theorem names_none : nameB sMethod = false ∧ nameB sScheme = false ∧ nameB sAuthority = false ∧ nameB sPath = false ∧ nameB sStatus = false := by decide +kernel
/-- A header that may be among trailers: its name is no colon one. -/
theorem plain_f (f : Fld) (h : trailersE [f] = 0) : nameB f.1 = true ∧ forbB f = false ∧ valueB f.2 = true := by
  rw [trl_f] at h
  unfold nextE at h
  have e : hasB [] f.1 = false := rfl
  rw [e] at h
  cases h1 : nameB f.1 <;> cases h2 : forbB f <;> cases h3 : valueB f.2 <;> rw [h1, h2, h3] at h <;> simp at h <;> simp
theorem name_not (f : Fld) (h : nameB f.1 = true) (n : ByteArray) (hn : nameB n = false) : f.1 ≠ n := by
  rintro rfl
  rw [h] at hn
  cases hn
theorem getL_other (f : Fld) (l : List Fld) (n : ByteArray) (h : f.1 ≠ n) : getL n (l ++ [f]) = getL n l := by
  unfold getL
  rw [List.find?_append]
  have : [f].find? (fun g => decide (g.1 = n)) = none := by simp [h]
  rw [this]
  simp
theorem next_plain (own : List ByteArray) (l : List Fld) (f : Fld) (h : trailersE [f] = 0) (ho : hasB own f.1 = false) : nextE own l f = 0 := by
  obtain ⟨h1, h2, h3⟩ := plain_f f h
  unfold nextE
  rw [ho, h1, h2, h3]
  simp
theorem req_append (l : List Fld) (f : Fld) (h : trailersE [f] = 0) : requestE (l ++ [f]) = requestE l ∧ responseE (l ++ [f]) = responseE l := by
  have h1 := (plain_f f h).1
  obtain ⟨n0, n1, n2, n3, n4⟩ := names_none
  have a0 := name_not f h1 _ n0
  have a1 := name_not f h1 _ n1
  have a2 := name_not f h1 _ n2
  have a3 := name_not f h1 _ n3
  have a4 := name_not f h1 _ n4
  have o4 : hasB own4 f.1 = false := by
    unfold hasB
    simp [a0.symm, a1.symm, a2.symm, a3.symm]
  have o1 : hasB own1 f.1 = false := by
    unfold hasB
    simp [a4.symm]
  have v0 : valL sMethod (l ++ [f]) = valL sMethod l := by unfold valL; rw [getL_other f l _ a0]
  have v1 : valL sScheme (l ++ [f]) = valL sScheme l := by unfold valL; rw [getL_other f l _ a1]
  have v2 : valL sAuthority (l ++ [f]) = valL sAuthority l := by unfold valL; rw [getL_other f l _ a2]
  have v3 : valL sPath (l ++ [f]) = valL sPath l := by unfold valL; rw [getL_other f l _ a3]
  have v4 : valL sStatus (l ++ [f]) = valL sStatus l := by unfold valL; rw [getL_other f l _ a4]
  have l4 : listE own4 [] (l ++ [f]) = listE own4 [] l := by
    rw [listE_append]
    split
    · rename_i e; rw [next_plain own4 _ f h o4, e]
    · rfl
  have l1 : listE own1 [] (l ++ [f]) = listE own1 [] l := by
    rw [listE_append]
    split
    · rename_i e; rw [next_plain own1 _ f h o1, e]
    · rfl
  have hlack : lackE (l ++ [f]) own4 = lackE l own4 := by
    simp only [lackE]
    rw [v0, v1, v2, v3]
  unfold requestE responseE
  rw [l4, l1, hlack, v4]
  exact ⟨rfl, rfl⟩

/-- A list that was made, and lies there. -/
def MoreR (w : World) (l : List Fld) (x : Value) (wx : World) : Prop := ∃ p c', x = .slice p l.length c' ∧ Owns w.heap.size wx (.slice p l.length c') l ∧ Keeps nobody w wx
theorem Keeps.undraw {S : Nat → Prop} {a b : World} (h : Keeps S a.drew b) : Keeps S a b := ⟨h.os, h.tape, h.output, h.size, h.block⟩
theorem Lies.drew {w : World} {a : Option Addr} {l : List Fld} {S : Nat → Prop} (h : Lies w a l S) : Lies w.drew a l S := h.quiet (Keeps.refl _ _).drew

attribute [local irreducible] getL bytesL trailersE requestE responseE
set_option maxRecDepth 100000 in
set_option maxHeartbeats 2000000 in
theorem more_main (a : Option Addr) (c : Nat) (l : List Fld) (x y : ByteArray) (W : World) (h : Lies W a l nobody) (hz : Sized l) (h40 : l.length ≤ 40) (hc : l.length ≤ c) (hcm : c ≤ maxLen) (hs : x.size + y.size ≤ 400)
    (HF : Hid (Calls Tryd.prog 9 #[.slice a l.length c] (W.alloc (.cells #[.string x, .string y] 39)) fun e w' => e = .returned (.bool true) ∧ Keeps nobody (W.alloc (.cells #[.string x, .string y] 39)) w')) :
    Calls Tryd.prog 4 #[.slice a l.length c, fval (x, y)] W fun e w' => e = .returned (.bool true) ∧ Below W.heap.size W w' := by
  have HA : Hid (∀ W, Calls Tryd.prog 10 #[] W fun e w' => e = .returned (.bool true) ∧ Keeps nobody W w') := alive_ok
  have HQ : Hid (∀ (w : World) (p : Option Addr) (m : List Fld) (n c : Nat) (E : Nat), requestE m = E → Lies w p m nobody → m.length ≤ 1000 → Sized m → m.length ≤ c → c ≤ maxLen → n = m.length → Calls Tryd.prog 20 #[.slice p n c] w fun e w' => e = .returned (.int .i64 (E : Int)) ∧ Keeps nobody w w') := by
    rintro w p m n c E rfl h hm hz hc hcm rfl
    exact request_ok c h (by omega) hz hc hcm
  have HP : Hid (∀ (w : World) (p : Option Addr) (m : List Fld) (n c : Nat) (E : Nat), responseE m = E → Lies w p m nobody → m.length ≤ 1000 → Sized m → m.length ≤ c → c ≤ maxLen → n = m.length → Calls Tryd.prog 22 #[.slice p n c] w fun e w' => e = .returned (.int .i64 (E : Int)) ∧ Keeps nobody w w') := by
    rintro w p m n c E rfl h hm hz hc hcm rfl
    exact response_ok c h (by omega) hz hc hcm
  have HT : Hid (∀ (w : World) (p : Option Addr) (m : List Fld) (n c : Nat) (E : Nat), trailersE m = E → Lies w p m nobody → m.length ≤ 1000 → Sized m → m.length ≤ c → c ≤ maxLen → n = m.length → Calls Tryd.prog 24 #[.slice p n c] w fun e w' => e = .returned (.int .i64 (E : Int)) ∧ Keeps nobody w w') := by
    rintro w p m n c E rfl h hm hz hc hcm rfl
    exact trailers_ok c h (by omega) hz hc hcm
  have hz1 : Sized [(x, y)] := by intro f hf; simp at hf; subst hf; exact ⟨by simp only; omega, by simp only; omega⟩
  have hz2 : Sized (l ++ [(x, y)]) := by
    intro f hf
    rcases List.mem_append.1 hf with hf | hf
    · exact hz f hf
    · exact hz1 f hf
  have k0 := keeps_alloc W (.cells #[.string x, .string y] 39)
  have fx := fx_new W x y
  have H := hid (h.quiet k0)
  clear h
  have HZ := hid (And.intro hz (And.intro hz1 hz2))
  clear hz hz1 hz2
  go_enter Tryd.func4, Tryd.ntmps4
  go_wp2_with fail
  refine Calls.mono HF.out ?_
  rintro e w1 ⟨rfl, k1⟩
  obtain ⟨d0, d1, _⟩ := (fx.quiet k1).cells
  go_wp2_with fail
  refine Calls.mono (HA.out _) ?_
  rintro e w2 ⟨rfl, k2⟩
  have kW2 := k1.then k2
  obtain ⟨e0, e1, _⟩ := (fx.quiet kW2).cells
  go_wp2_with fail
  go_cut [5] (fun v wx => MoreR w2 (l ++ [(x, y)]) v wx)
  case first =>
    obtain ⟨p2, c2, w6, r2, R2⟩ := copied_ok (H.out.quiet kW2).drew c (by omega) 22
    obtain ⟨p3, c3, w7, r3, R3⟩ := behind_ok R2.out.1 x y (by omega) R2.out.2.size 22
    obtain ⟨f0, f1, _⟩ := ((fx.quiet kW2).quiet R2.out.2.undraw).cells
    have RR2 := hid r2
    have RR3 := hid r3
    clear r2 r3
    have wd : (w2.drew).heap.size = w2.heap.size := rfl
    obtain ⟨p4, c4, w8, r4, R4⟩ := copied_ok ((H.out.quiet kW2).drew.quiet (keeps_alloc w2.drew (.cells #[.string x, .string y] 39))) c (by omega) 22
    have lf := (lies_alloc w2.drew [(x, y)] #[.string x, .string y] 39 rfl).quiet R4.out.2
    obtain ⟨p5, c5, w9, r5, R5⟩ := app_lies R4.out.1 lf 1 (by simp; omega) R4.out.2.size 22
    have RR4 := hid r4
    have RR5 := hid r5
    clear r4 r5
    go_region_law (first | (refine step_append_run rfl (.const (.slice none 0 0)) (.tmp 31) 22 22 rfl (.slice none 0 0) (.slice a l.length c) (by rfl) (by rfl) (by first | exact RR2.out | exact RR4.out) ?_) | (refine step_append_run rfl (.tmp 32) (.tmp 34) 22 22 rfl (.slice p2 l.length c2) (.slice (some ⟨w6.heap.size, 0, none⟩) 1 1) (by rfl) (by rfl) RR3.out ?_) | (refine step_append_run rfl (.tmp 32) (.tmp 34) 22 22 rfl (.slice p4 l.length c4) (.slice (some ⟨w2.heap.size, 0, none⟩) 1 1) (by rfl) (by rfl) RR5.out ?_))
    all_goals
      go_wp2_with fail
      go_meet
      first | exact ⟨p3, c3, by simp, R3.out.1, (R2.out.1.fresh R2.out.2 (Nat.le_refl _) R3.out.2).undraw⟩ | exact ⟨p5, c5, by simp, ⟨R5.out.1.1, R5.out.1.2.imp id fun ⟨g, cap, cur, e, hb, r⟩ => ⟨g, cap, cur, e, Nat.le_trans (by simp) hb, r⟩⟩, (R4.out.1.fresh ((keeps_alloc _ _).then R4.out.2) (by simp) R5.out.2).undraw⟩
  case rest =>
    obtain ⟨p, c', rfl, RO, kM⟩ := hcut
    obtain ⟨hz, hz1, hz2⟩ := HZ.out
    have kWc := kW2.then kM
    obtain ⟨f0, f1, _⟩ := (fx.quiet kWc).cells
    have kC := keeps_alloc wc (.cells #[.string x, .string y] 39)
    have hcap := RO.cap
    have LM := RO.lies
    have lf := lies_alloc wc [(x, y)] #[.string x, .string y] 39 rfl
    have hlen : (l ++ [(x, y)]).length = l.length + 1 := by simp
    have h41 : l.length + 1 ≤ 1000 := by omega
    obtain ⟨eo, heo⟩ : ∃ e, trailersE [(x, y)] = e := ⟨_, rfl⟩
    obtain ⟨ea, hea⟩ : ∃ e, requestE l = e := ⟨_, rfl⟩
    obtain ⟨eb, heb⟩ : ∃ e, responseE l = e := ⟨_, rfl⟩
    obtain ⟨ec, hec⟩ : ∃ e, trailersE l = e := ⟨_, rfl⟩
    obtain ⟨ex, hex⟩ : ∃ e, requestE (l ++ [(x, y)]) = e := ⟨_, rfl⟩
    obtain ⟨ey, hey⟩ : ∃ e, responseE (l ++ [(x, y)]) = e := ⟨_, rfl⟩
    obtain ⟨ez, hez⟩ : ∃ e, trailersE (l ++ [(x, y)]) = e := ⟨_, rfl⟩
    have hzz : ez = if ec = 0 then eo else ec := by rw [← hez, trl_append, hec, heo]
    have hxy : eo = 0 → ex = ea ∧ ey = eb := fun h => by
      have := req_append l (x, y) (heo.trans h)
      rw [hex, hea, hey, heb] at this
      exact this
    have H1 : Hid (Calls Tryd.prog 24 #[.slice (some ⟨wc.heap.size, 0, none⟩) 1 1] (wc.alloc (.cells #[.string x, .string y] 39)) fun e w' => e = .returned (.int .i64 (eo : Int)) ∧ Keeps nobody (wc.alloc (.cells #[.string x, .string y] 39)) w') := HT.out _ _ [(x, y)] 1 1 eo heo lf (by simp) hz1 (by simp) (by decide) rfl
    have H2 : Hid (∀ w, Keeps nobody wc w → Calls Tryd.prog 20 #[.slice a l.length c] w fun e w' => e = .returned (.int .i64 (ea : Int)) ∧ Keeps nobody w w') := fun w hw => HQ.out w a l _ c ea hea ((H.out.quiet kWc).quiet hw) (by omega) hz hc hcm rfl
    have H3 : Hid (∀ w, Keeps nobody wc w → Calls Tryd.prog 22 #[.slice a l.length c] w fun e w' => e = .returned (.int .i64 (eb : Int)) ∧ Keeps nobody w w') := fun w hw => HP.out w a l _ c eb heb ((H.out.quiet kWc).quiet hw) (by omega) hz hc hcm rfl
    have H4 : Hid (∀ w, Keeps nobody wc w → Calls Tryd.prog 24 #[.slice a l.length c] w fun e w' => e = .returned (.int .i64 (ec : Int)) ∧ Keeps nobody w w') := fun w hw => HT.out w a l _ c ec hec ((H.out.quiet kWc).quiet hw) (by omega) hz hc hcm rfl
    have H5 : Hid (∀ w, Keeps nobody wc w → Calls Tryd.prog 20 #[.slice p (l.length + 1) c'] w fun e w' => e = .returned (.int .i64 (ex : Int)) ∧ Keeps nobody w w') := fun w hw => HQ.out w p _ _ c' ex hex (LM.quiet hw) (by omega) hz2 hcap.1 hcap.2 hlen.symm
    have H6 : Hid (∀ w, Keeps nobody wc w → Calls Tryd.prog 22 #[.slice p (l.length + 1) c'] w fun e w' => e = .returned (.int .i64 (ey : Int)) ∧ Keeps nobody w w') := fun w hw => HP.out w p _ _ c' ey hey (LM.quiet hw) (by omega) hz2 hcap.1 hcap.2 hlen.symm
    have H7 : Hid (∀ w, Keeps nobody wc w → Calls Tryd.prog 24 #[.slice p (l.length + 1) c'] w fun e w' => e = .returned (.int .i64 (ez : Int)) ∧ Keeps nobody w w') := fun w hw => HT.out w p _ _ c' ez hez (LM.quiet hw) (by omega) hz2 hcap.1 hcap.2 hlen.symm
    have HX := hid (And.intro hzz hxy)
    have KW := k0.then kWc
    rw [hlen]
    clear hzz hxy heo hea heb hec hex hey hez HQ HP HT RO LM lf hcap hlen hz hz1 hz2 HZ H kM fx
    go_wp2_with fail
    refine Calls.mono H1.out ?_
    rintro e v1 ⟨rfl, q1⟩
    have t1 := kC.then q1
    go_wp2_with fail
    refine Calls.mono (H2.out _ t1) ?_
    rintro e v2 ⟨rfl, q2⟩
    have t2 := t1.then q2
    go_wp2_with fail
    refine Calls.mono (H3.out _ t2) ?_
    rintro e v3 ⟨rfl, q3⟩
    have t3 := t2.then q3
    go_wp2_with fail
    refine Calls.mono (H4.out _ t3) ?_
    rintro e v4 ⟨rfl, q4⟩
    have t4 := t3.then q4
    go_wp2_with fail
    refine Calls.mono (H5.out _ t4) ?_
    rintro e v5 ⟨rfl, q5⟩
    have t5 := t4.then q5
    go_wp2_with fail
    refine Calls.mono (H6.out _ t5) ?_
    rintro e v6 ⟨rfl, q6⟩
    have t6 := t5.then q6
    go_wp2_with fail
    refine Calls.mono (H7.out _ t6) ?_
    rintro e v7 ⟨rfl, q7⟩
    have t7 := below_of_keeps (KW.then (t6.then q7))
    obtain ⟨hzz, hxy⟩ := HX.out
    clear H1 H2 H3 H4 H5 H6 H7 q1 q2 q3 q4 q5 q6 q7 t1 t2 t3 t4 t5 t6 KW kC kWc HF HA HX k0 k1 k2 kW2
    by_cases ho : eo = 0
    · obtain ⟨rfl, rfl⟩ := hxy ho
      subst ho
      have e : ez = ec := by rw [hzz]; split <;> omega
      subst e
      clear hzz hxy
      go_wp2
      go_ret
      exact ⟨rfl, t7⟩
    · clear hxy
      by_cases hc0 : ec = 0
      · subst hc0
        rw [if_pos rfl] at hzz
        subst hzz
        go_wp2
        go_ret
        exact ⟨rfl, t7⟩
      · rw [if_neg hc0] at hzz
        subst hzz
        go_wp2
        go_ret
        exact ⟨rfl, t7⟩

set_option maxRecDepth 100000 in
theorem more_walk (a : Option Addr) (c : Nat) (l : List Fld) (f : Fld) (W : World) (_ : Env W) (hf : FldsC W a c l) (h1 : f.1.size ≤ 140737488355328) (h2 : f.2.size ≤ 140737488355328) :
    Calls Tryd.prog 4 #[.slice a l.length c, fval f] W fun e w' => e = .returned (.bool true) ∧ Below W.heap.size W w' := by
  obtain ⟨x, y⟩ := f
  simp only at h1 h2
  have k0 := keeps_alloc W (.cells #[.string x, .string y] 39)
  have fx := fx_new W x y
  have HA : Hid (∀ W, Calls Tryd.prog 10 #[] W fun e w' => e = .returned (.bool true) ∧ Keeps nobody W w') := alive_ok
  have HF : Hid (Calls Tryd.prog 9 #[.slice a l.length c] (W.alloc (.cells #[.string x, .string y] 39)) fun e w' => e = .returned (.bool (fewB l)) ∧ Keeps nobody (W.alloc (.cells #[.string x, .string y] 39)) w') := few_ok c (hf.1.lies.quiet k0) hf.1.2.1 hf.1.2.2
  cases hb : fewB l
  · rw [hb] at HF
    clear hf hb fx
    go_enter Tryd.func4, Tryd.ntmps4
    go_wp2_with fail
    refine Calls.mono HF.out ?_
    rintro e w1 ⟨rfl, k1⟩
    go_wp2_with fail
    refine Calls.mono (HA.out _) ?_
    rintro e w2 ⟨rfl, k2⟩
    go_wp2
    go_ret
    exact ⟨rfl, below_of_keeps ((k0.then k1).then k2)⟩
  · rw [hb] at HF
    by_cases hs : x.size + y.size ≤ 400
    · exact more_main a c l x y W hf.1.lies hf.1.2.2 (fewB_len hb).1 hf.2.1 hf.2.2 hs HF
    · clear hf hb
      go_enter Tryd.func4, Tryd.ntmps4
      go_wp2_with fail
      refine Calls.mono HF.out ?_
      rintro e w1 ⟨rfl, k1⟩
      obtain ⟨d0, d1, _⟩ := (fx.quiet k1).cells
      go_wp2_with fail
      refine Calls.mono (HA.out _) ?_
      rintro e w2 ⟨rfl, k2⟩
      go_wp2
      go_ret
      exact ⟨rfl, below_of_keeps ((k0.then k1).then k2)⟩
end Go.Proofs.YtladdbppkepphaaDoor
