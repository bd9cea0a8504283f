/-
  The law PrefsTells, walked.
-/
import Derived.Test.YtkjdklcmaomjnaaZPushW
import Derived.Test.YtkjdklcmaomjnaaZOpen
import Derived.Test.YtkjdklcmaomjnaaZRefM
import Derived.Test.YtkjdklcmaomjnaaCBook
import Derived.RegionTactic
namespace Go.Proofs.Ytkjdklcmaomjnaa
open Go.RowKit
attribute [local irreducible] numL nums str sixes putP getP applyG

theorem Hold.perm {W w : World} {ts us : List Thing} (h : Hold W w ts) (hp : ts.Perm us) : Hold W w us :=
  ⟨h.below, fun t ht => h.ok t (hp.mem_iff.2 ht), fun t ht => h.inv t (hp.mem_iff.2 ht), fun t ht => h.new t (hp.mem_iff.2 ht), hp.pairwise h.apart fun ha k e e2 => ha k e2 e⟩
theorem Hold.keeps {W w : World} {ts : List Thing} (h : Hold W w ts) : Keeps nobody W w := keeps_of_below h.below
/-- What is kept in a book lies there. -/
theorem book_lies {W w : World} {ts : List Thing} {kb : Nat} {fv wv : Value} {fs ws : List PL} (h : Hold W w ts) (hm : bkT kb fv wv fs ws ∈ ts) {x : Option Addr} {n c : Nat} {l : List Pf} (hp : ((.slice x n c : Value), l) ∈ fs) : PLies w x l nobody :=
  prow_lies ((h.inv _ hm).book.f.rows _ hp) fun _ _ => id
theorem row_lies_in {W w : World} {ts : List Thing} {x : Option Addr} {n c : Nat} {l : List Pf} (h : Hold W w ts) (hm : rowT (.slice x n c) l ∈ ts) : PLies w x l nobody := prow_lies (h.inv _ hm) fun _ _ => id
theorem lent_lies_in {W w : World} {ts : List Thing} {rb c : Nat} {l : List Pf} (h : Hold W w ts) (hm : lentT rb c l ∈ ts) : PLies w (some ⟨rb, 0, none⟩) l nobody := PLent.lies (h.inv _ hm) id
theorem own_add {W w w' : World} {ts : List Thing} {x : Option Addr} {c : Nat} {l : List Pf} (h : Hold W w ts) (o : Own w.heap.size w' x c l) (k : Keeps nobody w w') : Hold W w' (rowT (.slice x l.length c) l :: ts) :=
  h.add k (rowT_ok _ _) (row_zero o) fun j e => (o.lt j e).1
theorem lent_add {W w w' : World} {ts : List Thing} {rb c : Nat} {l : List Pf} (h : Hold W w ts) (o : PLent w.heap.size w' rb c l) (k : Keeps nobody w w') : Hold W w' (lentT rb c l :: ts) :=
  h.add k (lentT_ok _ _ _) (row_low o) fun j e => by
    have := o.room.1
    have e' : j = rb := e
    omega
theorem book_add {W w : World} {ts : List Thing} (h : Hold W w ts) : Hold W (w.alloc (.cells #[.slice none 0 0, .slice none 0 0, .slice none 0 0, .slice none 0 0, .slice none 0 0, .slice none 0 0, .slice none 0 0, .slice none 0 0, .slice none 0 0, .slice none 0 0] 38)) (bkT w.heap.size (.slice none 0 0) (.slice none 0 0) [] [] :: ts) :=
  h.add (keeps_alloc _ _) (bkT_ok _ _ _ _ _) (new_book w) (new_book_foot w)
set_option maxRecDepth 100000 in
set_option maxHeartbeats 8000000 in
theorem tells_no (a : Option Addr) (cap : Nat) (l : List Pf) (b : ByteArray) (window : Int) (w : World) (h : Prs w a cap l) (hl : ¬ l.length > 40) (hb : ¬ b.size > 400) (hin : ¬ allIn l) : Calls Try.prog 3 #[.slice a l.length cap, .string b, .int .i64 window] w (Fine w) := by
  have HL := hid alive_ok
  have HF := hid first_lit
  have HRF := hid rfirst_ok
  have HR := hid ref_ok
  obtain ⟨hp, hc1, hc2⟩ := h
  unfold maxLen at hc2
  have HQ := hid hp
  clear hp
  have HLb : Hid ((getP b).length ≤ 100) := by have h1 := getP_length b; show _ ≤ _; omega
  have HG := hid fun w => pget_ok b w (by omega)
  have HRG := hid fun w => rget_ok b w (by omega)
  have HM := hid (mine_ok window)
  have HRM := hid (rmine_ok window)
  generalize getP b = Lb at *
  generalize decide (b.size % 6 = 0) = Db at *
  generalize (if 1 ≤ window ∧ window ≤ 65535 then putP (mineL window) else ⟨#[]⟩) = M at *
  generalize decide (1 ≤ window ∧ window ≤ 65535) = Dm at *
  obtain ⟨⟨g0, g1, g2, g3, g4⟩, rc, re, hres⟩ : ∃ (s : Ps) (rc re : Int), applyG firstP firstP l = (s, rc, re) := ⟨_, _, _, rfl⟩
  have HA : Hid (∀ (w : World) (a : Option Addr) (cap : Nat), PLies w a l nobody → Calls Try.prog 24 #[.agg #[.int .i64 128, .int .i64 6, .int .i64 100, .int .i64 64, .int .i64 600], .slice a l.length cap] w fun e w' => e = .returned (.tuple #[.agg #[.int .i64 g0, .int .i64 g1, .int .i64 g2, .int .i64 g3, .int .i64 g4], .int .i64 rc, .int .i64 re]) ∧ Keeps nobody w w') := fun w a cap h => by
    have := apply_ok cap firstP h (by omega)
    rw [hres] at this
    exact this
  have HRA : Hid (∀ (w : World) (a : Option Addr) (cap : Nat), PLies w a l nobody → Calls Try.prog 25 #[.agg #[.int .i64 128, .int .i64 6, .int .i64 100, .int .i64 64, .int .i64 600], .slice a l.length cap] w fun e w' => e = .returned (.tuple #[.agg #[.int .i64 g0, .int .i64 g1, .int .i64 g2, .int .i64 g3, .int .i64 g4], .int .i64 rc, .int .i64 re]) ∧ Keeps nobody w w') := fun w a cap h => by
    have := rapply_ok cap firstP h (by omega)
    rw [hres] at this
    exact this
  clear hres
  have HP : Hid (∀ (w : World) (a : Option Addr) (cap : Nat), PLies w a l nobody → Calls Try.prog 11 #[.slice a l.length cap] w fun e w' => e = .returned (.tuple #[.string (putP l), .bool (decide (allIn l))]) ∧ Keeps nobody w w') := fun w a cap h => put_ok cap h (by omega)
  have HRP : Hid (∀ (w : World) (a : Option Addr) (cap : Nat), PLies w a l nobody → Calls Try.prog 12 #[.slice a l.length cap] w fun e w' => e = .returned (.tuple #[.string (putP l), .bool (decide (allIn l))]) ∧ Keeps nobody w w') := fun w a cap h => rput_ok cap h (by omega)
  rw [decide_eq_false hin] at HP HRP
  clear hin
  generalize putP l = P at *
  go_enter Try.func3, Try.ntmps3
  go_wp2_with fail
  refine Calls.mono (HL.out _) ?_
  rintro e w1 ⟨rfl, k1⟩
  have H1 := hid ((hold_nil (Below.refl w.heap.size w)).quiet k1)
  clear k1
  go_wp2_with fail
  refine Calls.mono (plent_ok cap (plies_below HQ.out H1.out.below) (by omega)) ?_
  rintro e w2 ⟨rb, c, rfl, P2⟩
  have H2 := hid (lent_add H1.out P2.out.1 P2.out.2)
  clear H1 P2
  go_wp2_with fail
  refine Calls.mono (HP.out _ _ c (lent_lies_in (rb := rb) (c := c) H2.out (by simp))) ?_
  rintro e w3 ⟨rfl, k3⟩
  have H3 := hid (H2.out.quiet k3)
  clear H2 k3
  go_wp2_with fail
  refine Calls.mono (HRP.out _ _ cap (plies_below HQ.out H3.out.below)) ?_
  rintro e w4 ⟨rfl, k4⟩
  have H4 := hid (H3.out.quiet k4)
  clear H3 k4
  go_wp2_with fail
  refine Calls.mono (HG.out _) ?_
  rintro e w5 ⟨x, cx, rfl, o5, k5⟩
  have H5 := hid (own_add H4.out o5 k5)
  clear H4 o5 k5
  go_wp2_with fail
  refine Calls.mono (HRG.out _) ?_
  rintro e w6 ⟨y, cy, rfl, o6, k6⟩
  have H6 := hid (own_add H5.out o6 k6)
  clear H5 o6 k6
  go_wp2_with fail
  refine Calls.mono (HM.out _) ?_
  rintro e w7 ⟨rfl, k7⟩
  have H7 := hid (H6.out.quiet k7)
  clear H6 k7
  go_wp2_with fail
  refine Calls.mono (HRM.out _) ?_
  rintro e w8 ⟨rfl, k8⟩
  have H8 := hid (H7.out.quiet k8)
  clear H7 k8
  have H9 := hid ((book_add H8.out).perm (us := rowT (.slice x Lb.length cx) Lb :: ([] ++ bkT w8.heap.size (.slice none 0 0) (.slice none 0 0) [] [] :: [rowT (.slice y Lb.length cy) Lb, lentT rb c l])) (by
    refine List.Perm.trans (List.Perm.cons _ (List.Perm.swap _ _ _)) ?_
    exact List.Perm.swap _ _ _))
  clear H8
  go_wp2_with fail
  refine Calls.mono (keep_list H9.out HLb.out (by decide)) ?_
  rintro e w9 ⟨rfl, K9⟩
  obtain ⟨fv, wv, cv, hH⟩ := K9.out
  have H10 := hid hH
  clear hH H9 K9
  generalize w8.heap.size = kb at *
  have HS := hid (psame_lies cx cy (book_lies H10.out (kb := kb) (fv := fv) (wv := wv) (fs := [((.slice x Lb.length cx : Value), Lb)]) (ws := [(cv, Lb)]) (by simp) (x := x) (n := Lb.length) (c := cx) (l := Lb) (by simp)) (row_lies_in H10.out (x := y) (n := Lb.length) (c := cy) (l := Lb) (by simp)) (Nat.le_trans HLb.out (by decide)))
  go_wp2_with fail
  refine Calls.mono (HS.out) ?_
  rintro e w10 ⟨rfl, k10⟩
  have H11 := hid (H10.out.quiet k10)
  clear H10 k10 HS
  go_wp2_with fail
  refine Calls.mono (HF.out _) ?_
  rintro e w11 ⟨rfl, k11⟩
  have H12 := hid (H11.out.quiet k11)
  clear H11 k11
  go_wp2_with fail
  refine Calls.mono (HR.out _ _ _ _ _ _) ?_
  rintro e w12 ⟨rfl, k12⟩
  have H13 := hid (H12.out.quiet k12)
  clear H12 k12
  go_wp2_with fail
  refine Calls.mono (HRF.out _) ?_
  rintro e w13 ⟨rfl, k13⟩
  have H14 := hid (H13.out.quiet k13)
  clear H13 k13
  have HS := hid (pstays_ok cap (H14.out.inv (lentT rb c l) (by simp)) (plies_below HQ.out H14.out.below) (by omega))
  go_wp2_with fail
  refine Calls.mono (HS.out) ?_
  rintro e w14 ⟨rfl, k14⟩
  have H15 := hid ((H14.out.quiet k14).sub (a := [bkT kb fv wv [((.slice x Lb.length cx : Value), Lb)] [(cv, Lb)], lentT rb c l]) (by simp))
  clear H14 k14 HS
  obtain ⟨fs, hfs⟩ : ∃ fs : List PL, fs = [((.slice x Lb.length cx : Value), Lb)] := ⟨_, rfl⟩
  obtain ⟨ws, hws⟩ : ∃ ws : List PL, ws = [(cv, Lb)] := ⟨_, rfl⟩
  have hn : fs.length ≤ 250 := by rw [hfs]; simp
  have H20 := H15
  clear H15
  rw [← hfs, ← hws] at H20
  clear hfs hws
  generalize fv = fv0 at *
  generalize wv = wv0 at *
  clear HG HRG HP HRP HM HRM HLb
  go_wp2
  go_loopg [151] l.length (fun k i wr => ∃ (j : Nat), i = .int .i64 (j : Int) ∧ k + j = l.length ∧ Hid (Hold w wr [bkT kb fv0 wv0 fs ws, lentT rb c l]))
  case atStart => exact ⟨0, rfl, rfl, H20⟩
  case round =>
    clear H20
    obtain ⟨j, rfl, hk, HI⟩ := hrel
    by_cases hj : j < l.length
    · obtain ⟨r1, f1, ha, hr1, _, d0, d1⟩ := (plies_below HQ.out HI.out.below).at j hj
      subst ha
      generalize l[j]'hj = xx at *
      obtain ⟨xi, xv⟩ := xx
      simp only at d0 d1
      have HK := hid hk
      clear hk
      have HI2 := hid (HI.out.quiet (keeps_alloc wr (.cells #[.int .i64 xi, .int .i64 xv] 48)))
      by_cases hx : xv < 0
      · have HB := hid (book_apart HI2.out (kb := kb) (fv := fv0) (wv := wv0) (fs := fs) (ws := ws) (by simp) hn)
        clear HI HI2
        go_wp2_with fail
        refine Calls.mono HB.out ?_
        rintro e wz ⟨rfl, hB⟩
        go_wp2
        go_ret
        exact ⟨rfl, hB⟩
      · clear HI
        go_wp2
        have hk := HK.out
        go_roundg (gk - 1)
        case measure => omega
        case rel => exact ⟨j + 1, by simp, by omega, HI2⟩
    · have hj2 : ¬ (j : Int) < (l.length : Int) := by omega
      clear hj hk
      go_wp2_with fail
      refine Calls.mono (HF.out _) ?_
      rintro e w21 ⟨rfl, k21⟩
      have H21 := hid (HI.out.quiet k21)
      clear HI k21
      go_wp2_with fail
      refine Calls.mono (HA.out _ _ c (lent_lies_in (rb := rb) (c := c) H21.out (by simp))) ?_
      rintro e w22 ⟨rfl, k22⟩
      have H22 := hid ((H21.out.quiet k22).quiet (keeps_alloc w22 (.cells #[.int .i64 g0, .int .i64 g1, .int .i64 g2, .int .i64 g3, .int .i64 g4] 44)))
      have XA := alloc_ps w22 ⟨g0, g1, g2, g3, g4⟩
      clear H21 k22
      go_wp2_with fail
      refine Calls.mono (HRF.out _) ?_
      rintro e w23 ⟨rfl, k23⟩
      have H23 := hid (H22.out.quiet k23)
      clear H22
      go_wp2_with fail
      refine Calls.mono (HRA.out _ _ cap (plies_below HQ.out H23.out.below)) ?_
      rintro e w24 ⟨rfl, k24⟩
      have H24 := hid ((H23.out.quiet k24).quiet (keeps_alloc w24 (.cells #[.int .i64 g0, .int .i64 g1, .int .i64 g2, .int .i64 g3, .int .i64 g4] 42)))
      have XR := rx_new w24 ⟨g0, g1, g2, g3, g4⟩
      have y2 := (k23.then k24).then (keeps_alloc w24 (.cells #[.int .i64 g0, .int .i64 g1, .int .i64 g2, .int .i64 g3, .int .i64 g4] 42))
      have HD : Hid (∀ W, Keeps nobody (w24.alloc (.cells #[.int .i64 g0, .int .i64 g1, .int .i64 g2, .int .i64 g3, .int .i64 g4] 42)) W → W.cell? ⟨w22.heap.size, 0, none⟩ = some (.int .i64 g0) ∧ W.cell? ⟨w22.heap.size, 1, none⟩ = some (.int .i64 g1) ∧ W.cell? ⟨w22.heap.size, 2, none⟩ = some (.int .i64 g2) ∧ W.cell? ⟨w22.heap.size, 3, none⟩ = some (.int .i64 g3) ∧ W.cell? ⟨w22.heap.size, 4, none⟩ = some (.int .i64 g4) ∧ W.cell? ⟨w24.heap.size, 0, none⟩ = some (.int .i64 g0) ∧ W.cell? ⟨w24.heap.size, 1, none⟩ = some (.int .i64 g1) ∧ W.cell? ⟨w24.heap.size, 2, none⟩ = some (.int .i64 g2) ∧ W.cell? ⟨w24.heap.size, 3, none⟩ = some (.int .i64 g3) ∧ W.cell? ⟨w24.heap.size, 4, none⟩ = some (.int .i64 g4)) := fun W hW => by
        obtain ⟨p0, p1, p2, p3, p4⟩ := XA W (y2.then hW)
        obtain ⟨q0, q1, q2, q3, q4, _⟩ := (XR.quiet hW).cells
        exact ⟨p0, p1, p2, p3, p4, q0, q1, q2, q3, q4⟩
      have HR2 : Hid (∀ W, Keeps nobody (w24.alloc (.cells #[.int .i64 g0, .int .i64 g1, .int .i64 g2, .int .i64 g3, .int .i64 g4] 42)) W → Calls Try.prog 19 #[.agg #[.int .i64 g0, .int .i64 g1, .int .i64 g2, .int .i64 g3, .int .i64 g4]] W fun e w' => e = .returned (.agg #[.int .i64 g0, .int .i64 g1, .int .i64 g2, .int .i64 g3, .int .i64 g4]) ∧ Keeps nobody (w24.alloc (.cells #[.int .i64 g0, .int .i64 g1, .int .i64 g2, .int .i64 g3, .int .i64 g4] 42)) w') := fun W hW => (HR.out _ _ _ _ _ W).mono fun e w' h => ⟨h.1, hW.then h.2⟩
      have HB : Hid (∀ W, Keeps nobody (w24.alloc (.cells #[.int .i64 g0, .int .i64 g1, .int .i64 g2, .int .i64 g3, .int .i64 g4] 42)) W → Calls Try.prog 23 #[.pointer (some ⟨kb, 0, none⟩)] W fun e w' => e = .returned (.bool true) ∧ Below w.heap.size w w') := fun W hW => book_apart (H24.out.quiet hW) (kb := kb) (fv := fv0) (wv := wv0) (fs := fs) (ws := ws) (by simp) hn
      clear XA XR y2 k23 k24 H23 H24
      go_wp2_with fail
      obtain ⟨p0, p1, p2, p3, p4, q0, q1, q2, q3, q4⟩ := HD.out _ (Keeps.refl _ _).drew
      refine wp_region_any (by kernel_rfl) ?_
      simp only [World.drew_eq]
      refine wpAny_ready (rs := [0, 2]) (by kernel_rfl) (by simp) ?_
      refine AllReady.cons rfl (fun K' hK => ?_) (AllReady.cons rfl (fun K' hK => ?_) AllReady.nil)
      · rw [if_pos (by kernel_rfl)]
        go_simp
        refine hK _ _ ?_
        clear hK
        refine wpAny_ready (rs := [1, 2]) (by kernel_rfl) (by simp) ?_
        refine AllReady.cons rfl (fun K' hK => ?_) (AllReady.cons rfl (fun K' hK => ?_) AllReady.nil)
        · rw [if_pos (by kernel_rfl)]
          go_simp
          go_at_call 19
          refine Calls.mono (HR2.out _ (by exact (Keeps.refl _ _).drew)) ?_
          rintro e wq ⟨rfl, kq⟩
          refine hK _ _ ?_
          clear hK
          clear p0 p1 p2 p3 p4 q0 q1 q2 q3 q4
          obtain ⟨p0, p1, p2, p3, p4, q0, q1, q2, q3, q4⟩ := HD.out _ kq
          refine wpAny_ready (rs := [2]) (by kernel_rfl) (by simp) ?_
          refine AllReady.cons rfl (fun K' hK => ?_) AllReady.nil
          rw [if_pos (by kernel_rfl)]
          go_simp
          refine hK _ _ ?_
          clear hK
          refine wpAny_take (i := 3) (v := .bool true) rfl (by kernel_rfl) (by kernel_rfl) (by kernel_rfl) (fun _ _ _ h => h) (Or.inl ⟨by kernel_rfl, ?_⟩) ?_
          · intro w0; go_simp
          simp only [Act.put, List.getElem_toArray, List.getElem_cons_succ, List.getElem_cons_zero, List.setIfInBounds_toArray, List.set_cons_zero, List.set_cons_succ]
          refine wpAny_take (i := 4) (v := .bool true) rfl (by kernel_rfl) (by kernel_rfl) (by kernel_rfl) (fun _ _ _ h => h) (Or.inl ⟨by kernel_rfl, ?_⟩) ?_
          · intro w0; go_simp
          simp only [Act.put, List.getElem_toArray, List.getElem_cons_succ, List.getElem_cons_zero, List.setIfInBounds_toArray, List.set_cons_zero, List.set_cons_succ]
          refine wpAny_take (i := 5) (v := .int .i64 rc) rfl (by kernel_rfl) (by kernel_rfl) (by kernel_rfl) (fun _ _ _ h => h) (Or.inl ⟨by kernel_rfl, ?_⟩) ?_
          · intro w0; go_simp
          simp only [Act.put, List.getElem_toArray, List.getElem_cons_succ, List.getElem_cons_zero, List.setIfInBounds_toArray, List.set_cons_zero, List.set_cons_succ]
          refine wpAny_take (i := 6) (v := .int .i64 rc) rfl (by kernel_rfl) (by kernel_rfl) (by kernel_rfl) (fun _ _ _ h => h) (Or.inl ⟨by kernel_rfl, ?_⟩) ?_
          · intro w0; go_simp
          simp only [Act.put, List.getElem_toArray, List.getElem_cons_succ, List.getElem_cons_zero, List.setIfInBounds_toArray, List.set_cons_zero, List.set_cons_succ]
          refine wpAny_take (i := 7) (v := .bool true) rfl (by kernel_rfl) (by kernel_rfl) (by kernel_rfl) (fun _ _ _ h => h) (Or.inl ⟨by kernel_rfl, ?_⟩) ?_
          · intro w0; go_simp
          simp only [Act.put, List.getElem_toArray, List.getElem_cons_succ, List.getElem_cons_zero, List.setIfInBounds_toArray, List.set_cons_zero, List.set_cons_succ]
          refine wpAny_take (i := 8) (v := .bool true) rfl (by kernel_rfl) (by kernel_rfl) (by kernel_rfl) (fun _ _ _ h => h) (Or.inl ⟨by kernel_rfl, ?_⟩) ?_
          · intro w0; go_simp
          simp only [Act.put, List.getElem_toArray, List.getElem_cons_succ, List.getElem_cons_zero, List.setIfInBounds_toArray, List.set_cons_zero, List.set_cons_succ]
          refine wpAny_take (i := 9) (v := .bool true) rfl (by kernel_rfl) (by kernel_rfl) (by kernel_rfl) (fun _ _ _ h => h) (Or.inl ⟨by kernel_rfl, ?_⟩) ?_
          · intro w0; go_simp
          simp only [Act.put, List.getElem_toArray, List.getElem_cons_succ, List.getElem_cons_zero, List.setIfInBounds_toArray, List.set_cons_zero, List.set_cons_succ]
          refine wpAny_take (i := 10) (v := .int .i64 re) rfl (by kernel_rfl) (by kernel_rfl) (by kernel_rfl) (fun _ _ _ h => h) (Or.inl ⟨by kernel_rfl, ?_⟩) ?_
          · intro w0; go_simp
          simp only [Act.put, List.getElem_toArray, List.getElem_cons_succ, List.getElem_cons_zero, List.setIfInBounds_toArray, List.set_cons_zero, List.set_cons_succ]
          refine wpAny_take (i := 11) (v := .int .i64 re) rfl (by kernel_rfl) (by kernel_rfl) (by kernel_rfl) (fun _ _ _ h => h) (Or.inl ⟨by kernel_rfl, ?_⟩) ?_
          · intro w0; go_simp
          simp only [Act.put, List.getElem_toArray, List.getElem_cons_succ, List.getElem_cons_zero, List.setIfInBounds_toArray, List.set_cons_zero, List.set_cons_succ]
          refine wpAny_take (i := 12) (v := .bool true) rfl (by kernel_rfl) (by kernel_rfl) (by kernel_rfl) (fun _ _ _ h => h) (Or.inl ⟨by kernel_rfl, ?_⟩) ?_
          · intro w0; go_simp
          simp only [Act.put, List.getElem_toArray, List.getElem_cons_succ, List.getElem_cons_zero, List.setIfInBounds_toArray, List.set_cons_zero, List.set_cons_succ]
          refine wpAny_take (i := 13) (v := .bool true) rfl (by kernel_rfl) (by kernel_rfl) (by kernel_rfl) (fun _ _ _ h => h) (Or.inl ⟨by kernel_rfl, ?_⟩) ?_
          · intro w0; go_simp
          simp only [Act.put, List.getElem_toArray, List.getElem_cons_succ, List.getElem_cons_zero, List.setIfInBounds_toArray, List.set_cons_zero, List.set_cons_succ]
          refine wpAny_take (i := 14) (v := .bool true) rfl (by kernel_rfl) (by kernel_rfl) (by kernel_rfl) (fun _ _ _ h => h) (Or.inl ⟨by kernel_rfl, ?_⟩) ?_
          · intro w0; go_simp
          simp only [Act.put, List.getElem_toArray, List.getElem_cons_succ, List.getElem_cons_zero, List.setIfInBounds_toArray, List.set_cons_zero, List.set_cons_succ]
          refine wpAny_take (i := 15) (v := .pointer (some ⟨kb, 0, none⟩)) rfl (by kernel_rfl) (by kernel_rfl) (by kernel_rfl) (fun _ _ _ h => h) (Or.inl ⟨by kernel_rfl, ?_⟩) ?_
          · intro w0; go_simp
          simp only [Act.put, List.getElem_toArray, List.getElem_cons_succ, List.getElem_cons_zero, List.setIfInBounds_toArray, List.set_cons_zero, List.set_cons_succ]
          refine wpAny_ready (rs := [16]) (by kernel_rfl) (by simp) ?_
          refine AllReady.cons rfl (fun K' hK => ?_) AllReady.nil
          rw [if_pos (by kernel_rfl)]
          go_simp
          go_at_call 23
          refine Calls.mono (HB.out _ kq) ?_
          rintro e wz ⟨rfl, hB⟩
          refine hK _ _ ?_
          clear hK
          refine wpAny_take (i := 17) (v := .bool true) rfl (by kernel_rfl) (by kernel_rfl) (by kernel_rfl) (fun _ _ _ h => h) (Or.inl ⟨by kernel_rfl, ?_⟩) ?_
          · intro w0; go_simp
          simp only [Act.put, List.getElem_toArray, List.getElem_cons_succ, List.getElem_cons_zero, List.setIfInBounds_toArray, List.set_cons_zero, List.set_cons_succ]
          refine wpAny_take (i := 18) (v := .bool true) rfl (by kernel_rfl) (by kernel_rfl) (by kernel_rfl) (fun _ _ _ h => h) (Or.inl ⟨by kernel_rfl, ?_⟩) ?_
          · intro w0; go_simp
          simp only [Act.put, List.getElem_toArray, List.getElem_cons_succ, List.getElem_cons_zero, List.setIfInBounds_toArray, List.set_cons_zero, List.set_cons_succ]
          refine wpAny_done (by kernel_rfl) ?_ _
          go_wp2
          go_ret
          exact ⟨rfl, hB⟩
        · rw [if_pos (by kernel_rfl)]
          go_simp
          refine hK _ _ ?_
          clear hK
          refine wpAny_ready (rs := [1]) (by kernel_rfl) (by simp) ?_
          refine AllReady.cons rfl (fun K' hK => ?_) AllReady.nil
          rw [if_pos (by kernel_rfl)]
          go_simp
          go_at_call 19
          refine Calls.mono (HR2.out _ (by exact (Keeps.refl _ _).drew)) ?_
          rintro e wq ⟨rfl, kq⟩
          refine hK _ _ ?_
          clear hK
          refine wpAny_take (i := 3) (v := .bool true) rfl (by kernel_rfl) (by kernel_rfl) (by kernel_rfl) (fun _ _ _ h => h) (Or.inl ⟨by kernel_rfl, ?_⟩) ?_
          · intro w0; go_simp
          simp only [Act.put, List.getElem_toArray, List.getElem_cons_succ, List.getElem_cons_zero, List.setIfInBounds_toArray, List.set_cons_zero, List.set_cons_succ]
          refine wpAny_take (i := 4) (v := .bool true) rfl (by kernel_rfl) (by kernel_rfl) (by kernel_rfl) (fun _ _ _ h => h) (Or.inl ⟨by kernel_rfl, ?_⟩) ?_
          · intro w0; go_simp
          simp only [Act.put, List.getElem_toArray, List.getElem_cons_succ, List.getElem_cons_zero, List.setIfInBounds_toArray, List.set_cons_zero, List.set_cons_succ]
          refine wpAny_take (i := 5) (v := .int .i64 rc) rfl (by kernel_rfl) (by kernel_rfl) (by kernel_rfl) (fun _ _ _ h => h) (Or.inl ⟨by kernel_rfl, ?_⟩) ?_
          · intro w0; go_simp
          simp only [Act.put, List.getElem_toArray, List.getElem_cons_succ, List.getElem_cons_zero, List.setIfInBounds_toArray, List.set_cons_zero, List.set_cons_succ]
          refine wpAny_take (i := 6) (v := .int .i64 rc) rfl (by kernel_rfl) (by kernel_rfl) (by kernel_rfl) (fun _ _ _ h => h) (Or.inl ⟨by kernel_rfl, ?_⟩) ?_
          · intro w0; go_simp
          simp only [Act.put, List.getElem_toArray, List.getElem_cons_succ, List.getElem_cons_zero, List.setIfInBounds_toArray, List.set_cons_zero, List.set_cons_succ]
          refine wpAny_take (i := 7) (v := .bool true) rfl (by kernel_rfl) (by kernel_rfl) (by kernel_rfl) (fun _ _ _ h => h) (Or.inl ⟨by kernel_rfl, ?_⟩) ?_
          · intro w0; go_simp
          simp only [Act.put, List.getElem_toArray, List.getElem_cons_succ, List.getElem_cons_zero, List.setIfInBounds_toArray, List.set_cons_zero, List.set_cons_succ]
          refine wpAny_take (i := 8) (v := .bool true) rfl (by kernel_rfl) (by kernel_rfl) (by kernel_rfl) (fun _ _ _ h => h) (Or.inl ⟨by kernel_rfl, ?_⟩) ?_
          · intro w0; go_simp
          simp only [Act.put, List.getElem_toArray, List.getElem_cons_succ, List.getElem_cons_zero, List.setIfInBounds_toArray, List.set_cons_zero, List.set_cons_succ]
          refine wpAny_take (i := 9) (v := .bool true) rfl (by kernel_rfl) (by kernel_rfl) (by kernel_rfl) (fun _ _ _ h => h) (Or.inl ⟨by kernel_rfl, ?_⟩) ?_
          · intro w0; go_simp
          simp only [Act.put, List.getElem_toArray, List.getElem_cons_succ, List.getElem_cons_zero, List.setIfInBounds_toArray, List.set_cons_zero, List.set_cons_succ]
          refine wpAny_take (i := 10) (v := .int .i64 re) rfl (by kernel_rfl) (by kernel_rfl) (by kernel_rfl) (fun _ _ _ h => h) (Or.inl ⟨by kernel_rfl, ?_⟩) ?_
          · intro w0; go_simp
          simp only [Act.put, List.getElem_toArray, List.getElem_cons_succ, List.getElem_cons_zero, List.setIfInBounds_toArray, List.set_cons_zero, List.set_cons_succ]
          refine wpAny_take (i := 11) (v := .int .i64 re) rfl (by kernel_rfl) (by kernel_rfl) (by kernel_rfl) (fun _ _ _ h => h) (Or.inl ⟨by kernel_rfl, ?_⟩) ?_
          · intro w0; go_simp
          simp only [Act.put, List.getElem_toArray, List.getElem_cons_succ, List.getElem_cons_zero, List.setIfInBounds_toArray, List.set_cons_zero, List.set_cons_succ]
          refine wpAny_take (i := 12) (v := .bool true) rfl (by kernel_rfl) (by kernel_rfl) (by kernel_rfl) (fun _ _ _ h => h) (Or.inl ⟨by kernel_rfl, ?_⟩) ?_
          · intro w0; go_simp
          simp only [Act.put, List.getElem_toArray, List.getElem_cons_succ, List.getElem_cons_zero, List.setIfInBounds_toArray, List.set_cons_zero, List.set_cons_succ]
          refine wpAny_take (i := 13) (v := .bool true) rfl (by kernel_rfl) (by kernel_rfl) (by kernel_rfl) (fun _ _ _ h => h) (Or.inl ⟨by kernel_rfl, ?_⟩) ?_
          · intro w0; go_simp
          simp only [Act.put, List.getElem_toArray, List.getElem_cons_succ, List.getElem_cons_zero, List.setIfInBounds_toArray, List.set_cons_zero, List.set_cons_succ]
          refine wpAny_take (i := 14) (v := .bool true) rfl (by kernel_rfl) (by kernel_rfl) (by kernel_rfl) (fun _ _ _ h => h) (Or.inl ⟨by kernel_rfl, ?_⟩) ?_
          · intro w0; go_simp
          simp only [Act.put, List.getElem_toArray, List.getElem_cons_succ, List.getElem_cons_zero, List.setIfInBounds_toArray, List.set_cons_zero, List.set_cons_succ]
          refine wpAny_take (i := 15) (v := .pointer (some ⟨kb, 0, none⟩)) rfl (by kernel_rfl) (by kernel_rfl) (by kernel_rfl) (fun _ _ _ h => h) (Or.inl ⟨by kernel_rfl, ?_⟩) ?_
          · intro w0; go_simp
          simp only [Act.put, List.getElem_toArray, List.getElem_cons_succ, List.getElem_cons_zero, List.setIfInBounds_toArray, List.set_cons_zero, List.set_cons_succ]
          refine wpAny_ready (rs := [16]) (by kernel_rfl) (by simp) ?_
          refine AllReady.cons rfl (fun K' hK => ?_) AllReady.nil
          rw [if_pos (by kernel_rfl)]
          go_simp
          go_at_call 23
          refine Calls.mono (HB.out _ kq) ?_
          rintro e wz ⟨rfl, hB⟩
          refine hK _ _ ?_
          clear hK
          refine wpAny_take (i := 17) (v := .bool true) rfl (by kernel_rfl) (by kernel_rfl) (by kernel_rfl) (fun _ _ _ h => h) (Or.inl ⟨by kernel_rfl, ?_⟩) ?_
          · intro w0; go_simp
          simp only [Act.put, List.getElem_toArray, List.getElem_cons_succ, List.getElem_cons_zero, List.setIfInBounds_toArray, List.set_cons_zero, List.set_cons_succ]
          refine wpAny_take (i := 18) (v := .bool true) rfl (by kernel_rfl) (by kernel_rfl) (by kernel_rfl) (fun _ _ _ h => h) (Or.inl ⟨by kernel_rfl, ?_⟩) ?_
          · intro w0; go_simp
          simp only [Act.put, List.getElem_toArray, List.getElem_cons_succ, List.getElem_cons_zero, List.setIfInBounds_toArray, List.set_cons_zero, List.set_cons_succ]
          refine wpAny_done (by kernel_rfl) ?_ _
          go_wp2
          go_ret
          exact ⟨rfl, hB⟩
      · rw [if_pos (by kernel_rfl)]
        go_simp
        refine hK _ _ ?_
        clear hK
        refine wpAny_ready (rs := [0]) (by kernel_rfl) (by simp) ?_
        refine AllReady.cons rfl (fun K' hK => ?_) AllReady.nil
        rw [if_pos (by kernel_rfl)]
        go_simp
        refine hK _ _ ?_
        clear hK
        refine wpAny_ready (rs := [1]) (by kernel_rfl) (by simp) ?_
        refine AllReady.cons rfl (fun K' hK => ?_) AllReady.nil
        rw [if_pos (by kernel_rfl)]
        go_simp
        go_at_call 19
        refine Calls.mono (HR2.out _ (by exact (Keeps.refl _ _).drew)) ?_
        rintro e wq ⟨rfl, kq⟩
        refine hK _ _ ?_
        clear hK
        refine wpAny_take (i := 3) (v := .bool true) rfl (by kernel_rfl) (by kernel_rfl) (by kernel_rfl) (fun _ _ _ h => h) (Or.inl ⟨by kernel_rfl, ?_⟩) ?_
        · intro w0; go_simp
        simp only [Act.put, List.getElem_toArray, List.getElem_cons_succ, List.getElem_cons_zero, List.setIfInBounds_toArray, List.set_cons_zero, List.set_cons_succ]
        refine wpAny_take (i := 4) (v := .bool true) rfl (by kernel_rfl) (by kernel_rfl) (by kernel_rfl) (fun _ _ _ h => h) (Or.inl ⟨by kernel_rfl, ?_⟩) ?_
        · intro w0; go_simp
        simp only [Act.put, List.getElem_toArray, List.getElem_cons_succ, List.getElem_cons_zero, List.setIfInBounds_toArray, List.set_cons_zero, List.set_cons_succ]
        refine wpAny_take (i := 5) (v := .int .i64 rc) rfl (by kernel_rfl) (by kernel_rfl) (by kernel_rfl) (fun _ _ _ h => h) (Or.inl ⟨by kernel_rfl, ?_⟩) ?_
        · intro w0; go_simp
        simp only [Act.put, List.getElem_toArray, List.getElem_cons_succ, List.getElem_cons_zero, List.setIfInBounds_toArray, List.set_cons_zero, List.set_cons_succ]
        refine wpAny_take (i := 6) (v := .int .i64 rc) rfl (by kernel_rfl) (by kernel_rfl) (by kernel_rfl) (fun _ _ _ h => h) (Or.inl ⟨by kernel_rfl, ?_⟩) ?_
        · intro w0; go_simp
        simp only [Act.put, List.getElem_toArray, List.getElem_cons_succ, List.getElem_cons_zero, List.setIfInBounds_toArray, List.set_cons_zero, List.set_cons_succ]
        refine wpAny_take (i := 7) (v := .bool true) rfl (by kernel_rfl) (by kernel_rfl) (by kernel_rfl) (fun _ _ _ h => h) (Or.inl ⟨by kernel_rfl, ?_⟩) ?_
        · intro w0; go_simp
        simp only [Act.put, List.getElem_toArray, List.getElem_cons_succ, List.getElem_cons_zero, List.setIfInBounds_toArray, List.set_cons_zero, List.set_cons_succ]
        refine wpAny_take (i := 8) (v := .bool true) rfl (by kernel_rfl) (by kernel_rfl) (by kernel_rfl) (fun _ _ _ h => h) (Or.inl ⟨by kernel_rfl, ?_⟩) ?_
        · intro w0; go_simp
        simp only [Act.put, List.getElem_toArray, List.getElem_cons_succ, List.getElem_cons_zero, List.setIfInBounds_toArray, List.set_cons_zero, List.set_cons_succ]
        refine wpAny_take (i := 9) (v := .bool true) rfl (by kernel_rfl) (by kernel_rfl) (by kernel_rfl) (fun _ _ _ h => h) (Or.inl ⟨by kernel_rfl, ?_⟩) ?_
        · intro w0; go_simp
        simp only [Act.put, List.getElem_toArray, List.getElem_cons_succ, List.getElem_cons_zero, List.setIfInBounds_toArray, List.set_cons_zero, List.set_cons_succ]
        refine wpAny_take (i := 10) (v := .int .i64 re) rfl (by kernel_rfl) (by kernel_rfl) (by kernel_rfl) (fun _ _ _ h => h) (Or.inl ⟨by kernel_rfl, ?_⟩) ?_
        · intro w0; go_simp
        simp only [Act.put, List.getElem_toArray, List.getElem_cons_succ, List.getElem_cons_zero, List.setIfInBounds_toArray, List.set_cons_zero, List.set_cons_succ]
        refine wpAny_take (i := 11) (v := .int .i64 re) rfl (by kernel_rfl) (by kernel_rfl) (by kernel_rfl) (fun _ _ _ h => h) (Or.inl ⟨by kernel_rfl, ?_⟩) ?_
        · intro w0; go_simp
        simp only [Act.put, List.getElem_toArray, List.getElem_cons_succ, List.getElem_cons_zero, List.setIfInBounds_toArray, List.set_cons_zero, List.set_cons_succ]
        refine wpAny_take (i := 12) (v := .bool true) rfl (by kernel_rfl) (by kernel_rfl) (by kernel_rfl) (fun _ _ _ h => h) (Or.inl ⟨by kernel_rfl, ?_⟩) ?_
        · intro w0; go_simp
        simp only [Act.put, List.getElem_toArray, List.getElem_cons_succ, List.getElem_cons_zero, List.setIfInBounds_toArray, List.set_cons_zero, List.set_cons_succ]
        refine wpAny_take (i := 13) (v := .bool true) rfl (by kernel_rfl) (by kernel_rfl) (by kernel_rfl) (fun _ _ _ h => h) (Or.inl ⟨by kernel_rfl, ?_⟩) ?_
        · intro w0; go_simp
        simp only [Act.put, List.getElem_toArray, List.getElem_cons_succ, List.getElem_cons_zero, List.setIfInBounds_toArray, List.set_cons_zero, List.set_cons_succ]
        refine wpAny_take (i := 14) (v := .bool true) rfl (by kernel_rfl) (by kernel_rfl) (by kernel_rfl) (fun _ _ _ h => h) (Or.inl ⟨by kernel_rfl, ?_⟩) ?_
        · intro w0; go_simp
        simp only [Act.put, List.getElem_toArray, List.getElem_cons_succ, List.getElem_cons_zero, List.setIfInBounds_toArray, List.set_cons_zero, List.set_cons_succ]
        refine wpAny_take (i := 15) (v := .pointer (some ⟨kb, 0, none⟩)) rfl (by kernel_rfl) (by kernel_rfl) (by kernel_rfl) (fun _ _ _ h => h) (Or.inl ⟨by kernel_rfl, ?_⟩) ?_
        · intro w0; go_simp
        simp only [Act.put, List.getElem_toArray, List.getElem_cons_succ, List.getElem_cons_zero, List.setIfInBounds_toArray, List.set_cons_zero, List.set_cons_succ]
        refine wpAny_ready (rs := [16]) (by kernel_rfl) (by simp) ?_
        refine AllReady.cons rfl (fun K' hK => ?_) AllReady.nil
        rw [if_pos (by kernel_rfl)]
        go_simp
        go_at_call 23
        refine Calls.mono (HB.out _ kq) ?_
        rintro e wz ⟨rfl, hB⟩
        refine hK _ _ ?_
        clear hK
        refine wpAny_take (i := 17) (v := .bool true) rfl (by kernel_rfl) (by kernel_rfl) (by kernel_rfl) (fun _ _ _ h => h) (Or.inl ⟨by kernel_rfl, ?_⟩) ?_
        · intro w0; go_simp
        simp only [Act.put, List.getElem_toArray, List.getElem_cons_succ, List.getElem_cons_zero, List.setIfInBounds_toArray, List.set_cons_zero, List.set_cons_succ]
        refine wpAny_take (i := 18) (v := .bool true) rfl (by kernel_rfl) (by kernel_rfl) (by kernel_rfl) (fun _ _ _ h => h) (Or.inl ⟨by kernel_rfl, ?_⟩) ?_
        · intro w0; go_simp
        simp only [Act.put, List.getElem_toArray, List.getElem_cons_succ, List.getElem_cons_zero, List.setIfInBounds_toArray, List.set_cons_zero, List.set_cons_succ]
        refine wpAny_done (by kernel_rfl) ?_ _
        go_wp2
        go_ret
        exact ⟨rfl, hB⟩
set_option maxRecDepth 100000 in
set_option maxHeartbeats 8000000 in
theorem tells_yes (a : Option Addr) (cap : Nat) (l : List Pf) (b : ByteArray) (window : Int) (w : World) (h : Prs w a cap l) (hl : ¬ l.length > 40) (hb : ¬ b.size > 400) (hin : allIn l) : Calls Try.prog 3 #[.slice a l.length cap, .string b, .int .i64 window] w (Fine w) := by
  have HL := hid alive_ok
  have HF := hid first_lit
  have HRF := hid rfirst_ok
  have HR := hid ref_ok
  obtain ⟨hp, hc1, hc2⟩ := h
  unfold maxLen at hc2
  have HQ := hid hp
  clear hp
  have HLb : Hid ((getP b).length ≤ 100) := by have h1 := getP_length b; show _ ≤ _; omega
  have HG := hid fun w => pget_ok b w (by omega)
  have HRG := hid fun w => rget_ok b w (by omega)
  have HM := hid (mine_ok window)
  have HRM := hid (rmine_ok window)
  generalize getP b = Lb at *
  generalize decide (b.size % 6 = 0) = Db at *
  generalize (if 1 ≤ window ∧ window ≤ 65535 then putP (mineL window) else ⟨#[]⟩) = M at *
  generalize decide (1 ≤ window ∧ window ≤ 65535) = Dm at *
  obtain ⟨⟨g0, g1, g2, g3, g4⟩, rc, re, hres⟩ : ∃ (s : Ps) (rc re : Int), applyG firstP firstP l = (s, rc, re) := ⟨_, _, _, rfl⟩
  have HA : Hid (∀ (w : World) (a : Option Addr) (cap : Nat), PLies w a l nobody → Calls Try.prog 24 #[.agg #[.int .i64 128, .int .i64 6, .int .i64 100, .int .i64 64, .int .i64 600], .slice a l.length cap] w fun e w' => e = .returned (.tuple #[.agg #[.int .i64 g0, .int .i64 g1, .int .i64 g2, .int .i64 g3, .int .i64 g4], .int .i64 rc, .int .i64 re]) ∧ Keeps nobody w w') := fun w a cap h => by
    have := apply_ok cap firstP h (by omega)
    rw [hres] at this
    exact this
  have HRA : Hid (∀ (w : World) (a : Option Addr) (cap : Nat), PLies w a l nobody → Calls Try.prog 25 #[.agg #[.int .i64 128, .int .i64 6, .int .i64 100, .int .i64 64, .int .i64 600], .slice a l.length cap] w fun e w' => e = .returned (.tuple #[.agg #[.int .i64 g0, .int .i64 g1, .int .i64 g2, .int .i64 g3, .int .i64 g4], .int .i64 rc, .int .i64 re]) ∧ Keeps nobody w w') := fun w a cap h => by
    have := rapply_ok cap firstP h (by omega)
    rw [hres] at this
    exact this
  clear hres
  have HP : Hid (∀ (w : World) (a : Option Addr) (cap : Nat), PLies w a l nobody → Calls Try.prog 11 #[.slice a l.length cap] w fun e w' => e = .returned (.tuple #[.string (putP l), .bool (decide (allIn l))]) ∧ Keeps nobody w w') := fun w a cap h => put_ok cap h (by omega)
  have HRP : Hid (∀ (w : World) (a : Option Addr) (cap : Nat), PLies w a l nobody → Calls Try.prog 12 #[.slice a l.length cap] w fun e w' => e = .returned (.tuple #[.string (putP l), .bool (decide (allIn l))]) ∧ Keeps nobody w w') := fun w a cap h => rput_ok cap h (by omega)
  rw [decide_eq_true hin] at HP HRP
  have HGP : Hid (∀ w : World, Calls Try.prog 13 #[.string (putP l)] w fun e w' => ∃ x c, e = .returned (.tuple #[.slice x l.length c, .bool true]) ∧ Own w.heap.size w' x c l ∧ Keeps nobody w w') := fun w => by
    have hs : (putP l).size = 6 * l.length := by unfold putP; rw [if_pos hin, str_size, sixes_length]
    have := pget_ok (putP l) w (by omega)
    rw [get_putP l hin, hs, decide_eq_true (show 6 * l.length % 6 = 0 by omega)] at this
    exact this
  clear hin
  generalize putP l = P at *
  go_enter Try.func3, Try.ntmps3
  go_wp2_with fail
  refine Calls.mono (HL.out _) ?_
  rintro e w1 ⟨rfl, k1⟩
  have H1 := hid ((hold_nil (Below.refl w.heap.size w)).quiet k1)
  clear k1
  go_wp2_with fail
  refine Calls.mono (plent_ok cap (plies_below HQ.out H1.out.below) (by omega)) ?_
  rintro e w2 ⟨rb, c, rfl, P2⟩
  have H2 := hid (lent_add H1.out P2.out.1 P2.out.2)
  clear H1 P2
  go_wp2_with fail
  refine Calls.mono (HP.out _ _ c (lent_lies_in (rb := rb) (c := c) H2.out (by simp))) ?_
  rintro e w3 ⟨rfl, k3⟩
  have H3 := hid (H2.out.quiet k3)
  clear H2 k3
  go_wp2_with fail
  refine Calls.mono (HRP.out _ _ cap (plies_below HQ.out H3.out.below)) ?_
  rintro e w4 ⟨rfl, k4⟩
  have H4 := hid (H3.out.quiet k4)
  clear H3 k4
  go_wp2_with fail
  refine Calls.mono (HG.out _) ?_
  rintro e w5 ⟨x, cx, rfl, o5, k5⟩
  have H5 := hid (own_add H4.out o5 k5)
  clear H4 o5 k5
  go_wp2_with fail
  refine Calls.mono (HRG.out _) ?_
  rintro e w6 ⟨y, cy, rfl, o6, k6⟩
  have H6 := hid (own_add H5.out o6 k6)
  clear H5 o6 k6
  go_wp2_with fail
  refine Calls.mono (HM.out _) ?_
  rintro e w7 ⟨rfl, k7⟩
  have H7 := hid (H6.out.quiet k7)
  clear H6 k7
  go_wp2_with fail
  refine Calls.mono (HRM.out _) ?_
  rintro e w8 ⟨rfl, k8⟩
  have H8 := hid (H7.out.quiet k8)
  clear H7 k8
  have H9 := hid ((book_add H8.out).perm (us := rowT (.slice x Lb.length cx) Lb :: ([] ++ bkT w8.heap.size (.slice none 0 0) (.slice none 0 0) [] [] :: [rowT (.slice y Lb.length cy) Lb, lentT rb c l])) (by
    refine List.Perm.trans (List.Perm.cons _ (List.Perm.swap _ _ _)) ?_
    exact List.Perm.swap _ _ _))
  clear H8
  go_wp2_with fail
  refine Calls.mono (keep_list H9.out HLb.out (by decide)) ?_
  rintro e w9 ⟨rfl, K9⟩
  obtain ⟨fv, wv, cv, hH⟩ := K9.out
  have H10 := hid hH
  clear hH H9 K9
  generalize w8.heap.size = kb at *
  have HS := hid (psame_lies cx cy (book_lies H10.out (kb := kb) (fv := fv) (wv := wv) (fs := [((.slice x Lb.length cx : Value), Lb)]) (ws := [(cv, Lb)]) (by simp) (x := x) (n := Lb.length) (c := cx) (l := Lb) (by simp)) (row_lies_in H10.out (x := y) (n := Lb.length) (c := cy) (l := Lb) (by simp)) (Nat.le_trans HLb.out (by decide)))
  go_wp2_with fail
  refine Calls.mono (HS.out) ?_
  rintro e w10 ⟨rfl, k10⟩
  have H11 := hid (H10.out.quiet k10)
  clear H10 k10 HS
  go_wp2_with fail
  refine Calls.mono (HF.out _) ?_
  rintro e w11 ⟨rfl, k11⟩
  have H12 := hid (H11.out.quiet k11)
  clear H11 k11
  go_wp2_with fail
  refine Calls.mono (HR.out _ _ _ _ _ _) ?_
  rintro e w12 ⟨rfl, k12⟩
  have H13 := hid (H12.out.quiet k12)
  clear H12 k12
  go_wp2_with fail
  refine Calls.mono (HRF.out _) ?_
  rintro e w13 ⟨rfl, k13⟩
  have H14 := hid (H13.out.quiet k13)
  clear H13 k13
  have HS := hid (pstays_ok cap (H14.out.inv (lentT rb c l) (by simp)) (plies_below HQ.out H14.out.below) (by omega))
  go_wp2_with fail
  refine Calls.mono (HS.out) ?_
  rintro e w14 ⟨rfl, k14⟩
  have H15 := hid ((H14.out.quiet k14).sub (a := [bkT kb fv wv [((.slice x Lb.length cx : Value), Lb)] [(cv, Lb)], lentT rb c l]) (by simp))
  clear H14 k14 HS
  go_wp2_with fail
  refine Calls.mono (HGP.out _) ?_
  rintro e w15 ⟨z, cz, rfl, o15, k15⟩
  have H16 := hid (own_add H15.out o15 k15)
  clear H15 o15 k15
  go_wp2_with fail
  refine Calls.mono (HGP.out _) ?_
  rintro e w16 ⟨v, cv2, rfl, o16, k16⟩
  have H17 := hid ((own_add H16.out o16 k16).perm (us := rowT (.slice z l.length cz) l :: ([] ++ bkT kb fv wv [((.slice x Lb.length cx : Value), Lb)] [(cv, Lb)] :: [rowT (.slice v l.length cv2) l, lentT rb c l])) (by
    refine List.Perm.trans (List.Perm.swap _ _ _) ?_
    exact List.Perm.cons _ (List.Perm.swap _ _ _)))
  clear H16 o16 k16
  go_wp2_with fail
  refine Calls.mono (keep_list H17.out (by omega) (by simp)) ?_
  rintro e w17 ⟨rfl, K17⟩
  obtain ⟨fv2, wv2, cq, hH⟩ := K17.out
  have H18 := hid (hH.perm (us := rowT (.slice v l.length cv2) l :: ([] ++ bkT kb fv2 wv2 ([((.slice x Lb.length cx : Value), Lb)] ++ [((.slice z l.length cz : Value), l)]) ([(cv, Lb)] ++ [(cq, l)]) :: [lentT rb c l])) (by simp only [List.nil_append]; exact List.Perm.swap _ _ _))
  clear hH H17 K17
  go_wp2_with fail
  refine Calls.mono (keep_list H18.out (by omega) (by simp)) ?_
  rintro e w18 ⟨rfl, K18⟩
  obtain ⟨fv3, wv3, cr, hH⟩ := K18.out
  have H19 := hid hH
  clear hH H18 K18
  have HS := hid (psame_lies cz cap (book_lies H19.out (kb := kb) (fv := fv3) (wv := wv3) (fs := [((.slice x Lb.length cx : Value), Lb)] ++ [((.slice z l.length cz : Value), l)] ++ [((.slice v l.length cv2 : Value), l)]) (ws := [(cv, Lb)] ++ [(cq, l)] ++ [(cr, l)]) (by simp) (x := z) (n := l.length) (c := cz) (l := l) (by simp)) (plies_below HQ.out H19.out.below) (by omega))
  go_wp2_with fail
  refine Calls.mono (HS.out) ?_
  rintro e w19 ⟨rfl, k19⟩
  obtain ⟨fs, hfs⟩ : ∃ fs : List PL, fs = [((.slice x Lb.length cx : Value), Lb)] ++ [((.slice z l.length cz : Value), l)] ++ [((.slice v l.length cv2 : Value), l)] := ⟨_, rfl⟩
  obtain ⟨ws, hws⟩ : ∃ ws : List PL, ws = [(cv, Lb)] ++ [(cq, l)] ++ [(cr, l)] := ⟨_, rfl⟩
  have hn : fs.length ≤ 250 := by rw [hfs]; simp
  have H20 := hid (H19.out.quiet k19)
  clear H19 k19 HS
  simp only [List.nil_append] at H20
  rw [← hfs, ← hws] at H20
  clear hfs hws
  generalize fv3 = fv0 at *
  generalize wv3 = wv0 at *
  clear HG HRG HP HRP HM HRM HLb
  go_wp2
  go_loopg [151] l.length (fun k i wr => ∃ (j : Nat), i = .int .i64 (j : Int) ∧ k + j = l.length ∧ Hid (Hold w wr [bkT kb fv0 wv0 fs ws, lentT rb c l]))
  case atStart => exact ⟨0, rfl, rfl, H20⟩
  case round =>
    clear H20
    obtain ⟨j, rfl, hk, HI⟩ := hrel
    by_cases hj : j < l.length
    · obtain ⟨r1, f1, ha, hr1, _, d0, d1⟩ := (plies_below HQ.out HI.out.below).at j hj
      subst ha
      generalize l[j]'hj = xx at *
      obtain ⟨xi, xv⟩ := xx
      simp only at d0 d1
      have HK := hid hk
      clear hk
      have HI2 := hid (HI.out.quiet (keeps_alloc wr (.cells #[.int .i64 xi, .int .i64 xv] 48)))
      by_cases hx : xv < 0
      · have HB := hid (book_apart HI2.out (kb := kb) (fv := fv0) (wv := wv0) (fs := fs) (ws := ws) (by simp) hn)
        clear HI HI2
        go_wp2_with fail
        refine Calls.mono HB.out ?_
        rintro e wz ⟨rfl, hB⟩
        go_wp2
        go_ret
        exact ⟨rfl, hB⟩
      · clear HI
        go_wp2
        have hk := HK.out
        go_roundg (gk - 1)
        case measure => omega
        case rel => exact ⟨j + 1, by simp, by omega, HI2⟩
    · have hj2 : ¬ (j : Int) < (l.length : Int) := by omega
      clear hj hk
      go_wp2_with fail
      refine Calls.mono (HF.out _) ?_
      rintro e w21 ⟨rfl, k21⟩
      have H21 := hid (HI.out.quiet k21)
      clear HI k21
      go_wp2_with fail
      refine Calls.mono (HA.out _ _ c (lent_lies_in (rb := rb) (c := c) H21.out (by simp))) ?_
      rintro e w22 ⟨rfl, k22⟩
      have H22 := hid ((H21.out.quiet k22).quiet (keeps_alloc w22 (.cells #[.int .i64 g0, .int .i64 g1, .int .i64 g2, .int .i64 g3, .int .i64 g4] 44)))
      have XA := alloc_ps w22 ⟨g0, g1, g2, g3, g4⟩
      clear H21 k22
      go_wp2_with fail
      refine Calls.mono (HRF.out _) ?_
      rintro e w23 ⟨rfl, k23⟩
      have H23 := hid (H22.out.quiet k23)
      clear H22
      go_wp2_with fail
      refine Calls.mono (HRA.out _ _ cap (plies_below HQ.out H23.out.below)) ?_
      rintro e w24 ⟨rfl, k24⟩
      have H24 := hid ((H23.out.quiet k24).quiet (keeps_alloc w24 (.cells #[.int .i64 g0, .int .i64 g1, .int .i64 g2, .int .i64 g3, .int .i64 g4] 42)))
      have XR := rx_new w24 ⟨g0, g1, g2, g3, g4⟩
      have y2 := (k23.then k24).then (keeps_alloc w24 (.cells #[.int .i64 g0, .int .i64 g1, .int .i64 g2, .int .i64 g3, .int .i64 g4] 42))
      have HD : Hid (∀ W, Keeps nobody (w24.alloc (.cells #[.int .i64 g0, .int .i64 g1, .int .i64 g2, .int .i64 g3, .int .i64 g4] 42)) W → W.cell? ⟨w22.heap.size, 0, none⟩ = some (.int .i64 g0) ∧ W.cell? ⟨w22.heap.size, 1, none⟩ = some (.int .i64 g1) ∧ W.cell? ⟨w22.heap.size, 2, none⟩ = some (.int .i64 g2) ∧ W.cell? ⟨w22.heap.size, 3, none⟩ = some (.int .i64 g3) ∧ W.cell? ⟨w22.heap.size, 4, none⟩ = some (.int .i64 g4) ∧ W.cell? ⟨w24.heap.size, 0, none⟩ = some (.int .i64 g0) ∧ W.cell? ⟨w24.heap.size, 1, none⟩ = some (.int .i64 g1) ∧ W.cell? ⟨w24.heap.size, 2, none⟩ = some (.int .i64 g2) ∧ W.cell? ⟨w24.heap.size, 3, none⟩ = some (.int .i64 g3) ∧ W.cell? ⟨w24.heap.size, 4, none⟩ = some (.int .i64 g4)) := fun W hW => by
        obtain ⟨p0, p1, p2, p3, p4⟩ := XA W (y2.then hW)
        obtain ⟨q0, q1, q2, q3, q4, _⟩ := (XR.quiet hW).cells
        exact ⟨p0, p1, p2, p3, p4, q0, q1, q2, q3, q4⟩
      have HR2 : Hid (∀ W, Keeps nobody (w24.alloc (.cells #[.int .i64 g0, .int .i64 g1, .int .i64 g2, .int .i64 g3, .int .i64 g4] 42)) W → Calls Try.prog 19 #[.agg #[.int .i64 g0, .int .i64 g1, .int .i64 g2, .int .i64 g3, .int .i64 g4]] W fun e w' => e = .returned (.agg #[.int .i64 g0, .int .i64 g1, .int .i64 g2, .int .i64 g3, .int .i64 g4]) ∧ Keeps nobody (w24.alloc (.cells #[.int .i64 g0, .int .i64 g1, .int .i64 g2, .int .i64 g3, .int .i64 g4] 42)) w') := fun W hW => (HR.out _ _ _ _ _ W).mono fun e w' h => ⟨h.1, hW.then h.2⟩
      have HB : Hid (∀ W, Keeps nobody (w24.alloc (.cells #[.int .i64 g0, .int .i64 g1, .int .i64 g2, .int .i64 g3, .int .i64 g4] 42)) W → Calls Try.prog 23 #[.pointer (some ⟨kb, 0, none⟩)] W fun e w' => e = .returned (.bool true) ∧ Below w.heap.size w w') := fun W hW => book_apart (H24.out.quiet hW) (kb := kb) (fv := fv0) (wv := wv0) (fs := fs) (ws := ws) (by simp) hn
      clear XA XR y2 k23 k24 H23 H24
      go_wp2_with fail
      obtain ⟨p0, p1, p2, p3, p4, q0, q1, q2, q3, q4⟩ := HD.out _ (Keeps.refl _ _).drew
      refine wp_region_any (by kernel_rfl) ?_
      simp only [World.drew_eq]
      refine wpAny_ready (rs := [0, 2]) (by kernel_rfl) (by simp) ?_
      refine AllReady.cons rfl (fun K' hK => ?_) (AllReady.cons rfl (fun K' hK => ?_) AllReady.nil)
      · rw [if_pos (by kernel_rfl)]
        go_simp
        refine hK _ _ ?_
        clear hK
        refine wpAny_ready (rs := [1, 2]) (by kernel_rfl) (by simp) ?_
        refine AllReady.cons rfl (fun K' hK => ?_) (AllReady.cons rfl (fun K' hK => ?_) AllReady.nil)
        · rw [if_pos (by kernel_rfl)]
          go_simp
          go_at_call 19
          refine Calls.mono (HR2.out _ (by exact (Keeps.refl _ _).drew)) ?_
          rintro e wq ⟨rfl, kq⟩
          refine hK _ _ ?_
          clear hK
          clear p0 p1 p2 p3 p4 q0 q1 q2 q3 q4
          obtain ⟨p0, p1, p2, p3, p4, q0, q1, q2, q3, q4⟩ := HD.out _ kq
          refine wpAny_ready (rs := [2]) (by kernel_rfl) (by simp) ?_
          refine AllReady.cons rfl (fun K' hK => ?_) AllReady.nil
          rw [if_pos (by kernel_rfl)]
          go_simp
          refine hK _ _ ?_
          clear hK
          refine wpAny_take (i := 3) (v := .bool true) rfl (by kernel_rfl) (by kernel_rfl) (by kernel_rfl) (fun _ _ _ h => h) (Or.inl ⟨by kernel_rfl, ?_⟩) ?_
          · intro w0; go_simp
          simp only [Act.put, List.getElem_toArray, List.getElem_cons_succ, List.getElem_cons_zero, List.setIfInBounds_toArray, List.set_cons_zero, List.set_cons_succ]
          refine wpAny_take (i := 4) (v := .bool true) rfl (by kernel_rfl) (by kernel_rfl) (by kernel_rfl) (fun _ _ _ h => h) (Or.inl ⟨by kernel_rfl, ?_⟩) ?_
          · intro w0; go_simp
          simp only [Act.put, List.getElem_toArray, List.getElem_cons_succ, List.getElem_cons_zero, List.setIfInBounds_toArray, List.set_cons_zero, List.set_cons_succ]
          refine wpAny_take (i := 5) (v := .int .i64 rc) rfl (by kernel_rfl) (by kernel_rfl) (by kernel_rfl) (fun _ _ _ h => h) (Or.inl ⟨by kernel_rfl, ?_⟩) ?_
          · intro w0; go_simp
          simp only [Act.put, List.getElem_toArray, List.getElem_cons_succ, List.getElem_cons_zero, List.setIfInBounds_toArray, List.set_cons_zero, List.set_cons_succ]
          refine wpAny_take (i := 6) (v := .int .i64 rc) rfl (by kernel_rfl) (by kernel_rfl) (by kernel_rfl) (fun _ _ _ h => h) (Or.inl ⟨by kernel_rfl, ?_⟩) ?_
          · intro w0; go_simp
          simp only [Act.put, List.getElem_toArray, List.getElem_cons_succ, List.getElem_cons_zero, List.setIfInBounds_toArray, List.set_cons_zero, List.set_cons_succ]
          refine wpAny_take (i := 7) (v := .bool true) rfl (by kernel_rfl) (by kernel_rfl) (by kernel_rfl) (fun _ _ _ h => h) (Or.inl ⟨by kernel_rfl, ?_⟩) ?_
          · intro w0; go_simp
          simp only [Act.put, List.getElem_toArray, List.getElem_cons_succ, List.getElem_cons_zero, List.setIfInBounds_toArray, List.set_cons_zero, List.set_cons_succ]
          refine wpAny_take (i := 8) (v := .bool true) rfl (by kernel_rfl) (by kernel_rfl) (by kernel_rfl) (fun _ _ _ h => h) (Or.inl ⟨by kernel_rfl, ?_⟩) ?_
          · intro w0; go_simp
          simp only [Act.put, List.getElem_toArray, List.getElem_cons_succ, List.getElem_cons_zero, List.setIfInBounds_toArray, List.set_cons_zero, List.set_cons_succ]
          refine wpAny_take (i := 9) (v := .bool true) rfl (by kernel_rfl) (by kernel_rfl) (by kernel_rfl) (fun _ _ _ h => h) (Or.inl ⟨by kernel_rfl, ?_⟩) ?_
          · intro w0; go_simp
          simp only [Act.put, List.getElem_toArray, List.getElem_cons_succ, List.getElem_cons_zero, List.setIfInBounds_toArray, List.set_cons_zero, List.set_cons_succ]
          refine wpAny_take (i := 10) (v := .int .i64 re) rfl (by kernel_rfl) (by kernel_rfl) (by kernel_rfl) (fun _ _ _ h => h) (Or.inl ⟨by kernel_rfl, ?_⟩) ?_
          · intro w0; go_simp
          simp only [Act.put, List.getElem_toArray, List.getElem_cons_succ, List.getElem_cons_zero, List.setIfInBounds_toArray, List.set_cons_zero, List.set_cons_succ]
          refine wpAny_take (i := 11) (v := .int .i64 re) rfl (by kernel_rfl) (by kernel_rfl) (by kernel_rfl) (fun _ _ _ h => h) (Or.inl ⟨by kernel_rfl, ?_⟩) ?_
          · intro w0; go_simp
          simp only [Act.put, List.getElem_toArray, List.getElem_cons_succ, List.getElem_cons_zero, List.setIfInBounds_toArray, List.set_cons_zero, List.set_cons_succ]
          refine wpAny_take (i := 12) (v := .bool true) rfl (by kernel_rfl) (by kernel_rfl) (by kernel_rfl) (fun _ _ _ h => h) (Or.inl ⟨by kernel_rfl, ?_⟩) ?_
          · intro w0; go_simp
          simp only [Act.put, List.getElem_toArray, List.getElem_cons_succ, List.getElem_cons_zero, List.setIfInBounds_toArray, List.set_cons_zero, List.set_cons_succ]
          refine wpAny_take (i := 13) (v := .bool true) rfl (by kernel_rfl) (by kernel_rfl) (by kernel_rfl) (fun _ _ _ h => h) (Or.inl ⟨by kernel_rfl, ?_⟩) ?_
          · intro w0; go_simp
          simp only [Act.put, List.getElem_toArray, List.getElem_cons_succ, List.getElem_cons_zero, List.setIfInBounds_toArray, List.set_cons_zero, List.set_cons_succ]
          refine wpAny_take (i := 14) (v := .bool true) rfl (by kernel_rfl) (by kernel_rfl) (by kernel_rfl) (fun _ _ _ h => h) (Or.inl ⟨by kernel_rfl, ?_⟩) ?_
          · intro w0; go_simp
          simp only [Act.put, List.getElem_toArray, List.getElem_cons_succ, List.getElem_cons_zero, List.setIfInBounds_toArray, List.set_cons_zero, List.set_cons_succ]
          refine wpAny_take (i := 15) (v := .pointer (some ⟨kb, 0, none⟩)) rfl (by kernel_rfl) (by kernel_rfl) (by kernel_rfl) (fun _ _ _ h => h) (Or.inl ⟨by kernel_rfl, ?_⟩) ?_
          · intro w0; go_simp
          simp only [Act.put, List.getElem_toArray, List.getElem_cons_succ, List.getElem_cons_zero, List.setIfInBounds_toArray, List.set_cons_zero, List.set_cons_succ]
          refine wpAny_ready (rs := [16]) (by kernel_rfl) (by simp) ?_
          refine AllReady.cons rfl (fun K' hK => ?_) AllReady.nil
          rw [if_pos (by kernel_rfl)]
          go_simp
          go_at_call 23
          refine Calls.mono (HB.out _ kq) ?_
          rintro e wz ⟨rfl, hB⟩
          refine hK _ _ ?_
          clear hK
          refine wpAny_take (i := 17) (v := .bool true) rfl (by kernel_rfl) (by kernel_rfl) (by kernel_rfl) (fun _ _ _ h => h) (Or.inl ⟨by kernel_rfl, ?_⟩) ?_
          · intro w0; go_simp
          simp only [Act.put, List.getElem_toArray, List.getElem_cons_succ, List.getElem_cons_zero, List.setIfInBounds_toArray, List.set_cons_zero, List.set_cons_succ]
          refine wpAny_take (i := 18) (v := .bool true) rfl (by kernel_rfl) (by kernel_rfl) (by kernel_rfl) (fun _ _ _ h => h) (Or.inl ⟨by kernel_rfl, ?_⟩) ?_
          · intro w0; go_simp
          simp only [Act.put, List.getElem_toArray, List.getElem_cons_succ, List.getElem_cons_zero, List.setIfInBounds_toArray, List.set_cons_zero, List.set_cons_succ]
          refine wpAny_done (by kernel_rfl) ?_ _
          go_wp2
          go_ret
          exact ⟨rfl, hB⟩
        · rw [if_pos (by kernel_rfl)]
          go_simp
          refine hK _ _ ?_
          clear hK
          refine wpAny_ready (rs := [1]) (by kernel_rfl) (by simp) ?_
          refine AllReady.cons rfl (fun K' hK => ?_) AllReady.nil
          rw [if_pos (by kernel_rfl)]
          go_simp
          go_at_call 19
          refine Calls.mono (HR2.out _ (by exact (Keeps.refl _ _).drew)) ?_
          rintro e wq ⟨rfl, kq⟩
          refine hK _ _ ?_
          clear hK
          refine wpAny_take (i := 3) (v := .bool true) rfl (by kernel_rfl) (by kernel_rfl) (by kernel_rfl) (fun _ _ _ h => h) (Or.inl ⟨by kernel_rfl, ?_⟩) ?_
          · intro w0; go_simp
          simp only [Act.put, List.getElem_toArray, List.getElem_cons_succ, List.getElem_cons_zero, List.setIfInBounds_toArray, List.set_cons_zero, List.set_cons_succ]
          refine wpAny_take (i := 4) (v := .bool true) rfl (by kernel_rfl) (by kernel_rfl) (by kernel_rfl) (fun _ _ _ h => h) (Or.inl ⟨by kernel_rfl, ?_⟩) ?_
          · intro w0; go_simp
          simp only [Act.put, List.getElem_toArray, List.getElem_cons_succ, List.getElem_cons_zero, List.setIfInBounds_toArray, List.set_cons_zero, List.set_cons_succ]
          refine wpAny_take (i := 5) (v := .int .i64 rc) rfl (by kernel_rfl) (by kernel_rfl) (by kernel_rfl) (fun _ _ _ h => h) (Or.inl ⟨by kernel_rfl, ?_⟩) ?_
          · intro w0; go_simp
          simp only [Act.put, List.getElem_toArray, List.getElem_cons_succ, List.getElem_cons_zero, List.setIfInBounds_toArray, List.set_cons_zero, List.set_cons_succ]
          refine wpAny_take (i := 6) (v := .int .i64 rc) rfl (by kernel_rfl) (by kernel_rfl) (by kernel_rfl) (fun _ _ _ h => h) (Or.inl ⟨by kernel_rfl, ?_⟩) ?_
          · intro w0; go_simp
          simp only [Act.put, List.getElem_toArray, List.getElem_cons_succ, List.getElem_cons_zero, List.setIfInBounds_toArray, List.set_cons_zero, List.set_cons_succ]
          refine wpAny_take (i := 7) (v := .bool true) rfl (by kernel_rfl) (by kernel_rfl) (by kernel_rfl) (fun _ _ _ h => h) (Or.inl ⟨by kernel_rfl, ?_⟩) ?_
          · intro w0; go_simp
          simp only [Act.put, List.getElem_toArray, List.getElem_cons_succ, List.getElem_cons_zero, List.setIfInBounds_toArray, List.set_cons_zero, List.set_cons_succ]
          refine wpAny_take (i := 8) (v := .bool true) rfl (by kernel_rfl) (by kernel_rfl) (by kernel_rfl) (fun _ _ _ h => h) (Or.inl ⟨by kernel_rfl, ?_⟩) ?_
          · intro w0; go_simp
          simp only [Act.put, List.getElem_toArray, List.getElem_cons_succ, List.getElem_cons_zero, List.setIfInBounds_toArray, List.set_cons_zero, List.set_cons_succ]
          refine wpAny_take (i := 9) (v := .bool true) rfl (by kernel_rfl) (by kernel_rfl) (by kernel_rfl) (fun _ _ _ h => h) (Or.inl ⟨by kernel_rfl, ?_⟩) ?_
          · intro w0; go_simp
          simp only [Act.put, List.getElem_toArray, List.getElem_cons_succ, List.getElem_cons_zero, List.setIfInBounds_toArray, List.set_cons_zero, List.set_cons_succ]
          refine wpAny_take (i := 10) (v := .int .i64 re) rfl (by kernel_rfl) (by kernel_rfl) (by kernel_rfl) (fun _ _ _ h => h) (Or.inl ⟨by kernel_rfl, ?_⟩) ?_
          · intro w0; go_simp
          simp only [Act.put, List.getElem_toArray, List.getElem_cons_succ, List.getElem_cons_zero, List.setIfInBounds_toArray, List.set_cons_zero, List.set_cons_succ]
          refine wpAny_take (i := 11) (v := .int .i64 re) rfl (by kernel_rfl) (by kernel_rfl) (by kernel_rfl) (fun _ _ _ h => h) (Or.inl ⟨by kernel_rfl, ?_⟩) ?_
          · intro w0; go_simp
          simp only [Act.put, List.getElem_toArray, List.getElem_cons_succ, List.getElem_cons_zero, List.setIfInBounds_toArray, List.set_cons_zero, List.set_cons_succ]
          refine wpAny_take (i := 12) (v := .bool true) rfl (by kernel_rfl) (by kernel_rfl) (by kernel_rfl) (fun _ _ _ h => h) (Or.inl ⟨by kernel_rfl, ?_⟩) ?_
          · intro w0; go_simp
          simp only [Act.put, List.getElem_toArray, List.getElem_cons_succ, List.getElem_cons_zero, List.setIfInBounds_toArray, List.set_cons_zero, List.set_cons_succ]
          refine wpAny_take (i := 13) (v := .bool true) rfl (by kernel_rfl) (by kernel_rfl) (by kernel_rfl) (fun _ _ _ h => h) (Or.inl ⟨by kernel_rfl, ?_⟩) ?_
          · intro w0; go_simp
          simp only [Act.put, List.getElem_toArray, List.getElem_cons_succ, List.getElem_cons_zero, List.setIfInBounds_toArray, List.set_cons_zero, List.set_cons_succ]
          refine wpAny_take (i := 14) (v := .bool true) rfl (by kernel_rfl) (by kernel_rfl) (by kernel_rfl) (fun _ _ _ h => h) (Or.inl ⟨by kernel_rfl, ?_⟩) ?_
          · intro w0; go_simp
          simp only [Act.put, List.getElem_toArray, List.getElem_cons_succ, List.getElem_cons_zero, List.setIfInBounds_toArray, List.set_cons_zero, List.set_cons_succ]
          refine wpAny_take (i := 15) (v := .pointer (some ⟨kb, 0, none⟩)) rfl (by kernel_rfl) (by kernel_rfl) (by kernel_rfl) (fun _ _ _ h => h) (Or.inl ⟨by kernel_rfl, ?_⟩) ?_
          · intro w0; go_simp
          simp only [Act.put, List.getElem_toArray, List.getElem_cons_succ, List.getElem_cons_zero, List.setIfInBounds_toArray, List.set_cons_zero, List.set_cons_succ]
          refine wpAny_ready (rs := [16]) (by kernel_rfl) (by simp) ?_
          refine AllReady.cons rfl (fun K' hK => ?_) AllReady.nil
          rw [if_pos (by kernel_rfl)]
          go_simp
          go_at_call 23
          refine Calls.mono (HB.out _ kq) ?_
          rintro e wz ⟨rfl, hB⟩
          refine hK _ _ ?_
          clear hK
          refine wpAny_take (i := 17) (v := .bool true) rfl (by kernel_rfl) (by kernel_rfl) (by kernel_rfl) (fun _ _ _ h => h) (Or.inl ⟨by kernel_rfl, ?_⟩) ?_
          · intro w0; go_simp
          simp only [Act.put, List.getElem_toArray, List.getElem_cons_succ, List.getElem_cons_zero, List.setIfInBounds_toArray, List.set_cons_zero, List.set_cons_succ]
          refine wpAny_take (i := 18) (v := .bool true) rfl (by kernel_rfl) (by kernel_rfl) (by kernel_rfl) (fun _ _ _ h => h) (Or.inl ⟨by kernel_rfl, ?_⟩) ?_
          · intro w0; go_simp
          simp only [Act.put, List.getElem_toArray, List.getElem_cons_succ, List.getElem_cons_zero, List.setIfInBounds_toArray, List.set_cons_zero, List.set_cons_succ]
          refine wpAny_done (by kernel_rfl) ?_ _
          go_wp2
          go_ret
          exact ⟨rfl, hB⟩
      · rw [if_pos (by kernel_rfl)]
        go_simp
        refine hK _ _ ?_
        clear hK
        refine wpAny_ready (rs := [0]) (by kernel_rfl) (by simp) ?_
        refine AllReady.cons rfl (fun K' hK => ?_) AllReady.nil
        rw [if_pos (by kernel_rfl)]
        go_simp
        refine hK _ _ ?_
        clear hK
        refine wpAny_ready (rs := [1]) (by kernel_rfl) (by simp) ?_
        refine AllReady.cons rfl (fun K' hK => ?_) AllReady.nil
        rw [if_pos (by kernel_rfl)]
        go_simp
        go_at_call 19
        refine Calls.mono (HR2.out _ (by exact (Keeps.refl _ _).drew)) ?_
        rintro e wq ⟨rfl, kq⟩
        refine hK _ _ ?_
        clear hK
        refine wpAny_take (i := 3) (v := .bool true) rfl (by kernel_rfl) (by kernel_rfl) (by kernel_rfl) (fun _ _ _ h => h) (Or.inl ⟨by kernel_rfl, ?_⟩) ?_
        · intro w0; go_simp
        simp only [Act.put, List.getElem_toArray, List.getElem_cons_succ, List.getElem_cons_zero, List.setIfInBounds_toArray, List.set_cons_zero, List.set_cons_succ]
        refine wpAny_take (i := 4) (v := .bool true) rfl (by kernel_rfl) (by kernel_rfl) (by kernel_rfl) (fun _ _ _ h => h) (Or.inl ⟨by kernel_rfl, ?_⟩) ?_
        · intro w0; go_simp
        simp only [Act.put, List.getElem_toArray, List.getElem_cons_succ, List.getElem_cons_zero, List.setIfInBounds_toArray, List.set_cons_zero, List.set_cons_succ]
        refine wpAny_take (i := 5) (v := .int .i64 rc) rfl (by kernel_rfl) (by kernel_rfl) (by kernel_rfl) (fun _ _ _ h => h) (Or.inl ⟨by kernel_rfl, ?_⟩) ?_
        · intro w0; go_simp
        simp only [Act.put, List.getElem_toArray, List.getElem_cons_succ, List.getElem_cons_zero, List.setIfInBounds_toArray, List.set_cons_zero, List.set_cons_succ]
        refine wpAny_take (i := 6) (v := .int .i64 rc) rfl (by kernel_rfl) (by kernel_rfl) (by kernel_rfl) (fun _ _ _ h => h) (Or.inl ⟨by kernel_rfl, ?_⟩) ?_
        · intro w0; go_simp
        simp only [Act.put, List.getElem_toArray, List.getElem_cons_succ, List.getElem_cons_zero, List.setIfInBounds_toArray, List.set_cons_zero, List.set_cons_succ]
        refine wpAny_take (i := 7) (v := .bool true) rfl (by kernel_rfl) (by kernel_rfl) (by kernel_rfl) (fun _ _ _ h => h) (Or.inl ⟨by kernel_rfl, ?_⟩) ?_
        · intro w0; go_simp
        simp only [Act.put, List.getElem_toArray, List.getElem_cons_succ, List.getElem_cons_zero, List.setIfInBounds_toArray, List.set_cons_zero, List.set_cons_succ]
        refine wpAny_take (i := 8) (v := .bool true) rfl (by kernel_rfl) (by kernel_rfl) (by kernel_rfl) (fun _ _ _ h => h) (Or.inl ⟨by kernel_rfl, ?_⟩) ?_
        · intro w0; go_simp
        simp only [Act.put, List.getElem_toArray, List.getElem_cons_succ, List.getElem_cons_zero, List.setIfInBounds_toArray, List.set_cons_zero, List.set_cons_succ]
        refine wpAny_take (i := 9) (v := .bool true) rfl (by kernel_rfl) (by kernel_rfl) (by kernel_rfl) (fun _ _ _ h => h) (Or.inl ⟨by kernel_rfl, ?_⟩) ?_
        · intro w0; go_simp
        simp only [Act.put, List.getElem_toArray, List.getElem_cons_succ, List.getElem_cons_zero, List.setIfInBounds_toArray, List.set_cons_zero, List.set_cons_succ]
        refine wpAny_take (i := 10) (v := .int .i64 re) rfl (by kernel_rfl) (by kernel_rfl) (by kernel_rfl) (fun _ _ _ h => h) (Or.inl ⟨by kernel_rfl, ?_⟩) ?_
        · intro w0; go_simp
        simp only [Act.put, List.getElem_toArray, List.getElem_cons_succ, List.getElem_cons_zero, List.setIfInBounds_toArray, List.set_cons_zero, List.set_cons_succ]
        refine wpAny_take (i := 11) (v := .int .i64 re) rfl (by kernel_rfl) (by kernel_rfl) (by kernel_rfl) (fun _ _ _ h => h) (Or.inl ⟨by kernel_rfl, ?_⟩) ?_
        · intro w0; go_simp
        simp only [Act.put, List.getElem_toArray, List.getElem_cons_succ, List.getElem_cons_zero, List.setIfInBounds_toArray, List.set_cons_zero, List.set_cons_succ]
        refine wpAny_take (i := 12) (v := .bool true) rfl (by kernel_rfl) (by kernel_rfl) (by kernel_rfl) (fun _ _ _ h => h) (Or.inl ⟨by kernel_rfl, ?_⟩) ?_
        · intro w0; go_simp
        simp only [Act.put, List.getElem_toArray, List.getElem_cons_succ, List.getElem_cons_zero, List.setIfInBounds_toArray, List.set_cons_zero, List.set_cons_succ]
        refine wpAny_take (i := 13) (v := .bool true) rfl (by kernel_rfl) (by kernel_rfl) (by kernel_rfl) (fun _ _ _ h => h) (Or.inl ⟨by kernel_rfl, ?_⟩) ?_
        · intro w0; go_simp
        simp only [Act.put, List.getElem_toArray, List.getElem_cons_succ, List.getElem_cons_zero, List.setIfInBounds_toArray, List.set_cons_zero, List.set_cons_succ]
        refine wpAny_take (i := 14) (v := .bool true) rfl (by kernel_rfl) (by kernel_rfl) (by kernel_rfl) (fun _ _ _ h => h) (Or.inl ⟨by kernel_rfl, ?_⟩) ?_
        · intro w0; go_simp
        simp only [Act.put, List.getElem_toArray, List.getElem_cons_succ, List.getElem_cons_zero, List.setIfInBounds_toArray, List.set_cons_zero, List.set_cons_succ]
        refine wpAny_take (i := 15) (v := .pointer (some ⟨kb, 0, none⟩)) rfl (by kernel_rfl) (by kernel_rfl) (by kernel_rfl) (fun _ _ _ h => h) (Or.inl ⟨by kernel_rfl, ?_⟩) ?_
        · intro w0; go_simp
        simp only [Act.put, List.getElem_toArray, List.getElem_cons_succ, List.getElem_cons_zero, List.setIfInBounds_toArray, List.set_cons_zero, List.set_cons_succ]
        refine wpAny_ready (rs := [16]) (by kernel_rfl) (by simp) ?_
        refine AllReady.cons rfl (fun K' hK => ?_) AllReady.nil
        rw [if_pos (by kernel_rfl)]
        go_simp
        go_at_call 23
        refine Calls.mono (HB.out _ kq) ?_
        rintro e wz ⟨rfl, hB⟩
        refine hK _ _ ?_
        clear hK
        refine wpAny_take (i := 17) (v := .bool true) rfl (by kernel_rfl) (by kernel_rfl) (by kernel_rfl) (fun _ _ _ h => h) (Or.inl ⟨by kernel_rfl, ?_⟩) ?_
        · intro w0; go_simp
        simp only [Act.put, List.getElem_toArray, List.getElem_cons_succ, List.getElem_cons_zero, List.setIfInBounds_toArray, List.set_cons_zero, List.set_cons_succ]
        refine wpAny_take (i := 18) (v := .bool true) rfl (by kernel_rfl) (by kernel_rfl) (by kernel_rfl) (fun _ _ _ h => h) (Or.inl ⟨by kernel_rfl, ?_⟩) ?_
        · intro w0; go_simp
        simp only [Act.put, List.getElem_toArray, List.getElem_cons_succ, List.getElem_cons_zero, List.setIfInBounds_toArray, List.set_cons_zero, List.set_cons_succ]
        refine wpAny_done (by kernel_rfl) ?_ _
        go_wp2
        go_ret
        exact ⟨rfl, hB⟩
set_option maxRecDepth 100000 in
theorem tells_walk (a : Option Addr) (cap : Nat) (l : List Pf) (b : ByteArray) (window : Int) (w : World) (h : Prs w a cap l) (hbs : b.size ≤ 140737488355328) : Calls Try.prog 3 #[.slice a l.length cap, .string b, .int .i64 window] w (Fine w) := by
  by_cases hl : l.length > 40
  · have HL := hid alive_ok
    obtain ⟨hp, hc1, hc2⟩ := h
    unfold maxLen at hc2
    clear hp
    go_enter Try.func3, Try.ntmps3
    go_wp2_with fail
    refine Calls.mono (HL.out _) ?_
    rintro e w1 ⟨rfl, k1⟩
    go_wp2
    go_ret
    exact ⟨rfl, below_of_keeps k1⟩
  by_cases hb : b.size > 400
  · have HL := hid alive_ok
    obtain ⟨hp, hc1, hc2⟩ := h
    unfold maxLen at hc2
    clear hp
    go_enter Try.func3, Try.ntmps3
    go_wp2_with fail
    refine Calls.mono (HL.out _) ?_
    rintro e w1 ⟨rfl, k1⟩
    go_wp2
    go_ret
    exact ⟨rfl, below_of_keeps k1⟩
  by_cases hin : allIn l
  · exact tells_yes a cap l b window w h hl hb hin
  · exact tells_no a cap l b window w h hl hb hin
end Go.Proofs.Ytkjdklcmaomjnaa
