/-
  errors.Is over an error at a plain target of a code that is not OK; package fail's Has.
-/
import Derived.Test.YthgcbgdafoiacaaFmtECode
import Derived.Deep.LoopGhost
namespace Go.Proofs.YthgcbgdafoiacaaFmt
open Go.RowKit Go.Extern.Stop Go.Stop Go.Extern

theorem Keeps.drewN {S : Nat → Prop} {a b : World} (h : Keeps S a b) (n : Nat) : Keeps S a (b.drewN n) := ⟨h.os, h.tape, h.output, h.size, h.block⟩
set_option maxRecDepth 100000 in
set_option maxHeartbeats 1000000 in
/-- f.Is(target), target a plain failure of the code t. -/
theorem isM_any (b tb : Nat) (op : ByteArray) (c t : Int) (v : Value) (w : World) (hb : w.heap[b]? = some (flObj op c v)) (ht : w.heap[tb]? = some (flObj ⟨#[]⟩ t .nilIface)) :
    Calls Tryf.prog 51 #[.pointer (some ⟨b, 0, none⟩), flV tb] w fun e w' => e = .returned (.bool (t == c && c != 0)) ∧ Keeps nobody w w' := by
  have c1 := cells_of hb 1 _ rfl
  have t0 := cells_of ht 0 _ rfl
  have t1 := cells_of ht 1 _ rfl
  have t2 := cells_of ht 2 _ rfl
  have hA := fl_assert
  clear hb ht
  cases h1 : (t == c)
  · go_enter Tryf.func51, Tryf.ntmps51
    go_wp2
    go_quiet (fail)
    go_wp2
    go_ret
    exact ⟨by simp, (Keeps.refl _ _).drewN _⟩
  · cases h2 : (c != 0)
    · go_enter Tryf.func51, Tryf.ntmps51
      go_wp2
      go_quiet (fail)
      go_wp2
      go_ret
      exact ⟨by simp, (Keeps.refl _ _).drewN _⟩
    · go_enter Tryf.func51, Tryf.ntmps51
      go_wp2
      go_quiet (fail)
      go_wp2
      go_ret
      exact ⟨by simp, (Keeps.refl _ _).drewN _⟩
theorem compP : (Tryf.prog.info? 43).map (·.comparable) = some true := by kernel_rfl
theorem sizeP : (Tryf.prog.info? 45).map (·.size) = some 3 := by kernel_rfl
theorem ne_wr (vx vy : Value) (w : World) : (binOp .eql 26 (.iface 48 vx) (.iface 43 vy)).run Tryf.prog w = .ok (.bool false) w := run_eql_iface_types _ _ vx vy Tryf.underlying26 (by decide) w
theorem ne_jn (vx vy : Value) (w : World) : (binOp .eql 26 (.iface 50 vx) (.iface 43 vy)).run Tryf.prog w = .ok (.bool false) w := run_eql_iface_types _ _ vx vy Tryf.underlying26 (by decide) w
theorem ne_pl (vx vy : Value) (w : World) : (binOp .eql 26 (.iface 59 vx) (.iface 43 vy)).run Tryf.prog w = .ok (.bool false) w := run_eql_iface_types _ _ vx vy Tryf.underlying26 (by decide) w
theorem ret_bool {a b : Bool} (h : a = b) : Ending.returned (.bool a) = .returned (.bool b) := by rw [h]

set_option maxRecDepth 100000 in
set_option maxHeartbeats 4000000 in
theorem is_ok (q : Int) (hq : (q != 0) = true) (n : Nat) : ∀ (t : Er) (v : Value) (w0 w : World) (tb : Nat), t.deep ≤ n → t.isNil = false → Err w0 v t → Keeps nobody w0 w → w0.heap.size ≤ tb → w.heap[tb]? = some (flObj ⟨#[]⟩ q .nilIface) →
    Calls Tryf.prog 28 #[v, flV tb, .bool true] w fun e w' => e = .returned (.bool (t.has q)) ∧ Keeps nobody w w' := by
  induction n with
  | zero => intro t v w0 w tb hd hn; have := Er.deep_pos hn; omega
  | succ n ih =>
    intro t v w0 w tb hd hn hE hk0 htb ht
    have IH : Hid (∀ (t : Er) (v : Value) (w0 w : World) (tb : Nat), t.deep ≤ n → t.isNil = false → Err w0 v t → Keeps nobody w0 w → w0.heap.size ≤ tb → w.heap[tb]? = some (flObj ⟨#[]⟩ q .nilIface) →
      Calls Tryf.prog 28 #[v, flV tb, .bool true] w fun e w' => e = .returned (.bool (t.has q)) ∧ Keeps nobody w w') := ih
    clear ih
    obtain ⟨i, hi, hcmp⟩ := Option.map_eq_some_iff.1 compP
    obtain ⟨j, hj, hjs⟩ := Option.map_eq_some_iff.1 sizeP
    go_enter Tryf.func28, Tryf.ntmps28
    go_wp2_with fail
    go_loopg [0] t.deep (fun k u wr => ∃ t', k = t'.deep ∧ t'.isNil = false ∧ Err w0 u t' ∧ t'.has q = t.has q ∧ t'.deep ≤ n + 1 ∧ Keeps nobody w wr)
    case atStart => exact ⟨t, rfl, hn, hE, rfl, hd, Keeps.refl _ _⟩
    case round =>
      obtain ⟨t', hg, hn', hE', hf, hd', hk⟩ := hrel
      have htw : wr.heap[tb]? = some (flObj ⟨#[]⟩ q .nilIface) := (hk.block tb (lt_of_heap ht) id).trans ht
      have hkk := hk0.then hk
      have HG : Hid (gk = t'.deep ∧ t'.deep ≤ n + 1 ∧ t'.has q = t.has q ∧ Keeps nobody w wr) := ⟨hg, hd', hf, hk⟩
      clear hg hf hE hn hd hd' hk hk0
      cases hE' with
      | nil => simp [Er.isNil] at hn'
      | @fl b op c v' e hb he =>
        have hI := fl_Is
        have hU := fl_U1
        have mI := fl_mIs
        have mU := fl_mUnwrap
        have hbl := lt_of_heap hb
        have hbw : wr.heap[b]? = some (flObj op c v') := (hkk.block b hbl id).trans hb
        have heql := run_eql_iface_ptr_other (P := Tryf.prog) (a := ⟨b, 0, none⟩) (b := ⟨tb, 0, none⟩) wr Tryf.underlying26 Tryf.underlying43 hi hcmp hj (by rw [hjs]; decide) (by intro e; injection e; omega) hbw htw
        have HM : Hid (Calls Tryf.prog 51 #[.pointer (some ⟨b, 0, none⟩), flV tb] wr fun e w' => e = .returned (.bool (q == c && c != 0)) ∧ Keeps nobody wr w') := isM_any b tb op c q v' wr hbw htw
        have HU : Hid (∀ w1, Keeps nobody wr w1 → Calls Tryf.prog 52 #[.pointer (some ⟨b, 0, none⟩)] w1 fun e w' => e = .returned v' ∧ w1 = w') := fun w1 h1 => flUnwrap b op c v' w1 ((h1.block b (lt_of_heap hbw) id).trans hbw)
        have hdec : (q == c && c != 0) = (q == c) := by
          cases hc : (q == c)
          · rfl
          · have : q = c := eq_of_beq hc
            subst this; simpa using hq
        rw [hdec] at HM
        clear hdec hbw htw hi hcmp hj hjs hb ht IH hq
        cases htc : (q == c) with
        | true =>
          rw [htc] at HM
          go_wp2_with fail
          refine Calls.mono HM.out ?_
          rintro e1 w1 ⟨rfl, k1⟩
          go_wp2_with fail
          go_ret
          obtain ⟨_, _, hf, hk⟩ := HG.out
          exact ⟨ret_bool (Eq.trans (by simp [Er.has, htc]) hf), hk.then k1⟩
        | false =>
          rw [htc] at HM
          go_wp2_with fail
          refine Calls.mono HM.out ?_
          rintro e1 w1 ⟨rfl, k1⟩
          go_wp2_with fail
          refine Calls.mono (HU.out w1 k1) ?_
          rintro e1 w2 ⟨rfl, rfl⟩
          clear HM HU heql
          cases hen : e.isNil with
          | true =>
            cases he with
            | nil =>
              go_wp2_with fail
              go_ret
              obtain ⟨_, _, hf, hk⟩ := HG.out
              exact ⟨ret_bool (Eq.trans (by simp [Er.has, htc]) hf), hk.then k1⟩
            | _ => simp [Er.isNil] at hen
          | false =>
            obtain ⟨T, x, rfl⟩ := he.some hen
            go_wp2_with fail
            obtain ⟨hg, hd, hf, hk⟩ := HG.out
            simp only [Er.deep] at hg hd
            go_roundg e.deep
            case measure => omega
            case rel => exact ⟨e, rfl, hen, he, Eq.trans (by simp [Er.has, htc]) hf, by omega, hk.then k1⟩
      | @pl b m hb =>
        have hne := ne_pl
        have a1 := pl_Is
        have a2 := pl_U1
        have a3 := pl_U2
        clear hi hcmp hj hjs hb ht IH hq htw
        go_wp2_with fail
        go_ret
        obtain ⟨_, _, hf, hk⟩ := HG.out
        exact ⟨ret_bool (Eq.trans rfl hf), hk⟩
      | @wr b m v' e hb hne' he =>
        have hne := ne_wr
        have a1 := wr_Is
        have a2 := wr_U1
        have mU := wr_mUnwrap
        have HU : Hid (Calls Tryf.prog 60 #[.pointer (some ⟨b, 0, none⟩)] wr fun e w' => e = .returned v' ∧ wr = w') := wrUnwrap b m v' wr ((hkk.block b (lt_of_heap hb) id).trans hb)
        clear hi hcmp hj hjs hb ht IH hq htw
        go_wp2_with fail
        refine Calls.mono HU.out ?_
        rintro e1 w1 ⟨rfl, rfl⟩
        obtain ⟨T, x, rfl⟩ := he.some hne'
        go_wp2_with fail
        obtain ⟨hg, hd, hf, hk⟩ := HG.out
        simp only [Er.deep] at hg hd
        go_roundg e.deep
        case measure => omega
        case rel => exact ⟨e, rfl, hne', he, hf, by omega, hk⟩
      | @j1 b g v' e hb hgb hne' he =>
        have hne := ne_jn
        have a1 := jn_Is
        have a2 := jn_U1
        have a3 := jn_U2
        have mU := jn_mUnwrap
        have HU : Hid (Calls Tryf.prog 62 #[.pointer (some ⟨b, 0, none⟩)] wr fun e w' => e = .returned (.slice (some ⟨g, 0, none⟩) 1 1) ∧ wr = w') := jnUnwrap b g 1 wr ((hkk.block b (lt_of_heap hb) id).trans hb)
        have cg := cells_of ((hkk.block g (lt_of_heap hgb) id).trans hgb) 0 v' rfl
        obtain ⟨T, x, rfl⟩ := he.some hne'
        have HR : Hid (Calls Tryf.prog 28 #[.iface T x, flV tb, .bool true] wr fun e1 w' => e1 = .returned (.bool (e.has q)) ∧ Keeps nobody wr w') := by
          obtain ⟨_, hd, _⟩ := HG.out
          simp only [Er.deep] at hd
          exact IH.out e _ w0 wr tb (by omega) hne' he hkk htb htw
        clear hi hcmp hj hjs hb ht IH hq htw hgb
        go_wp2_with fail
        refine Calls.mono HU.out ?_
        rintro e1 w1 ⟨rfl, rfl⟩
        cases hb2 : e.has q with
        | true =>
          rw [hb2] at HR
          go_wp2_with fail
          refine wp_loop_rounds 2 ?_
          rw [rounds_succ]
          go_wp2_with fail
          refine Calls.mono HR.out ?_
          rintro e1 w1 ⟨rfl, kF⟩
          go_wp2_with fail
          go_ret
          obtain ⟨_, _, hf, hk⟩ := HG.out
          exact ⟨ret_bool (Eq.trans (by simp [Er.has, hb2]) hf), hk.then kF⟩
        | false =>
          rw [hb2] at HR
          go_wp2_with fail
          refine wp_loop_rounds 2 ?_
          rw [rounds_succ]
          go_wp2_with fail
          refine Calls.mono HR.out ?_
          rintro e1 w1 ⟨rfl, kF⟩
          go_wp2_with fail
          rw [rounds_succ]
          go_wp2_with fail
          go_ret
          obtain ⟨_, _, hf, hk⟩ := HG.out
          exact ⟨ret_bool (Eq.trans (by simp [Er.has, hb2]) hf), hk.then kF⟩
      | @j2 b g k v' e c hb hgb hkb hne' he =>
        have hne := ne_jn
        have a1 := jn_Is
        have a2 := jn_U1
        have a3 := jn_U2
        have mU := jn_mUnwrap
        have HU : Hid (Calls Tryf.prog 62 #[.pointer (some ⟨b, 0, none⟩)] wr fun e w' => e = .returned (.slice (some ⟨g, 0, none⟩) 2 2) ∧ wr = w') := jnUnwrap b g 2 wr ((hkk.block b (lt_of_heap hb) id).trans hb)
        have hgw := (hkk.block g (lt_of_heap hgb) id).trans hgb
        have cg := cells_of hgw 0 v' rfl
        obtain ⟨T, x, rfl⟩ := he.some hne'
        have HR : Hid (Calls Tryf.prog 28 #[.iface T x, flV tb, .bool true] wr fun e1 w' => e1 = .returned (.bool (e.has q)) ∧ Keeps nobody wr w') := by
          obtain ⟨_, hd, _⟩ := HG.out
          simp only [Er.deep] at hd
          exact IH.out e _ w0 wr tb (by omega) hne' he hkk htb htw
        have HR2 : Hid (∀ w1, Keeps nobody wr w1 → w1.cell? ⟨g, 1, none⟩ = some (flV k) ∧ Calls Tryf.prog 28 #[flV k, flV tb, .bool true] w1 fun e1 w' => e1 = .returned (.bool (q == c)) ∧ Keeps nobody w1 w') := by
          intro w1 h1
          obtain ⟨_, hd, _⟩ := HG.out
          have hdp := Er.deep_pos hne'
          simp only [Er.deep] at hd
          have := IH.out (.fl ⟨#[]⟩ c .nil) (flV k) w0 w1 tb (by simp only [Er.deep]; omega) rfl (.fl hkb .nil) (hkk.then h1) htb ((h1.block tb (lt_of_heap htw) id).trans htw)
          simp only [Er.has, Bool.or_false] at this
          exact ⟨cells_of ((h1.block g (lt_of_heap hgw) id).trans hgw) 1 _ rfl, this⟩
        clear hi hcmp hj hjs hb ht IH hq htw hgb hkb hgw
        go_wp2_with fail
        refine Calls.mono HU.out ?_
        rintro e1 w1 ⟨rfl, rfl⟩
        cases hb2 : e.has q with
        | true =>
          rw [hb2] at HR
          go_wp2_with fail
          refine wp_loop_rounds 3 ?_
          rw [rounds_succ]
          go_wp2_with fail
          refine Calls.mono HR.out ?_
          rintro e1 w1 ⟨rfl, kF⟩
          go_wp2_with fail
          go_ret
          obtain ⟨_, _, hf, hk⟩ := HG.out
          exact ⟨ret_bool (Eq.trans (by simp [Er.has, hb2]) hf), hk.then kF⟩
        | false =>
          rw [hb2] at HR
          go_wp2_with fail
          refine wp_loop_rounds 3 ?_
          rw [rounds_succ]
          go_wp2_with fail
          refine Calls.mono HR.out ?_
          rintro e1 w1 ⟨rfl, kF⟩
          obtain ⟨cg1, HQ⟩ := HR2.out w1 kF
          cases hb3 : (q == c) with
          | true =>
            rw [hb3] at HQ
            have HQ2 := hid HQ
            clear HQ HR HR2 HU cg
            go_wp2_with fail
            rw [rounds_succ]
            go_wp2_with fail
            refine Calls.mono HQ2.out ?_
            rintro e1 w2 ⟨rfl, kF2⟩
            go_wp2_with fail
            go_ret
            obtain ⟨_, _, hf, hk⟩ := HG.out
            exact ⟨ret_bool (Eq.trans (by simp [Er.has, hb2, hb3]) hf), (hk.then kF).then kF2⟩
          | false =>
            rw [hb3] at HQ
            have HQ2 := hid HQ
            clear HQ HR HR2 HU cg
            go_wp2_with fail
            rw [rounds_succ]
            go_wp2_with fail
            refine Calls.mono HQ2.out ?_
            rintro e1 w2 ⟨rfl, kF2⟩
            go_wp2_with fail
            rw [rounds_succ]
            go_wp2_with fail
            go_ret
            obtain ⟨_, _, hf, hk⟩ := HG.out
            exact ⟨ret_bool (Eq.trans (by simp [Er.has, hb2, hb3]) hf), (hk.then kF).then kF2⟩
end Go.Proofs.YthgcbgdafoiacaaFmt
