/-
  errors.Is over an error at a plain target of a code that is not OK; package fail's Has.
-/
import Derived.Test.YtekjnicgffeghaaDoorECode
import Derived.Deep.LoopGhost
namespace Go.Proofs.YtekjnicgffeghaaDoor
open Go.RowKit Go.Extern.Stop Go.Stop Go.Extern

set_option maxRecDepth 100000 in
set_option maxHeartbeats 1000000 in
/-- f.Is(target), target a plain failure of the code t. -/
theorem isM_any (b tb : Nat) (op : ByteArray) (c t : Int) (v : Value) (w : World) (hb : w.heap[b]? = some (flObj op c v)) (ht : w.heap[tb]? = some (flObj ⟨#[]⟩ t .nilIface)) :
    Calls Tryd.prog 57 #[.pointer (some ⟨b, 0, none⟩), flV tb] w fun e w' => e = .returned (.bool (t == c && c != 0)) ∧ Keeps nobody w w' := by
  have c1 := cells_of hb 1 _ rfl
  have t0 := cells_of ht 0 _ rfl
  have t1 := cells_of ht 1 _ rfl
  have t2 := cells_of ht 2 _ rfl
  have hA := fl_assert
  clear hb ht
  cases h1 : (t == c)
  · go_enter Tryd.func57, Tryd.ntmps57
    go_wp2
    go_quiet (fail)
    go_wp2
    go_ret
    exact ⟨by simp, (Keeps.refl _ _).drewN _⟩
  · cases h2 : (c != 0)
    · go_enter Tryd.func57, Tryd.ntmps57
      go_wp2
      go_quiet (fail)
      go_wp2
      go_ret
      exact ⟨by simp, (Keeps.refl _ _).drewN _⟩
    · go_enter Tryd.func57, Tryd.ntmps57
      go_wp2
      go_quiet (fail)
      go_wp2
      go_ret
      exact ⟨by simp, (Keeps.refl _ _).drewN _⟩
theorem compP : (Tryd.prog.info? 30).map (·.comparable) = some true := by kernel_rfl
theorem sizeP : (Tryd.prog.info? 37).map (·.size) = some 3 := by kernel_rfl
theorem ne_pl (vx vy : Value) (w : World) : (binOp .eql 27 (.iface 67 vx) (.iface 30 vy)).run Tryd.prog w = .ok (.bool false) w := run_eql_iface_types _ _ vx vy Tryd.underlying27 (by decide) w
theorem ret_bool {a b : Bool} (h : a = b) : Ending.returned (.bool a) = .returned (.bool b) := by rw [h]

set_option maxRecDepth 100000 in
set_option maxHeartbeats 4000000 in
theorem is_ok (q : Int) (hq : (q != 0) = true) (n : Nat) : ∀ (t : Er) (v : Value) (w0 w : World) (tb : Nat), t.deep ≤ n → t.isNil = false → Err w0 v t → Keeps nobody w0 w → w0.heap.size ≤ tb → w.heap[tb]? = some (flObj ⟨#[]⟩ q .nilIface) →
    Calls Tryd.prog 32 #[v, flV tb, .bool true] w fun e w' => e = .returned (.bool (t.has q)) ∧ Keeps nobody w w' := by
  induction n with
  | zero => intro t v w0 w tb hd hn; have := Er.deep_pos hn; omega
  | succ n ih =>
    intro t v w0 w tb hd hn hE hk0 htb ht
    have IH : Hid (∀ (t : Er) (v : Value) (w0 w : World) (tb : Nat), t.deep ≤ n → t.isNil = false → Err w0 v t → Keeps nobody w0 w → w0.heap.size ≤ tb → w.heap[tb]? = some (flObj ⟨#[]⟩ q .nilIface) →
      Calls Tryd.prog 32 #[v, flV tb, .bool true] w fun e w' => e = .returned (.bool (t.has q)) ∧ Keeps nobody w w') := ih
    clear ih
    obtain ⟨i, hi, hcmp⟩ := Option.map_eq_some_iff.1 compP
    obtain ⟨j, hj, hjs⟩ := Option.map_eq_some_iff.1 sizeP
    go_enter Tryd.func32, Tryd.ntmps32
    go_wp2_with fail
    go_loopg [0] t.deep (fun k u wr => ∃ t', k = t'.deep ∧ t'.isNil = false ∧ Err w0 u t' ∧ t'.has q = t.has q ∧ t'.deep ≤ n + 1 ∧ Keeps nobody w wr)
    case atStart => exact ⟨t, rfl, hn, hE, rfl, hd, Keeps.refl _ _⟩
    case round =>
      obtain ⟨t', hg, hn', hE', hf, hd', hk⟩ := hrel
      have htw : wr.heap[tb]? = some (flObj ⟨#[]⟩ q .nilIface) := (hk.block tb (lt_of_heap ht) id).trans ht
      have hkk := hk0.then hk
      have HG : Hid (gk = t'.deep ∧ t'.deep ≤ n + 1 ∧ t'.has q = t.has q ∧ Keeps nobody w wr) := ⟨hg, hd', hf, hk⟩
      clear hg hf hE hn hd hd' hk hk0
      cases hE' with
      | nil => simp [Er.isNil] at hn'
      | @fl b op c v' e hb he =>
        have hI := fl_Is
        have hU := fl_U1
        have mI := fl_mIs
        have mU := fl_mUnwrap
        have hbl := lt_of_heap hb
        have hbw : wr.heap[b]? = some (flObj op c v') := (hkk.block b hbl id).trans hb
        have heql := run_eql_iface_ptr_other (P := Tryd.prog) (a := ⟨b, 0, none⟩) (b := ⟨tb, 0, none⟩) wr Tryd.underlying27 Tryd.underlying30 hi hcmp hj (by rw [hjs]; decide) (by intro e; injection e; omega) hbw htw
        have HM : Hid (Calls Tryd.prog 57 #[.pointer (some ⟨b, 0, none⟩), flV tb] wr fun e w' => e = .returned (.bool (q == c && c != 0)) ∧ Keeps nobody wr w') := isM_any b tb op c q v' wr hbw htw
        have HU : Hid (∀ w1, Keeps nobody wr w1 → Calls Tryd.prog 58 #[.pointer (some ⟨b, 0, none⟩)] w1 fun e w' => e = .returned v' ∧ w1 = w') := fun w1 h1 => flUnwrap b op c v' w1 ((h1.block b (lt_of_heap hbw) id).trans hbw)
        have hdec : (q == c && c != 0) = (q == c) := by
          cases hc : (q == c)
          · rfl
          · have : q = c := eq_of_beq hc
            subst this; simpa using hq
        rw [hdec] at HM
        clear hdec hbw htw hi hcmp hj hjs hb ht IH hq
        cases htc : (q == c) with
        | true =>
          rw [htc] at HM
          go_wp2_with fail
          refine Calls.mono HM.out ?_
          rintro e1 w1 ⟨rfl, k1⟩
          go_wp2_with fail
          go_ret
          obtain ⟨_, _, hf, hk⟩ := HG.out
          exact ⟨ret_bool (Eq.trans (by simp [Er.has, htc]) hf), hk.then k1⟩
        | false =>
          rw [htc] at HM
          go_wp2_with fail
          refine Calls.mono HM.out ?_
          rintro e1 w1 ⟨rfl, k1⟩
          go_wp2_with fail
          refine Calls.mono (HU.out w1 k1) ?_
          rintro e1 w2 ⟨rfl, rfl⟩
          clear HM HU heql
          cases hen : e.isNil with
          | true =>
            cases he with
            | nil =>
              go_wp2_with fail
              go_ret
              obtain ⟨_, _, hf, hk⟩ := HG.out
              exact ⟨ret_bool (Eq.trans (by simp [Er.has, htc]) hf), hk.then k1⟩
            | _ => simp [Er.isNil] at hen
          | false =>
            obtain ⟨T, x, rfl⟩ := he.some hen
            go_wp2_with fail
            obtain ⟨hg, hd, hf, hk⟩ := HG.out
            simp only [Er.deep] at hg hd
            go_roundg e.deep
            case measure => omega
            case rel => exact ⟨e, rfl, hen, he, Eq.trans (by simp [Er.has, htc]) hf, by omega, hk.then k1⟩
      | @pl b m hb =>
        have hne := ne_pl
        have a1 := pl_Is
        have a2 := pl_U1
        have a3 := pl_U2
        clear hi hcmp hj hjs hb ht IH hq htw
        go_wp2_with fail
        go_ret
        obtain ⟨_, _, hf, hk⟩ := HG.out
        exact ⟨ret_bool (Eq.trans rfl hf), hk⟩
end Go.Proofs.YtekjnicgffeghaaDoor
