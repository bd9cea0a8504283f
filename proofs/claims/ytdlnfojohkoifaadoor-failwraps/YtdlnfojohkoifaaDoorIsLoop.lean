/-
  errors.Is over a chain of failures.
-/
import Derived.Test.YtdlnfojohkoifaaDoorIs
namespace Go.Proofs.YtdlnfojohkoifaaDoor
open Go.RowKit Go.Extern.Stop Go.Stop Go.Extern

theorem ret_bool {a b : Bool} (h : a = b) : Ending.returned (.bool a) = .returned (.bool b) := by rw [h]
set_option maxRecDepth 100000 in
set_option maxHeartbeats 1000000 in
theorem is_chain (v : Value) (tb : Nat) (t : Int) (l : List (ByteArray × Int)) (w0 w : World) (h : Chain w0 v l) (hne : l ≠ []) (ht0 : (t != 0) = true) (hk : Below w0.heap.size w0 w) (htb : w0.heap.size ≤ tb) (ht : w.heap[tb]? = some (.cells #[.string ⟨#[]⟩, .int .i64 t, .nilIface] 28 (0, 0))) :
    Calls Tryd.prog 35 #[v, .iface 24 (.pointer (some ⟨tb, 0, none⟩)), .bool true] w fun e w' => e = .returned (.bool (hasT t l)) ∧ Below w.heap.size w w' := by
  have hI := hasIs
  have hU := hasUnwrap
  have mI := methodIs
  have mU := methodUnwrap
  obtain ⟨i, hi, hcmp⟩ := Option.map_eq_some_iff.1 comp24
  obtain ⟨j, hj, hjs⟩ := Option.map_eq_some_iff.1 size28
  go_enter Tryd.func35, Tryd.ntmps35
  go_wp2_with fail
  go_loopg [0] l.length (fun k e wr => ∃ l', k = l'.length ∧ l' ≠ [] ∧ Chain w0 e l' ∧ hasT t l' = hasT t l ∧ Below w.heap.size w wr)
  case atStart => exact ⟨l, rfl, hne, h, rfl, Below.refl _ _⟩
  case round =>
    obtain ⟨l', hg, hne', hch, heq, hB⟩ := hrel
    cases hch with
    | nil => exact absurd rfl hne'
    | @cons b op c v' l2 hb htail =>
    have hbl := lt_of_heap hb
    have hbw : wr.heap[b]? = some (.cells #[.string op, .int .i64 c, v'] 28 (0, 0)) := by
      rw [hB.block b (by have := hk.size; omega), hk.block b hbl]; exact hb
    have htw : wr.heap[tb]? = some (.cells #[.string ⟨#[]⟩, .int .i64 t, .nilIface] 28 (0, 0)) := (hB.block tb (lt_of_heap ht)).trans ht
    have heql := run_eql_iface_ptr_other (P := Tryd.prog) (a := ⟨b, 0, none⟩) (b := ⟨tb, 0, none⟩) wr Tryd.underlying26 Tryd.underlying24 hi hcmp hj (by rw [hjs]; decide) (by intro e; injection e; omega) hbw htw
    have HM : Hid (Calls Tryd.prog 15 #[.pointer (some ⟨b, 0, none⟩), .iface 24 (.pointer (some ⟨tb, 0, none⟩))] wr fun e w' => e = .returned (.bool (t == c && c != 0)) ∧ ∃ n, w' = wr.drewN n) := isM_any b tb op c t v' wr hbw htw
    have HU : Hid (w0.heap[b]? = some (.cells #[.string op, .int .i64 c, v'] 28 (0, 0))) := hb
    have HE : Hid (hasT t ((op, c) :: l2) = hasT t l ∧ gk = ((op, c) :: l2).length) := ⟨heq, hg⟩
    clear heq hg hbw htw hi hcmp hj hjs hb
    have hdec : (t == c && c != 0) = (t == c) := by
      cases hq : (t == c)
      · rfl
      · have : t = c := eq_of_beq hq
        subst this; simpa using ht0
    rw [hdec] at HM
    clear hdec ht0
    cases htc : (t == c) with
    | true =>
      rw [htc] at HM
      go_wp2_with fail
      refine Calls.mono HM.out ?_
      rintro e w1 ⟨rfl, n, rfl⟩
      go_wp2_with fail
      go_ret
      obtain ⟨he, _⟩ := HE.out
      have : hasT t ((op, c) :: l2) = true := by simp [hasT, htc]
      exact ⟨ret_bool (this.symm.trans he), below_drewN hB n⟩
    | false =>
      rw [htc] at HM
      go_wp2_with fail
      refine Calls.mono HM.out ?_
      rintro e w1 ⟨rfl, n, rfl⟩
      go_wp2_with fail
      have hbn : (wr.drewN n).heap[b]? = some (.cells #[.string op, .int .i64 c, v'] 28 (0, 0)) := by
        rw [(below_drewN hB n).block b (by have := hk.size; omega), hk.block b hbl]; exact HU.out
      refine (unwrap_any b op c v' _ hbn).mono ?_
      rintro e w1 ⟨rfl, rfl⟩
      have hB2 := below_drewN hB n
      generalize wr.drewN n = w2 at *
      clear hbn heql HM HU
      cases htail with
      | nil =>
        go_wp2_with fail
        go_ret
        obtain ⟨he, _⟩ := HE.out
        have : hasT t [(op, c)] = false := by simp [hasT, htc]
        exact ⟨ret_bool (this.symm.trans he), hB2⟩
      | @cons b2 op2 c2 v2 l3 hb2 ht2 =>
        go_wp2_with fail
        obtain ⟨he, hl⟩ := HE.out
        go_roundg ((op2, c2) :: l3).length
        case measure => rw [hl]; simp
        case rel =>
          refine ⟨(op2, c2) :: l3, rfl, by simp, .cons hb2 ht2, ?_, hB2⟩
          rw [← he]; simp [hasT, htc]
end Go.Proofs.YtdlnfojohkoifaaDoor
