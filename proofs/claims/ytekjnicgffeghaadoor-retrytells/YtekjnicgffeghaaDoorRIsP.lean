/-
  errors.Is over a chain of failures, at a plain error; errors.New.
-/
import Derived.Test.YtekjnicgffeghaaDoorRCode
import Derived.Deep.LoopGhost
namespace Go.Proofs.YtekjnicgffeghaaDoor
open Go.RowKit Go.Extern.Stop Go.Stop Go.Extern

/-- Failures alone. -/
def Er.flat : Er → Bool
  | nil => true
  | pl _ => false
  | fl _ _ e => e.flat
theorem errE_flat (c tries : Int) : (errE c tries).flat = true := by unfold errE callE; split <;> rfl
theorem errE_has (c tries : Int) : (errE c tries).has c = true := by unfold errE callE; split <;> simp [Er.has]
theorem errorsNew (s : ByteArray) (w : World) : Calls Tryd.prog 21 #[.string s] w fun e w' => e = .returned (svV ⟨w.heap.size, 0, none⟩) ∧ w' = w.alloc (plObj s) := by
  go_enter Tryd.func21, Tryd.ntmps21
  go_wp2
  go_ret
  exact ⟨rfl, rfl⟩
theorem isM_pl (b : Nat) (a : Addr) (w : World) : Calls Tryd.prog 57 #[.pointer (some ⟨b, 0, none⟩), svV a] w fun e w' => e = .returned (.bool false) ∧ w = w' := by
  have hA := pl_assert
  go_enter Tryd.func57, Tryd.ntmps57
  go_wp2_with fail
  go_ret
  exact ⟨rfl, rfl⟩
theorem ne_flpl (vx vy : Value) (w : World) : (binOp .eql 27 (.iface 30 vx) (.iface 67 vy)).run Tryd.prog w = .ok (.bool false) w := run_eql_iface_types _ _ vx vy Tryd.underlying27 (by decide) w
set_option maxRecDepth 100000 in
set_option maxHeartbeats 2000000 in
theorem isP_ok (t : Er) (v : Value) (w0 w : World) (a : Addr) (hn : t.isNil = false) (hf : t.flat = true) (hE : Err w0 v t) (hk0 : Keeps nobody w0 w) :
    Calls Tryd.prog 32 #[v, svV a, .bool true] w fun e w' => e = .returned (.bool false) ∧ Keeps nobody w w' := by
  go_enter Tryd.func32, Tryd.ntmps32
  go_wp2_with fail
  go_loopg [0] t.deep (fun k u wr => ∃ t', k = t'.deep ∧ t'.isNil = false ∧ t'.flat = true ∧ Err w0 u t' ∧ Keeps nobody w wr)
  case atStart => exact ⟨t, rfl, hn, hf, hE, Keeps.refl _ _⟩
  case round =>
    obtain ⟨t', hg, hn', hf', hE', hk⟩ := hrel
    have hkk := hk0.then hk
    have HG : Hid (gk = t'.deep ∧ Keeps nobody w wr) := ⟨hg, hk⟩
    clear hg hf hE hn hk hk0
    cases hE' with
    | nil => simp [Er.isNil] at hn'
    | @pl b m hb => simp [Er.flat] at hf'
    | @fl b op c v' e hb he =>
      have hI := fl_Is
      have hU := fl_U1
      have mI := fl_mIs
      have mU := fl_mUnwrap
      have hbw : wr.heap[b]? = some (flObj op c v') := (hkk.block b (lt_of_heap hb) id).trans hb
      have heql := ne_flpl
      have HM := hid (isM_pl b a wr)
      have HU := hid (flUnwrap b op c v' wr hbw)
      have HF : Hid (e.flat = true) := hf'
      clear hbw hb hf'
      go_wp2_with fail
      refine Calls.mono HM.out ?_
      rintro e1 w1 ⟨rfl, rfl⟩
      go_wp2_with fail
      refine Calls.mono HU.out ?_
      rintro e1 w2 ⟨rfl, rfl⟩
      clear HM HU heql
      cases hen : e.isNil with
      | true =>
        cases he with
        | nil =>
          go_wp2_with fail
          go_ret
          exact ⟨rfl, HG.out.2⟩
        | _ => simp [Er.isNil] at hen
      | false =>
        obtain ⟨T, x, rfl⟩ := he.some hen
        go_wp2_with fail
        obtain ⟨hg, hk⟩ := HG.out
        simp only [Er.deep] at hg
        go_roundg e.deep
        case measure => omega
        case rel => exact ⟨e, rfl, hen, HF.out, he, hk⟩
theorem errorsIsP_ok (t : Er) (v : Value) (w0 w : World) (a : Addr) (hn : t.isNil = false) (hf : t.flat = true) (hE : Err w0 v t) (hk0 : Keeps nobody w0 w) :
    Calls Tryd.prog 17 #[v, svV a] w fun e w' => e = .returned (.bool false) ∧ Keeps nobody w w' := by
  have HC := hid (isP_ok t v w0 w a hn hf hE hk0)
  have h8 := hTO
  have tT := typeOfPl
  have cT := comparableS
  have mR := methodComparable
  obtain ⟨T, x, rfl⟩ := hE.some hn
  clear hE hk0
  go_enter Tryd.func17, Tryd.ntmps17
  go_wp2_with fail
  refine Calls.mono HC.out ?_
  rintro e w' ⟨rfl, hB⟩
  go_wp2
  go_ret
  exact ⟨rfl, hB⟩
end Go.Proofs.YtekjnicgffeghaaDoor
