/-
  errors.As over an error, at a target that is the address of a *fail.Failure variable: the first failure is found.
-/
import Derived.Test.YtekjnicgffeghaaDoorEAsF
namespace Go.Proofs.YtekjnicgffeghaaDoor
open Go.RowKit Go.Extern.Stop Go.Stop Go.Extern

/-- The target holds a failure of the code. -/
def FoundAt (w : World) (tb : Nat) (c : Int) : Prop := ∃ b op v, w.heap[tb]? = some (.cells #[.pointer (some ⟨b, 0, none⟩)] 30 (0, 0)) ∧ w.heap[b]? = some (flObj op c v)
/-- What errors.As tells of an error. -/
def AsPost (t : Er) (tb : Nat) (w : World) (e : Ending) (w' : World) : Prop :=
  (∃ c, t.first = some c ∧ e = .returned (.bool true) ∧ FoundAt w' tb c ∧ Keeps (fun k => k = tb) w w') ∨ (t.first = none ∧ e = .returned (.bool false) ∧ Keeps nobody w w')
abbrev valObj (a : Nat) : Obj := .cells #[.pointer (some ⟨4, 35, none⟩), .pointer (some ⟨a, 0, none⟩), .int .u64 150] 54 (0, 0)

theorem stored {w : World} {tb b : Nat} {op : ByteArray} {c : Int} {v old : Value} (hb : w.heap[b]? = some (flObj op c v)) (ht : w.heap[tb]? = some (.cells #[old] 30 (0, 0))) : FoundAt (w.setCell ⟨tb, 0, none⟩ (.pointer (some ⟨b, 0, none⟩))) tb c := by
  have hne : b ≠ tb := by
    intro e
    subst e
    rw [hb] at ht
    simp at ht
  refine ⟨b, op, v, ?_, ?_⟩
  · simp only [World.setCell, Array.getElem?_modify, if_true]
    rw [ht]
    rfl
  · rw [Below.heap_setCell _ _ _ b hne]
    exact hb

set_option maxRecDepth 100000 in
set_option maxHeartbeats 4000000 in
theorem as_ok (n : Nat) : ∀ (t : Er) (v : Value) (w : World) (a tb : Nat) (old : Value), t.deep ≤ n → t.isNil = false → Err w v t → w.heap[a]? = some (.cells #[.pointer (some ⟨tb, 0, none⟩)] 35 (0, 0)) → w.heap[tb]? = some (.cells #[old] 30 (0, 0)) →
    Calls Tryd.prog 30 #[v, .iface 35 (.pointer (some ⟨tb, 0, none⟩)), ppV ⟨a, 0, none⟩, rtV 30] w (AsPost t tb w) := by
  induction n with
  | zero => intro t v w a tb old hd hn; have := Er.deep_pos hn; omega
  | succ n ih =>
    intro t v w a tb old hd hn hE ha ht
    have IH : Hid (∀ (t : Er) (v : Value) (w : World) (a tb : Nat) (old : Value), t.deep ≤ n → t.isNil = false → Err w v t → w.heap[a]? = some (.cells #[.pointer (some ⟨tb, 0, none⟩)] 35 (0, 0)) → w.heap[tb]? = some (.cells #[old] 30 (0, 0)) →
      Calls Tryd.prog 30 #[v, .iface 35 (.pointer (some ⟨tb, 0, none⟩)), ppV ⟨a, 0, none⟩, rtV 30] w (AsPost t tb w)) := ih
    clear ih
    have h1 := hTO
    have h2 := hTA
    have h3 := hVE
    have h4 := hVO
    have h5 := hVS
    have mA := methodAssignableTo
    go_enter Tryd.func30, Tryd.ntmps30
    go_wp2_with fail
    have HW : Hid ((w.alloc (valObj a)).heap[w.heap.size]? = some (valObj a) ∧ Keeps nobody w (w.alloc (valObj a))) := ⟨heap_alloc_new w _, keeps_alloc _ _⟩
    go_loopg [0] t.deep (fun k u wr => ∃ t', k = t'.deep ∧ t'.isNil = false ∧ Err w u t' ∧ t'.first = t.first ∧ t'.deep ≤ n + 1 ∧ Keeps nobody w wr ∧ wr.heap[w.heap.size]? = some (valObj a))
    case atStart => exact ⟨t, rfl, hn, hE, rfl, hd, HW.out.2, HW.out.1⟩
    case round =>
      obtain ⟨t', hg, hn', hE', hf, hd', hk, hv⟩ := hrel
      have haw : wr.heap[a]? = some (.cells #[.pointer (some ⟨tb, 0, none⟩)] 35 (0, 0)) := (hk.block a (lt_of_heap ha) id).trans ha
      have htw : wr.heap[tb]? = some (.cells #[old] 30 (0, 0)) := (hk.block tb (lt_of_heap ht) id).trans ht
      have v0 := cells_of hv 0 _ rfl
      have v1 := cells_of hv 1 _ rfl
      have v2 := cells_of hv 2 _ rfl
      have HG : Hid (gk = t'.deep ∧ t'.deep ≤ n + 1 ∧ t'.first = t.first ∧ wr.heap[w.heap.size]? = some (valObj a) ∧ Keeps nobody w wr) := ⟨hg, hd', hf, hv, hk⟩
      clear HW hg hf hE hn hd hd' hv
      cases hE' with
      | nil => simp [Er.isNil] at hn'
      | @fl b op c v' e hb he =>
        have tO := typeOfFl
        have aF := assignFl
        have vF := valueOfFl
        have el := elemVPP ⟨a, 0, none⟩ ⟨tb, 0, none⟩ wr (cells_of haw 0 _ rfl)
        have hka := keeps_alloc wr (.cells #[.pointer (some ⟨b, 0, none⟩)] 30)
        have hta := (hka.block tb (lt_of_heap htw) id).trans htw
        have hbw : wr.heap[b]? = some (flObj op c v') := (hk.block b (lt_of_heap hb) id).trans hb
        have st := setP ⟨tb, 0, none⟩ ⟨wr.heap.size, 0, none⟩ ⟨b, 0, none⟩ old (wr.alloc (.cells #[.pointer (some ⟨b, 0, none⟩)] 30)) (by simp) (cells_of hta 0 old rfl) (thaw hta 0)
        have HS : Hid (FoundAt ((wr.alloc (.cells #[.pointer (some ⟨b, 0, none⟩)] 30)).setCell ⟨tb, 0, none⟩ (.pointer (some ⟨b, 0, none⟩))) tb c) := stored ((hka.block b (lt_of_heap hbw) id).trans hbw) hta
        clear hta hbw hka ha ht haw htw hb he IH
        go_wp2_with fail
        go_ret
        obtain ⟨_, _, hf, _, hk⟩ := HG.out
        exact .inl ⟨c, hf.symm.trans rfl, rfl, HS.out, Keeps.setCell (S := fun k => k = tb) (p := ⟨tb, 0, none⟩) ((hk.mono fun _ _ h => h.elim).alloc _) (.inl rfl) _⟩
      | @pl b m hb =>
        have tO := typeOfPl
        have aF := assignPl
        have a1 := pl_As
        have a2 := pl_U1
        have a3 := pl_U2
        clear ha ht haw htw hb IH
        go_wp2_with fail
        go_ret
        obtain ⟨_, _, hf, _, hk⟩ := HG.out
        exact .inr ⟨hf.symm.trans rfl, rfl, hk⟩
end Go.Proofs.YtekjnicgffeghaaDoor
