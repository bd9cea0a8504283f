/-
  errors.As over an error, at a target that is the address of a *fail.Failure variable: the first failure is found.
-/
import Derived.Test.YthgcbgdafoiacaaFmtEAsF
namespace Go.Proofs.YthgcbgdafoiacaaFmt
open Go.RowKit Go.Extern.Stop Go.Stop Go.Extern

/-- The target holds a failure of the code. -/
def FoundAt (w : World) (tb : Nat) (c : Int) : Prop := ∃ b op v, w.heap[tb]? = some (.cells #[.pointer (some ⟨b, 0, none⟩)] 43 (0, 0)) ∧ w.heap[b]? = some (flObj op c v)
/-- What errors.As tells of an error. -/
def AsPost (t : Er) (tb : Nat) (w : World) (e : Ending) (w' : World) : Prop :=
  (∃ c, t.first = some c ∧ e = .returned (.bool true) ∧ FoundAt w' tb c ∧ Keeps (fun k => k = tb) w w') ∨ (t.first = none ∧ e = .returned (.bool false) ∧ Keeps nobody w w')
abbrev valObj (a : Nat) : Obj := .cells #[.pointer (some ⟨2, 54, none⟩), .pointer (some ⟨a, 0, none⟩), .int .u64 150] 65 (0, 0)

theorem stored {w : World} {tb b : Nat} {op : ByteArray} {c : Int} {v old : Value} (hb : w.heap[b]? = some (flObj op c v)) (ht : w.heap[tb]? = some (.cells #[old] 43 (0, 0))) : FoundAt (w.setCell ⟨tb, 0, none⟩ (.pointer (some ⟨b, 0, none⟩))) tb c := by
  have hne : b ≠ tb := by
    intro e
    subst e
    rw [hb] at ht
    simp at ht
  refine ⟨b, op, v, ?_, ?_⟩
  · simp only [World.setCell, Array.getElem?_modify, if_true]
    rw [ht]
    rfl
  · rw [Below.heap_setCell _ _ _ b hne]
    exact hb

set_option maxRecDepth 100000 in
set_option maxHeartbeats 4000000 in
theorem as_ok (n : Nat) : ∀ (t : Er) (v : Value) (w : World) (a tb : Nat) (old : Value), t.deep ≤ n → t.isNil = false → Err w v t → w.heap[a]? = some (.cells #[.pointer (some ⟨tb, 0, none⟩)] 54 (0, 0)) → w.heap[tb]? = some (.cells #[old] 43 (0, 0)) →
    Calls Tryf.prog 26 #[v, .iface 54 (.pointer (some ⟨tb, 0, none⟩)), ppV ⟨a, 0, none⟩, rtV 43] w (AsPost t tb w) := by
  induction n with
  | zero => intro t v w a tb old hd hn; have := Er.deep_pos hn; omega
  | succ n ih =>
    intro t v w a tb old hd hn hE ha ht
    have IH : Hid (∀ (t : Er) (v : Value) (w : World) (a tb : Nat) (old : Value), t.deep ≤ n → t.isNil = false → Err w v t → w.heap[a]? = some (.cells #[.pointer (some ⟨tb, 0, none⟩)] 54 (0, 0)) → w.heap[tb]? = some (.cells #[old] 43 (0, 0)) →
      Calls Tryf.prog 26 #[v, .iface 54 (.pointer (some ⟨tb, 0, none⟩)), ppV ⟨a, 0, none⟩, rtV 43] w (AsPost t tb w)) := ih
    clear ih
    have h1 := hTO
    have h2 := hTA
    have h3 := hVE
    have h4 := hVO
    have h5 := hVS
    have mA := methodAssignableTo
    go_enter Tryf.func26, Tryf.ntmps26
    go_wp2_with fail
    have HW : Hid ((w.alloc (valObj a)).heap[w.heap.size]? = some (valObj a) ∧ Keeps nobody w (w.alloc (valObj a))) := ⟨heap_alloc_new w _, keeps_alloc _ _⟩
    go_loopg [0] t.deep (fun k u wr => ∃ t', k = t'.deep ∧ t'.isNil = false ∧ Err w u t' ∧ t'.first = t.first ∧ t'.deep ≤ n + 1 ∧ Keeps nobody w wr ∧ wr.heap[w.heap.size]? = some (valObj a))
    case atStart => exact ⟨t, rfl, hn, hE, rfl, hd, HW.out.2, HW.out.1⟩
    case round =>
      obtain ⟨t', hg, hn', hE', hf, hd', hk, hv⟩ := hrel
      have haw : wr.heap[a]? = some (.cells #[.pointer (some ⟨tb, 0, none⟩)] 54 (0, 0)) := (hk.block a (lt_of_heap ha) id).trans ha
      have htw : wr.heap[tb]? = some (.cells #[old] 43 (0, 0)) := (hk.block tb (lt_of_heap ht) id).trans ht
      have v0 := cells_of hv 0 _ rfl
      have v1 := cells_of hv 1 _ rfl
      have v2 := cells_of hv 2 _ rfl
      have HG : Hid (gk = t'.deep ∧ t'.deep ≤ n + 1 ∧ t'.first = t.first ∧ wr.heap[w.heap.size]? = some (valObj a) ∧ Keeps nobody w wr) := ⟨hg, hd', hf, hv, hk⟩
      clear HW hg hf hE hn hd hd' hv
      cases hE' with
      | nil => simp [Er.isNil] at hn'
      | @fl b op c v' e hb he =>
        have tO := typeOfFl
        have aF := assignFl
        have vF := valueOfFl
        have el := elemVPP ⟨a, 0, none⟩ ⟨tb, 0, none⟩ wr (cells_of haw 0 _ rfl)
        have hka := keeps_alloc wr (.cells #[.pointer (some ⟨b, 0, none⟩)] 43)
        have hta := (hka.block tb (lt_of_heap htw) id).trans htw
        have hbw : wr.heap[b]? = some (flObj op c v') := (hk.block b (lt_of_heap hb) id).trans hb
        have st := setP ⟨tb, 0, none⟩ ⟨wr.heap.size, 0, none⟩ ⟨b, 0, none⟩ old (wr.alloc (.cells #[.pointer (some ⟨b, 0, none⟩)] 43)) (by simp) (cells_of hta 0 old rfl) (thaw hta 0)
        have HS : Hid (FoundAt ((wr.alloc (.cells #[.pointer (some ⟨b, 0, none⟩)] 43)).setCell ⟨tb, 0, none⟩ (.pointer (some ⟨b, 0, none⟩))) tb c) := stored ((hka.block b (lt_of_heap hbw) id).trans hbw) hta
        clear hta hbw hka ha ht haw htw hb he IH
        go_wp2_with fail
        go_ret
        obtain ⟨_, _, hf, _, hk⟩ := HG.out
        exact .inl ⟨c, hf.symm.trans rfl, rfl, HS.out, Keeps.setCell (S := fun k => k = tb) (p := ⟨tb, 0, none⟩) ((hk.mono fun _ _ h => h.elim).alloc _) (.inl rfl) _⟩
      | @pl b m hb =>
        have tO := typeOfPl
        have aF := assignPl
        have a1 := pl_As
        have a2 := pl_U1
        have a3 := pl_U2
        clear ha ht haw htw hb IH
        go_wp2_with fail
        go_ret
        obtain ⟨_, _, hf, _, hk⟩ := HG.out
        exact .inr ⟨hf.symm.trans rfl, rfl, hk⟩
      | @wr b m v' e hb hne he =>
        have tO := typeOfWr
        have aF := assignWr
        have a1 := wr_As
        have a2 := wr_U1
        have mU := wr_mUnwrap
        have HU : Hid (Calls Tryf.prog 60 #[.pointer (some ⟨b, 0, none⟩)] wr fun e w' => e = .returned v' ∧ wr = w') := wrUnwrap b m v' wr ((hk.block b (lt_of_heap hb) id).trans hb)
        clear ha ht haw htw hb IH
        go_wp2_with fail
        refine Calls.mono HU.out ?_
        rintro e1 w1 ⟨rfl, rfl⟩
        obtain ⟨T, x, rfl⟩ := he.some hne
        go_wp2_with fail
        obtain ⟨hg, hd, hf, hv, hk⟩ := HG.out
        simp only [Er.deep] at hg hd
        go_roundg e.deep
        case measure => omega
        case rel => exact ⟨e, rfl, hne, he, hf, by omega, hk, hv⟩
      | @j1 b g v' e hb hgb hne he =>
        have tO := typeOfJn
        have aF := assignJn
        have a1 := jn_As
        have a2 := jn_U1
        have a3 := jn_U2
        have mU := jn_mUnwrap
        have HU : Hid (Calls Tryf.prog 62 #[.pointer (some ⟨b, 0, none⟩)] wr fun e w' => e = .returned (.slice (some ⟨g, 0, none⟩) 1 1) ∧ wr = w') := jnUnwrap b g 1 wr ((hk.block b (lt_of_heap hb) id).trans hb)
        have cg := cells_of ((hk.block g (lt_of_heap hgb) id).trans hgb) 0 v' rfl
        obtain ⟨T, x, rfl⟩ := he.some hne
        have HR : Hid (Calls Tryf.prog 26 #[.iface T x, .iface 54 (.pointer (some ⟨tb, 0, none⟩)), ppV ⟨a, 0, none⟩, rtV 43] wr (AsPost e tb wr)) := by
          obtain ⟨_, hd, _⟩ := HG.out
          simp only [Er.deep] at hd
          exact IH.out e _ wr a tb old (by omega) hne (he.quiet hk) haw htw
        clear ha ht haw htw hb hgb IH
        go_wp2_with fail
        refine Calls.mono HU.out ?_
        rintro e1 w1 ⟨rfl, rfl⟩
        go_wp2_with fail
        refine wp_loop_rounds 2 ?_
        rw [rounds_succ]
        go_wp2_with fail
        refine Calls.mono HR.out ?_
        rintro e1 w1 (⟨c, hc, rfl, hF, kF⟩ | ⟨hc, rfl, kF⟩)
        · go_wp2_with fail
          go_ret
          obtain ⟨_, _, hf, _, hk⟩ := HG.out
          exact .inl ⟨c, hf.symm.trans hc, rfl, hF, (hk.mono fun _ _ h => h.elim).trans kF fun _ _ h => h⟩
        · go_wp2_with fail
          rw [rounds_succ]
          go_wp2_with fail
          go_ret
          obtain ⟨_, _, hf, _, hk⟩ := HG.out
          exact .inr ⟨hf.symm.trans hc, rfl, hk.then kF⟩
      | @j2 b g k v' e c hb hgb hkb hne he =>
        have tO := typeOfJn
        have aF := assignJn
        have a1 := jn_As
        have a2 := jn_U1
        have a3 := jn_U2
        have mU := jn_mUnwrap
        have HU : Hid (Calls Tryf.prog 62 #[.pointer (some ⟨b, 0, none⟩)] wr fun e w' => e = .returned (.slice (some ⟨g, 0, none⟩) 2 2) ∧ wr = w') := jnUnwrap b g 2 wr ((hk.block b (lt_of_heap hb) id).trans hb)
        have hgw := (hk.block g (lt_of_heap hgb) id).trans hgb
        have cg := cells_of hgw 0 v' rfl
        obtain ⟨T, x, rfl⟩ := he.some hne
        have HR : Hid (Calls Tryf.prog 26 #[.iface T x, .iface 54 (.pointer (some ⟨tb, 0, none⟩)), ppV ⟨a, 0, none⟩, rtV 43] wr (AsPost e tb wr)) := by
          obtain ⟨_, hd, _⟩ := HG.out
          simp only [Er.deep] at hd
          exact IH.out e _ wr a tb old (by omega) hne (he.quiet hk) haw htw
        have HR2 : Hid (∀ w1, Keeps nobody wr w1 → w1.cell? ⟨g, 1, none⟩ = some (flV k) ∧ w1.cell? ⟨w.heap.size, 0, none⟩ = some (.pointer (some ⟨2, 54, none⟩)) ∧ w1.cell? ⟨w.heap.size, 1, none⟩ = some (.pointer (some ⟨a, 0, none⟩)) ∧ w1.cell? ⟨w.heap.size, 2, none⟩ = some (.int .u64 150) ∧ Calls Tryf.prog 26 #[flV k, .iface 54 (.pointer (some ⟨tb, 0, none⟩)), ppV ⟨a, 0, none⟩, rtV 43] w1 (AsPost (.fl ⟨#[]⟩ c .nil) tb w1)) := by
          intro w1 h1
          obtain ⟨_, hd, _, hv, _⟩ := HG.out
          have hv1 := (h1.block _ (lt_of_heap hv) id).trans hv
          have hdp := Er.deep_pos hne
          simp only [Er.deep] at hd
          exact ⟨cells_of ((h1.block g (lt_of_heap hgw) id).trans hgw) 1 _ rfl, cells_of hv1 0 _ rfl, cells_of hv1 1 _ rfl, cells_of hv1 2 _ rfl, IH.out (.fl ⟨#[]⟩ c .nil) _ w1 a tb old (by simp only [Er.deep]; omega) rfl (.fl (((hk.then h1).block k (lt_of_heap hkb) id).trans hkb) .nil) ((h1.block a (lt_of_heap haw) id).trans haw) ((h1.block tb (lt_of_heap htw) id).trans htw)⟩
        clear ha ht haw htw hb hgb hkb IH hgw
        go_wp2_with fail
        refine Calls.mono HU.out ?_
        rintro e1 w1 ⟨rfl, rfl⟩
        go_wp2_with fail
        refine wp_loop_rounds 3 ?_
        rw [rounds_succ]
        go_wp2_with fail
        refine Calls.mono HR.out ?_
        rintro e1 w1 (⟨c', hc, rfl, hF, kF⟩ | ⟨hc, rfl, kF⟩)
        · go_wp2_with fail
          go_ret
          obtain ⟨_, _, hf, _, hk⟩ := HG.out
          exact .inl ⟨c', hf.symm.trans (by simp [Er.first, hc]), rfl, hF, (hk.mono fun _ _ h => h.elim).trans kF fun _ _ h => h⟩
        · obtain ⟨cg1, x0, x1, x2, HQ⟩ := HR2.out w1 kF
          have HQ2 := hid HQ
          clear HQ HR HR2 HU v0 v1 v2 cg
          go_wp2_with fail
          rw [rounds_succ]
          go_wp2_with fail
          refine Calls.mono HQ2.out ?_
          rintro e1 w2 (⟨c', hc2, rfl, hF, kF2⟩ | ⟨hc2, rfl, kF2⟩)
          · simp only [Er.first, Option.some.injEq] at hc2
            subst hc2
            go_wp2_with fail
            go_ret
            obtain ⟨_, _, hf, _, hk⟩ := HG.out
            exact .inl ⟨c, hf.symm.trans (by simp [Er.first, hc]), rfl, hF, ((hk.then kF).mono fun _ _ h => h.elim).trans kF2 fun _ _ h => h⟩
          · simp [Er.first] at hc2
end Go.Proofs.YthgcbgdafoiacaaFmt
